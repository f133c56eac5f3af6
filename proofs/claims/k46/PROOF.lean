import PyProof.Rows.All
import Wide.All
import OpenK.AllK
import Wide.FinOn
import Lean
import PyProof.EqAt
import PyProof.EqKinds
import PyProof.TupleCall
import KE.KTryMore
import PyProof.NsDelKeeps
import OpenK.KOwn
import PyProof.ExcClass3
import KE.KSuper
import PyProof.InstStoreFacts
import PyProof.ExcArgsOwn
import PyProof.ExcAttrAll.ValueError
import KE.KIsAll
import PyProof.EnumFor
import PyProof.EnumStmt
import PyProof.EnumIter
import KE.KStar
import KE.KUnpack
import PyProof.ListRange
import PyProof.P3In
import PyProof.Rows.SortShell
import PyProof.Rows.SortWalk
import PyProof.SeqI3
import PyProof.WalkInts
import KE.KRevIter
import PyProof.CollectIter
import PyProof.TupleOfGen
import KE.KDictSum
import KE.KDictOf
import KE.KEqDict
import PyProof.AttrMissHeap
import KE.KPar
import KE.KSortTup
import PyProof.DictWalks
import PyProof.StrWalks
import PyProof.FString5
import PyProof.P3Eq
import PyProof.NeData
import PyProof.FactsAll.dict_1
import PySem.Challenge.RW_laterline_k46_letters_or_not
set_option Elab.async false
set_option linter.all false
set_option maxRecDepth 100000
namespace Hd
open PySem PySem.W
noncomputable def topT (tb : String → Option Builtin) (p : Program) (w : World) (n₀ : Nat) (ann : Option Value) : Nat → SharedT → Thread → Option SharedT
  | 0, _, _ => none
  | n + 1, s, t => match through t with
    | true => some s
    | false => match stepOk n₀ ann t with
      | false => none
      | true => match stepT (denote tb) p w s t with
        | some (s', t') => topT tb p w n₀ ann n s' t'
        | none => none
theorem topT_spec {tb : String → Option Builtin} {p : Program} {w : World} {n₀ : Nat} {ann : Option Value} : ∀ {n : Nat} {s s' : SharedT} {t : Thread}, topT tb p w n₀ ann n s t = some s' → topRun tb p w n₀ ann n s.abs t = some s'.abs
  | 0, _, _, _, h => by cases h
  | n + 1, s, s', t, h => by
    unfold topT at h
    unfold topRun
    cases e1 : through t with
    | true => rw [e1] at h; cases h; rfl
    | false =>
      rw [e1] at h
      cases e2 : stepOk n₀ ann t with
      | false => rw [e2] at h; cases h
      | true =>
        rw [e2] at h
        dsimp only at h ⊢
        cases e3 : stepT (denote tb) p w s t with
        | none => rw [e3] at h; cases h
        | some q =>
          obtain ⟨s1, t1⟩ := q
          rw [e3] at h
          rw [stepT_spec e3]
          exact topT_spec h
noncomputable def btOf (l : List Obj) : BT := (l.foldl (fun (q : BT × Nat) o => (q.1.ins q.2 o, q.2 + 1)) (BT.nil, 0)).1
noncomputable def start0 (P : Params) (os : OsState) : SharedT := ⟨btOf (boot_heap P).objs.toList, (boot_heap P).objs.size, (boot_heap P).life, Array.mk [], boot_drawn, boot_toks, os⟩
theorem start_abs (P : Params) (os : OsState) : (start0 P os).abs = ⟨boot_heap P, Array.mk [], boot_drawn, boot_toks, os⟩ := by kernel_rfl
theorem boot_is (P : Params) : ((boot_heap P).isNs mainGlobals && (Array.mk [] : Array GenState).size == 0) = true := by kernel_rfl
theorem left_of {p q : Program} {loose : List Str} {Xt : Shared → Bool} {α : Type} {Yf : Shared → α} {Ya : World → α} {N : Nat} (ho : opening p = plainProg p.main.scope.names) (hN : Nat.ble 600 N = true) (hf : ∀ s, fenceModules? p s = some s)
    (run : ∀ (w : World) (os : OsState), (topT treeTable p w (boot_heap w.params).objs.size ((boot_heap w.params).nsMap mainGlobals "__annotations__") N (start0 w.params os) (topStub p)).map (fun s =>
        ((staticsOk (importedModules p.main.body) (boot_heap w.params) s.abs.heap && namesBound p s.abs.heap && gensDone s.abs && laidKept (boot_heap w.params) s.abs.heap), openSeen q loose (importedModules p.main.body) Xt true s.abs, Yf s.abs)) = some (true, openGood q loose, Ya w)) :
    LeftO p q loose Xt Yf Ya N := fun w => by
  obtain ⟨⟨h, gs, d, k, os⟩, e, e'⟩ := Option.map_eq_some_iff.mp (boot_open (N := N) ho hN hf w)
  obtain ⟨rfl, rfl, rfl, rfl⟩ : h = boot_heap w.params ∧ gs = Array.mk [] ∧ d = boot_drawn ∧ k = boot_toks := by simpa using e'
  obtain ⟨s, r1, r2⟩ := Option.map_eq_some_iff.mp (run w os)
  obtain ⟨l1, l2, l3⟩ : _ ∧ _ ∧ _ := by simpa only [Prod.mk.injEq] using r2
  have r := topT_spec r1
  rw [start_abs] at r
  have t : topFrom treeTable p w N ⟨boot_heap w.params, Array.mk [], boot_drawn, boot_toks, os⟩ = some s.abs := by
    unfold topFrom
    dsimp only
    rw [boot_is, r]
    show (match staticsOk (importedModules p.main.body) (boot_heap w.params) s.abs.heap && namesBound p s.abs.heap && gensDone s.abs && laidKept (boot_heap w.params) s.abs.heap with | true => some s.abs | false => none) = _
    rw [l1]
  unfold openEnds
  rw [e]
  show (topFrom treeTable p w N _).map _ = _
  rw [t]
  exact congrArg some (Prod.ext l2 l3)
noncomputable def dArgs (s : Stmt) : Arguments := match s with
  | .FunctionDef _ a _ _ _ _ _ _ _ _ => a
  | _ => ⟨[], [], none, [], [], none, []⟩
noncomputable def dBody (s : Stmt) : List Stmt := match s with
  | .FunctionDef _ _ b _ _ _ _ _ _ _ => b
  | _ => []
noncomputable def dScope (s : Stmt) : Scope := match s with
  | .FunctionDef _ _ _ _ _ _ c _ _ _ => c
  | _ => { kind := .function, names := [], isGenerator := false, isCoroutine := false }
end Hd

namespace My
open PySem PyProof.Rows
noncomputable def top (i : Nat) : Stmt := PySem.Challenge.pw_laterline_k46_letters_or_not.main.body.getD i (.Pass ⟨0, 0, 0, 0⟩)
noncomputable abbrev qS (s : String) : Str := Str.ofString s
noncomputable abbrev vS (s : String) (t : Nat) : Value := .str (Str.ofString s) t
noncomputable abbrev dE (P : Params) (s : String) (t : Nat) (v : Value) : DictEntry := ⟨PyData.keyHash P (Str.ofString s), .str (Str.ofString s) t, v⟩
noncomputable abbrev tO (xs : Array Value) : PySem.Obj := ⟨.type "tuple", none, .seq xs 0, #[]⟩
noncomputable abbrev oO (c : Value) (d : Data) : PySem.Obj := ⟨c, none, d, #[]⟩
noncomputable abbrev vN :Value := Value.none
noncomputable abbrev vT :Value := .bool Bool.true
noncomputable abbrev vC (t : Nat) : Value := vS "/claim/cut.py" t
noncomputable abbrev vZ (i : Int) : Value := .int i 0
noncomputable def KF : PySem.Params → PySem.W.Frag := fun P =>
  (nat_lit 1, (oO (.type "dict") (Data.dict #[(dE P "builtins" 162 (.ref 4)), (dE P "__main__" 163 (.ref 5))] 2))) ::
  (nat_lit 2, (oO vN (Data.dict #[] 0))) ::
  (nat_lit 3, (oO (.type "dict") (Data.dict #[(dE P "__name__" 165 (vS "law_laterline_k46_letters_or_not" 357)), (dE P "__doc__" 166 vN), (dE P "__package__" 167 vN), (dE P "__loader__" 168 (Value.builtin "__main__.__loader__#opaque")), (dE P "__spec__" 169 vN), (dE P "__annotations__" 170 (.ref 6)), (dE P "__builtins__" 171 (.ref 4)), (dE P "__file__" 173 (vC 172)), (dE P "__cached__" 174 vN), (dE P "LAST_PLACE" 192 (.int 1000000 191)), (dE P "is_number" 199 (.ref 21)), (dE P "is_within" 208 (.ref 28)), (dE P "is_place" 215 (.ref 35)), (dE P "LINES" 219 (.int 60 218)), (dE P "LAST_LINE" 223 (.int 1000000000 222)), (dE P "is_line" 230 (.ref 42)), (dE P "is_line_and_place" 237 (.ref 49)), (dE P "is_history" 243 (.ref 54)), (dE P "MOST" 249 (.int 1000000000000000000 248)), (dE P "LONGEST_KEY" 251 (.int 12 250)), (dE P "is_key" 257 (.ref 59)), (dE P "is_value" 264 (.ref 66)), (dE P "is_word" 272 (.ref 73)), (dE P "is_set" 279 (.ref 80)), (dE P "is_cut" 286 (.ref 87)), (dE P "is_row" 293 (.ref 94)), (dE P "HOUSES" 297 (.int 8 296)), (dE P "is_house" 306 (.ref 102)), (dE P "is_saying" 319 (.ref 109)), (dE P "LETTERS" 323 (.int 2000 322)), (dE P "is_addressed" 330 (.ref 116)), (dE P "is_want" 336 (.ref 121)), (dE P "is_rows_letter" 342 (.ref 126)), (dE P "is_gone" 349 (.ref 133)), (dE P "is_letter" 356 (.ref 140)), (dE P "_law_state" 367 (.ref 147)), (dE P "_law_next" 378 (.ref 154)), (dE P "_law_whole" 385 (.ref 161)), (dE P "_law_key" 395 (.ref 168)), (dE P "_law_amount" 403 (.ref 175)), (dE P "_law_row" 412 (.ref 182)), (dE P "_law_keys" 418 (.ref 187)), (dE P "_law_says" 426 (.ref 194)), (dE P "_law_deep" 435 (.ref 201)), (dE P "_law_upto" 443 (.ref 208)), (dE P "_law_is_key" 449 (.ref 213)), (dE P "_law_is_row" 456 (.ref 220)), (dE P "_law_is_past" 465 (.ref 227)), (dE P "_law_is_said" 472 (.ref 234)), (dE P "_law_is_letter" 478 (.ref 239)), (dE P "_law_place" 485 (.ref 246)), (dE P "_law_line" 492 (.ref 253)), (dE P "_law_past" 504 (.ref 260)), (dE P "_law_said" 512 (.ref 267)), (dE P "_law_letter" 518 (.ref 272)), (dE P "_law_odd" 526 (.ref 279)), (dE P "_law_bent" 537 (.ref 286)), (dE P "_law_applied_fits" 544 (.ref 293)), (dE P "law" 550 (.ref 298))] 59))) ::
  (nat_lit 15, (tO #[])) ::
  (nat_lit 17, (tO #[(vS "thing" 196)])) ::
  (nat_lit 18, (tO #[])) ::
  (nat_lit 20, (oO (.type "code") (Data.fields #[(vS "is_number" 193), (vS "is_number" 194), (vC 195), (vZ 3), (vZ 1), (vZ 0), (vZ 0), (vZ 3), (.ref 15), vT, (vZ 181), (.ref 16), vN, (.ref 17), (.ref 18), (.ref 19), (vZ 197), (vZ 3), (vC 198)]))) ::
  (nat_lit 21, (oO (.type "function") (Data.func (FuncData.mk (qS "is_number") (qS "is_number") (Hd.dArgs (top 2)) (.stmts (Hd.dBody (top 2))) (Hd.dScope (top 2)) 3 [] vN vN vN (vS "laterline.counts" 187) none (.ref 20) vN 0)))) ::
  (nat_lit 22, (tO #[])) ::
  (nat_lit 24, (tO #[(vS "thing" 203), (vS "least" 204), (vS "most" 205)])) ::
  (nat_lit 25, (tO #[])) ::
  (nat_lit 27, (oO (.type "code") (Data.fields #[(vS "is_within" 200), (vS "is_within" 201), (vC 202), (vZ 5), (vZ 3), (vZ 0), (vZ 0), (vZ 3), (.ref 22), vT, (vZ 181), (.ref 23), vN, (.ref 24), (.ref 25), (.ref 26), (vZ 206), (vZ 5), (vC 207)]))) ::
  (nat_lit 28, (oO (.type "function") (Data.func (FuncData.mk (qS "is_within") (qS "is_within") (Hd.dArgs (top 3)) (.stmts (Hd.dBody (top 3))) (Hd.dScope (top 3)) 3 [] vN vN vN (vS "laterline.counts" 187) none (.ref 27) vN 0)))) ::
  (nat_lit 29, (tO #[])) ::
  (nat_lit 31, (tO #[(vS "thing" 212)])) ::
  (nat_lit 32, (tO #[])) ::
  (nat_lit 34, (oO (.type "code") (Data.fields #[(vS "is_place" 209), (vS "is_place" 210), (vC 211), (vZ 7), (vZ 1), (vZ 0), (vZ 0), (vZ 3), (.ref 29), vT, (vZ 181), (.ref 30), vN, (.ref 31), (.ref 32), (.ref 33), (vZ 213), (vZ 7), (vC 214)]))) ::
  (nat_lit 35, (oO (.type "function") (Data.func (FuncData.mk (qS "is_place") (qS "is_place") (Hd.dArgs (top 4)) (.stmts (Hd.dBody (top 4))) (Hd.dScope (top 4)) 3 [] vN vN vN (vS "laterline.counts" 187) none (.ref 34) vN 0)))) ::
  (nat_lit 36, (tO #[])) ::
  (nat_lit 38, (tO #[(vS "thing" 227)])) ::
  (nat_lit 39, (tO #[])) ::
  (nat_lit 41, (oO (.type "code") (Data.fields #[(vS "is_line" 224), (vS "is_line" 225), (vC 226), (vZ 12), (vZ 1), (vZ 0), (vZ 0), (vZ 3), (.ref 36), vT, (vZ 181), (.ref 37), vN, (.ref 38), (.ref 39), (.ref 40), (vZ 228), (vZ 12), (vC 229)]))) ::
  (nat_lit 42, (oO (.type "function") (Data.func (FuncData.mk (qS "is_line") (qS "is_line") (Hd.dArgs (top 8)) (.stmts (Hd.dBody (top 8))) (Hd.dScope (top 8)) 3 [] vN vN vN (vS "laterline.lines" 216) none (.ref 41) vN 0)))) ::
  (nat_lit 43, (tO #[])) ::
  (nat_lit 45, (tO #[(vS "thing" 234)])) ::
  (nat_lit 46, (tO #[])) ::
  (nat_lit 48, (oO (.type "code") (Data.fields #[(vS "is_line_and_place" 231), (vS "is_line_and_place" 232), (vC 233), (vZ 14), (vZ 1), (vZ 0), (vZ 0), (vZ 3), (.ref 43), vT, (vZ 181), (.ref 44), vN, (.ref 45), (.ref 46), (.ref 47), (vZ 235), (vZ 14), (vC 236)]))) ::
  (nat_lit 49, (oO (.type "function") (Data.func (FuncData.mk (qS "is_line_and_place") (qS "is_line_and_place") (Hd.dArgs (top 9)) (.stmts (Hd.dBody (top 9))) (Hd.dScope (top 9)) 3 [] vN vN vN (vS "laterline.lines" 216) none (.ref 48) vN 0)))) ::
  (nat_lit 50, (tO #[])) ::
  (nat_lit 53, (oO (.type "code") (Data.fields #[(vS "is_history" 238), (vS "is_history" 239), (vC 240), (vZ 16), (vZ 1), (vZ 0), (vZ 0), (vZ 3), (.ref 50), vT, (vZ 181), (.ref 51), vN, vN, vN, (.ref 52), (vZ 241), (vZ 16), (vC 242)]))) ::
  (nat_lit 54, (oO (.type "function") (Data.func (FuncData.mk (qS "is_history") (qS "is_history") (Hd.dArgs (top 10)) (.stmts (Hd.dBody (top 10))) (Hd.dScope (top 10)) 3 [] vN vN vN (vS "laterline.lines" 216) none (.ref 53) vN 0)))) ::
  (nat_lit 55, (tO #[])) ::
  (nat_lit 58, (oO (.type "code") (Data.fields #[(vS "is_key" 252), (vS "is_key" 253), (vC 254), (vZ 25), (vZ 1), (vZ 0), (vZ 0), (vZ 3), (.ref 55), vT, (vZ 181), (.ref 56), vN, vN, vN, (.ref 57), (vZ 255), (vZ 25), (vC 256)]))) ::
  (nat_lit 59, (oO (.type "function") (Data.func (FuncData.mk (qS "is_key") (qS "is_key") (Hd.dArgs (top 14)) (.stmts (Hd.dBody (top 14))) (Hd.dScope (top 14)) 3 [] vN vN vN (vS "laterline.rows" 244) none (.ref 58) vN 0)))) ::
  (nat_lit 60, (tO #[])) ::
  (nat_lit 62, (tO #[(vS "thing" 261)])) ::
  (nat_lit 63, (tO #[])) ::
  (nat_lit 65, (oO (.type "code") (Data.fields #[(vS "is_value" 258), (vS "is_value" 259), (vC 260), (vZ 29), (vZ 1), (vZ 0), (vZ 0), (vZ 3), (.ref 60), vT, (vZ 181), (.ref 61), vN, (.ref 62), (.ref 63), (.ref 64), (vZ 262), (vZ 29), (vC 263)]))) ::
  (nat_lit 66, (oO (.type "function") (Data.func (FuncData.mk (qS "is_value") (qS "is_value") (Hd.dArgs (top 15)) (.stmts (Hd.dBody (top 15))) (Hd.dScope (top 15)) 3 [] vN vN vN (vS "laterline.rows" 244) none (.ref 65) vN 0)))) ::
  (nat_lit 67, (tO #[])) ::
  (nat_lit 69, (tO #[(vS "thing" 268), (vS "word" 269)])) ::
  (nat_lit 70, (tO #[])) ::
  (nat_lit 72, (oO (.type "code") (Data.fields #[(vS "is_word" 265), (vS "is_word" 266), (vC 267), (vZ 31), (vZ 2), (vZ 0), (vZ 0), (vZ 3), (.ref 67), vT, (vZ 181), (.ref 68), vN, (.ref 69), (.ref 70), (.ref 71), (vZ 270), (vZ 31), (vC 271)]))) ::
  (nat_lit 73, (oO (.type "function") (Data.func (FuncData.mk (qS "is_word") (qS "is_word") (Hd.dArgs (top 16)) (.stmts (Hd.dBody (top 16))) (Hd.dScope (top 16)) 3 [] vN vN vN (vS "laterline.rows" 244) none (.ref 72) vN 0)))) ::
  (nat_lit 74, (tO #[])) ::
  (nat_lit 76, (tO #[(vS "thing" 276)])) ::
  (nat_lit 77, (tO #[])) ::
  (nat_lit 79, (oO (.type "code") (Data.fields #[(vS "is_set" 273), (vS "is_set" 274), (vC 275), (vZ 33), (vZ 1), (vZ 0), (vZ 0), (vZ 3), (.ref 74), vT, (vZ 181), (.ref 75), vN, (.ref 76), (.ref 77), (.ref 78), (vZ 277), (vZ 33), (vC 278)]))) ::
  (nat_lit 80, (oO (.type "function") (Data.func (FuncData.mk (qS "is_set") (qS "is_set") (Hd.dArgs (top 17)) (.stmts (Hd.dBody (top 17))) (Hd.dScope (top 17)) 3 [] vN vN vN (vS "laterline.rows" 244) none (.ref 79) vN 0)))) ::
  (nat_lit 81, (tO #[])) ::
  (nat_lit 83, (tO #[(vS "thing" 283)])) ::
  (nat_lit 84, (tO #[])) ::
  (nat_lit 86, (oO (.type "code") (Data.fields #[(vS "is_cut" 280), (vS "is_cut" 281), (vC 282), (vZ 35), (vZ 1), (vZ 0), (vZ 0), (vZ 3), (.ref 81), vT, (vZ 181), (.ref 82), vN, (.ref 83), (.ref 84), (.ref 85), (vZ 284), (vZ 35), (vC 285)]))) ::
  (nat_lit 87, (oO (.type "function") (Data.func (FuncData.mk (qS "is_cut") (qS "is_cut") (Hd.dArgs (top 18)) (.stmts (Hd.dBody (top 18))) (Hd.dScope (top 18)) 3 [] vN vN vN (vS "laterline.rows" 244) none (.ref 86) vN 0)))) ::
  (nat_lit 88, (tO #[])) ::
  (nat_lit 90, (tO #[(vS "thing" 290)])) ::
  (nat_lit 91, (tO #[])) ::
  (nat_lit 93, (oO (.type "code") (Data.fields #[(vS "is_row" 287), (vS "is_row" 288), (vC 289), (vZ 37), (vZ 1), (vZ 0), (vZ 0), (vZ 3), (.ref 88), vT, (vZ 181), (.ref 89), vN, (.ref 90), (.ref 91), (.ref 92), (vZ 291), (vZ 37), (vC 292)]))) ::
  (nat_lit 94, (oO (.type "function") (Data.func (FuncData.mk (qS "is_row") (qS "is_row") (Hd.dArgs (top 19)) (.stmts (Hd.dBody (top 19))) (Hd.dScope (top 19)) 3 [] vN vN vN (vS "laterline.rows" 244) none (.ref 93) vN 0)))) ::
  (nat_lit 95, (oO (.type "dict") (Data.dict #[(dE P "houses" 298 (.int 8 296))] 1))) ::
  (nat_lit 96, (tO #[])) ::
  (nat_lit 98, (tO #[(vS "thing" 302), (vS "houses" 303)])) ::
  (nat_lit 99, (tO #[])) ::
  (nat_lit 101, (oO (.type "code") (Data.fields #[(vS "is_house" 299), (vS "is_house" 300), (vC 301), (vZ 41), (vZ 1), (vZ 0), (vZ 1), (vZ 3), (.ref 96), vT, (vZ 181), (.ref 97), vN, (.ref 98), (.ref 99), (.ref 100), (vZ 304), (vZ 41), (vC 305)]))) ::
  (nat_lit 102, (oO (.type "function") (Data.func (FuncData.mk (qS "is_house") (qS "is_house") (Hd.dArgs (top 22)) (.stmts (Hd.dBody (top 22))) (Hd.dScope (top 22)) 3 [] vN (.ref 95) vN (vS "laterline.rules" 294) none (.ref 101) vN 0)))) ::
  (nat_lit 103, (tO #[])) ::
  (nat_lit 105, (tO #[(vS "thing" 312), (vS "house" 313), (vS "line" 314), (vS "end" 315), (vS "applied" 316)])) ::
  (nat_lit 106, (tO #[])) ::
  (nat_lit 108, (oO (.type "code") (Data.fields #[(vS "is_saying" 309), (vS "is_saying" 310), (vC 311), (vZ 44), (vZ 1), (vZ 0), (vZ 0), (vZ 3), (.ref 103), vT, (vZ 181), (.ref 104), vN, (.ref 105), (.ref 106), (.ref 107), (vZ 317), (vZ 44), (vC 318)]))) ::
  (nat_lit 109, (oO (.type "function") (Data.func (FuncData.mk (qS "is_saying") (qS "is_saying") (Hd.dArgs (top 24)) (.stmts (Hd.dBody (top 24))) (Hd.dScope (top 24)) 3 [] vN vN vN (vS "laterline.books" 307) none (.ref 108) vN 0)))) ::
  (nat_lit 110, (tO #[])) ::
  (nat_lit 112, (tO #[(vS "thing" 327)])) ::
  (nat_lit 113, (tO #[])) ::
  (nat_lit 115, (oO (.type "code") (Data.fields #[(vS "is_addressed" 324), (vS "is_addressed" 325), (vC 326), (vZ 51), (vZ 1), (vZ 0), (vZ 0), (vZ 3), (.ref 110), vT, (vZ 181), (.ref 111), vN, (.ref 112), (.ref 113), (.ref 114), (vZ 328), (vZ 51), (vC 329)]))) ::
  (nat_lit 116, (oO (.type "function") (Data.func (FuncData.mk (qS "is_addressed") (qS "is_addressed") (Hd.dArgs (top 27)) (.stmts (Hd.dBody (top 27))) (Hd.dScope (top 27)) 3 [] vN vN vN (vS "laterline.post" 320) none (.ref 115) vN 0)))) ::
  (nat_lit 117, (tO #[])) ::
  (nat_lit 120, (oO (.type "code") (Data.fields #[(vS "is_want" 331), (vS "is_want" 332), (vC 333), (vZ 55), (vZ 1), (vZ 0), (vZ 0), (vZ 3), (.ref 117), vT, (vZ 181), (.ref 118), vN, vN, vN, (.ref 119), (vZ 334), (vZ 55), (vC 335)]))) ::
  (nat_lit 121, (oO (.type "function") (Data.func (FuncData.mk (qS "is_want") (qS "is_want") (Hd.dArgs (top 28)) (.stmts (Hd.dBody (top 28))) (Hd.dScope (top 28)) 3 [] vN vN vN (vS "laterline.post" 320) none (.ref 120) vN 0)))) ::
  (nat_lit 122, (tO #[])) ::
  (nat_lit 125, (oO (.type "code") (Data.fields #[(vS "is_rows_letter" 337), (vS "is_rows_letter" 338), (vC 339), (vZ 60), (vZ 1), (vZ 0), (vZ 0), (vZ 3), (.ref 122), vT, (vZ 181), (.ref 123), vN, vN, vN, (.ref 124), (vZ 340), (vZ 60), (vC 341)]))) ::
  (nat_lit 126, (oO (.type "function") (Data.func (FuncData.mk (qS "is_rows_letter") (qS "is_rows_letter") (Hd.dArgs (top 29)) (.stmts (Hd.dBody (top 29))) (Hd.dScope (top 29)) 3 [] vN vN vN (vS "laterline.post" 320) none (.ref 125) vN 0)))) ::
  (nat_lit 127, (tO #[])) ::
  (nat_lit 129, (tO #[(vS "thing" 346)])) ::
  (nat_lit 130, (tO #[])) ::
  (nat_lit 132, (oO (.type "code") (Data.fields #[(vS "is_gone" 343), (vS "is_gone" 344), (vC 345), (vZ 64), (vZ 1), (vZ 0), (vZ 0), (vZ 3), (.ref 127), vT, (vZ 181), (.ref 128), vN, (.ref 129), (.ref 130), (.ref 131), (vZ 347), (vZ 64), (vC 348)]))) ::
  (nat_lit 133, (oO (.type "function") (Data.func (FuncData.mk (qS "is_gone") (qS "is_gone") (Hd.dArgs (top 30)) (.stmts (Hd.dBody (top 30))) (Hd.dScope (top 30)) 3 [] vN vN vN (vS "laterline.post" 320) none (.ref 132) vN 0)))) ::
  (nat_lit 134, (tO #[])) ::
  (nat_lit 136, (tO #[(vS "thing" 353)])) ::
  (nat_lit 137, (tO #[])) ::
  (nat_lit 139, (oO (.type "code") (Data.fields #[(vS "is_letter" 350), (vS "is_letter" 351), (vC 352), (vZ 66), (vZ 1), (vZ 0), (vZ 0), (vZ 3), (.ref 134), vT, (vZ 181), (.ref 135), vN, (.ref 136), (.ref 137), (.ref 138), (vZ 354), (vZ 66), (vC 355)]))) ::
  (nat_lit 140, (oO (.type "function") (Data.func (FuncData.mk (qS "is_letter") (qS "is_letter") (Hd.dArgs (top 31)) (.stmts (Hd.dBody (top 31))) (Hd.dScope (top 31)) 3 [] vN vN vN (vS "laterline.post" 320) none (.ref 139) vN 0)))) ::
  (nat_lit 141, (tO #[])) ::
  (nat_lit 143, (tO #[(vS "_law_script" 362), (vS "_law_seed" 363), (vS "_law_cells" 364)])) ::
  (nat_lit 144, (tO #[])) ::
  (nat_lit 146, (oO (.type "code") (Data.fields #[(vS "_law_state" 359), (vS "_law_state" 360), (vC 361), (vZ 71), (vZ 2), (vZ 0), (vZ 0), (vZ 3), (.ref 141), vT, (vZ 181), (.ref 142), vN, (.ref 143), (.ref 144), (.ref 145), (vZ 365), (vZ 71), (vC 366)]))) ::
  (nat_lit 147, (oO (.type "function") (Data.func (FuncData.mk (qS "_law_state") (qS "_law_state") (Hd.dArgs (top 33)) (.stmts (Hd.dBody (top 33))) (Hd.dScope (top 33)) 3 [] vN vN vN (vS "law_laterline_k46_letters_or_not" 357) none (.ref 146) vN 0)))) ::
  (nat_lit 148, (tO #[])) ::
  (nat_lit 150, (tO #[(vS "_law_state_here" 371), (vS "_law_below" 372), (vS "_law_found" 373), (vS "_law_cells" 374), (vS "_law_cell" 375)])) ::
  (nat_lit 151, (tO #[])) ::
  (nat_lit 153, (oO (.type "code") (Data.fields #[(vS "_law_next" 368), (vS "_law_next" 369), (vC 370), (vZ 76), (vZ 2), (vZ 0), (vZ 0), (vZ 3), (.ref 148), vT, (vZ 181), (.ref 149), vN, (.ref 150), (.ref 151), (.ref 152), (vZ 376), (vZ 76), (vC 377)]))) ::
  (nat_lit 154, (oO (.type "function") (Data.func (FuncData.mk (qS "_law_next") (qS "_law_next") (Hd.dArgs (top 34)) (.stmts (Hd.dBody (top 34))) (Hd.dScope (top 34)) 3 [] vN vN vN (vS "law_laterline_k46_letters_or_not" 357) none (.ref 153) vN 0)))) ::
  (nat_lit 155, (tO #[])) ::
  (nat_lit 157, (tO #[(vS "_law_found" 382)])) ::
  (nat_lit 158, (tO #[])) ::
  (nat_lit 160, (oO (.type "code") (Data.fields #[(vS "_law_whole" 379), (vS "_law_whole" 380), (vC 381), (vZ 89), (vZ 1), (vZ 0), (vZ 0), (vZ 3), (.ref 155), vT, (vZ 181), (.ref 156), vN, (.ref 157), (.ref 158), (.ref 159), (vZ 383), (vZ 89), (vC 384)]))) ::
  (nat_lit 161, (oO (.type "function") (Data.func (FuncData.mk (qS "_law_whole") (qS "_law_whole") (Hd.dArgs (top 35)) (.stmts (Hd.dBody (top 35))) (Hd.dScope (top 35)) 3 [] vN vN vN (vS "law_laterline_k46_letters_or_not" 357) none (.ref 160) vN 0)))) ::
  (nat_lit 162, (tO #[])) ::
  (nat_lit 164, (tO #[(vS "_law_state_here" 389), (vS "_law_letters" 390), (vS "_law_found" 391), (vS "_law_k" 392)])) ::
  (nat_lit 165, (tO #[])) ::
  (nat_lit 167, (oO (.type "code") (Data.fields #[(vS "_law_key" 386), (vS "_law_key" 387), (vC 388), (vZ 91), (vZ 1), (vZ 0), (vZ 0), (vZ 3), (.ref 162), vT, (vZ 181), (.ref 163), vN, (.ref 164), (.ref 165), (.ref 166), (vZ 393), (vZ 91), (vC 394)]))) ::
  (nat_lit 168, (oO (.type "function") (Data.func (FuncData.mk (qS "_law_key") (qS "_law_key") (Hd.dArgs (top 36)) (.stmts (Hd.dBody (top 36))) (Hd.dScope (top 36)) 3 [] vN vN vN (vS "law_laterline_k46_letters_or_not" 357) none (.ref 167) vN 0)))) ::
  (nat_lit 169, (tO #[])) ::
  (nat_lit 171, (tO #[(vS "_law_state_here" 399), (vS "_law_way" 400)])) ::
  (nat_lit 172, (tO #[])) ::
  (nat_lit 174, (oO (.type "code") (Data.fields #[(vS "_law_amount" 396), (vS "_law_amount" 397), (vC 398), (vZ 99), (vZ 1), (vZ 0), (vZ 0), (vZ 3), (.ref 169), vT, (vZ 181), (.ref 170), vN, (.ref 171), (.ref 172), (.ref 173), (vZ 401), (vZ 99), (vC 402)]))) ::
  (nat_lit 175, (oO (.type "function") (Data.func (FuncData.mk (qS "_law_amount") (qS "_law_amount") (Hd.dArgs (top 37)) (.stmts (Hd.dBody (top 37))) (Hd.dScope (top 37)) 3 [] vN vN vN (vS "law_laterline_k46_letters_or_not" 357) none (.ref 174) vN 0)))) ::
  (nat_lit 176, (tO #[])) ::
  (nat_lit 178, (tO #[(vS "_law_state_here" 407), (vS "_law_keys_here" 408), (vS "_law_key_here" 409)])) ::
  (nat_lit 179, (tO #[])) ::
  (nat_lit 181, (oO (.type "code") (Data.fields #[(vS "_law_row" 404), (vS "_law_row" 405), (vC 406), (vZ 106), (vZ 2), (vZ 0), (vZ 0), (vZ 3), (.ref 176), vT, (vZ 181), (.ref 177), vN, (.ref 178), (.ref 179), (.ref 180), (vZ 410), (vZ 106), (vC 411)]))) ::
  (nat_lit 182, (oO (.type "function") (Data.func (FuncData.mk (qS "_law_row") (qS "_law_row") (Hd.dArgs (top 38)) (.stmts (Hd.dBody (top 38))) (Hd.dScope (top 38)) 3 [] vN vN vN (vS "law_laterline_k46_letters_or_not" 357) none (.ref 181) vN 0)))) ::
  (nat_lit 183, (tO #[])) ::
  (nat_lit 186, (oO (.type "code") (Data.fields #[(vS "_law_keys" 413), (vS "_law_keys" 414), (vC 415), (vZ 111), (vZ 1), (vZ 0), (vZ 0), (vZ 3), (.ref 183), vT, (vZ 181), (.ref 184), vN, vN, vN, (.ref 185), (vZ 416), (vZ 111), (vC 417)]))) ::
  (nat_lit 187, (oO (.type "function") (Data.func (FuncData.mk (qS "_law_keys") (qS "_law_keys") (Hd.dArgs (top 39)) (.stmts (Hd.dBody (top 39))) (Hd.dScope (top 39)) 3 [] vN vN vN (vS "law_laterline_k46_letters_or_not" 357) none (.ref 186) vN 0)))) ::
  (nat_lit 188, (tO #[])) ::
  (nat_lit 190, (tO #[(vS "_law_found" 422), (vS "_law_due" 423)])) ::
  (nat_lit 191, (tO #[])) ::
  (nat_lit 193, (oO (.type "code") (Data.fields #[(vS "_law_says" 419), (vS "_law_says" 420), (vC 421), (vZ 113), (vZ 2), (vZ 0), (vZ 0), (vZ 3), (.ref 188), vT, (vZ 181), (.ref 189), vN, (.ref 190), (.ref 191), (.ref 192), (vZ 424), (vZ 113), (vC 425)]))) ::
  (nat_lit 194, (oO (.type "function") (Data.func (FuncData.mk (qS "_law_says") (qS "_law_says") (Hd.dArgs (top 40)) (.stmts (Hd.dBody (top 40))) (Hd.dScope (top 40)) 3 [] vN vN vN (vS "law_laterline_k46_letters_or_not" 357) none (.ref 193) vN 0)))) ::
  (nat_lit 195, (tO #[])) ::
  (nat_lit 197, (tO #[(vS "_law_many" 430), (vS "_law_found" 431), (vS "_law_k" 432)])) ::
  (nat_lit 198, (tO #[])) ::
  (nat_lit 200, (oO (.type "code") (Data.fields #[(vS "_law_deep" 427), (vS "_law_deep" 428), (vC 429), (vZ 115), (vZ 1), (vZ 0), (vZ 0), (vZ 3), (.ref 195), vT, (vZ 181), (.ref 196), vN, (.ref 197), (.ref 198), (.ref 199), (vZ 433), (vZ 115), (vC 434)]))) ::
  (nat_lit 201, (oO (.type "function") (Data.func (FuncData.mk (qS "_law_deep") (qS "_law_deep") (Hd.dArgs (top 41)) (.stmts (Hd.dBody (top 41))) (Hd.dScope (top 41)) 3 [] vN vN vN (vS "law_laterline_k46_letters_or_not" 357) none (.ref 200) vN 0)))) ::
  (nat_lit 202, (tO #[])) ::
  (nat_lit 204, (tO #[(vS "_law_thing" 439), (vS "_law_most" 440)])) ::
  (nat_lit 205, (tO #[])) ::
  (nat_lit 207, (oO (.type "code") (Data.fields #[(vS "_law_upto" 436), (vS "_law_upto" 437), (vC 438), (vZ 120), (vZ 2), (vZ 0), (vZ 0), (vZ 3), (.ref 202), vT, (vZ 181), (.ref 203), vN, (.ref 204), (.ref 205), (.ref 206), (vZ 441), (vZ 120), (vC 442)]))) ::
  (nat_lit 208, (oO (.type "function") (Data.func (FuncData.mk (qS "_law_upto") (qS "_law_upto") (Hd.dArgs (top 42)) (.stmts (Hd.dBody (top 42))) (Hd.dScope (top 42)) 3 [] vN vN vN (vS "law_laterline_k46_letters_or_not" 357) none (.ref 207) vN 0)))) ::
  (nat_lit 209, (tO #[])) ::
  (nat_lit 212, (oO (.type "code") (Data.fields #[(vS "_law_is_key" 444), (vS "_law_is_key" 445), (vC 446), (vZ 122), (vZ 1), (vZ 0), (vZ 0), (vZ 3), (.ref 209), vT, (vZ 181), (.ref 210), vN, vN, vN, (.ref 211), (vZ 447), (vZ 122), (vC 448)]))) ::
  (nat_lit 213, (oO (.type "function") (Data.func (FuncData.mk (qS "_law_is_key") (qS "_law_is_key") (Hd.dArgs (top 43)) (.stmts (Hd.dBody (top 43))) (Hd.dScope (top 43)) 3 [] vN vN vN (vS "law_laterline_k46_letters_or_not" 357) none (.ref 212) vN 0)))) ::
  (nat_lit 214, (tO #[])) ::
  (nat_lit 216, (tO #[(vS "_law_thing" 453)])) ::
  (nat_lit 217, (tO #[])) ::
  (nat_lit 219, (oO (.type "code") (Data.fields #[(vS "_law_is_row" 450), (vS "_law_is_row" 451), (vC 452), (vZ 126), (vZ 1), (vZ 0), (vZ 0), (vZ 3), (.ref 214), vT, (vZ 181), (.ref 215), vN, (.ref 216), (.ref 217), (.ref 218), (vZ 454), (vZ 126), (vC 455)]))) ::
  (nat_lit 220, (oO (.type "function") (Data.func (FuncData.mk (qS "_law_is_row") (qS "_law_is_row") (Hd.dArgs (top 44)) (.stmts (Hd.dBody (top 44))) (Hd.dScope (top 44)) 3 [] vN vN vN (vS "law_laterline_k46_letters_or_not" 357) none (.ref 219) vN 0)))) ::
  (nat_lit 221, (tO #[])) ::
  (nat_lit 223, (tO #[(vS "_law_thing" 460), (vS "_law_pair" 461), (vS "_law_k" 462)])) ::
  (nat_lit 224, (tO #[])) ::
  (nat_lit 226, (oO (.type "code") (Data.fields #[(vS "_law_is_past" 457), (vS "_law_is_past" 458), (vC 459), (vZ 132), (vZ 1), (vZ 0), (vZ 0), (vZ 3), (.ref 221), vT, (vZ 181), (.ref 222), vN, (.ref 223), (.ref 224), (.ref 225), (vZ 463), (vZ 132), (vC 464)]))) ::
  (nat_lit 227, (oO (.type "function") (Data.func (FuncData.mk (qS "_law_is_past") (qS "_law_is_past") (Hd.dArgs (top 45)) (.stmts (Hd.dBody (top 45))) (Hd.dScope (top 45)) 3 [] vN vN vN (vS "law_laterline_k46_letters_or_not" 357) none (.ref 226) vN 0)))) ::
  (nat_lit 228, (tO #[])) ::
  (nat_lit 230, (tO #[(vS "_law_thing" 469)])) ::
  (nat_lit 231, (tO #[])) ::
  (nat_lit 233, (oO (.type "code") (Data.fields #[(vS "_law_is_said" 466), (vS "_law_is_said" 467), (vC 468), (vZ 144), (vZ 1), (vZ 0), (vZ 0), (vZ 3), (.ref 228), vT, (vZ 181), (.ref 229), vN, (.ref 230), (.ref 231), (.ref 232), (vZ 470), (vZ 144), (vC 471)]))) ::
  (nat_lit 234, (oO (.type "function") (Data.func (FuncData.mk (qS "_law_is_said") (qS "_law_is_said") (Hd.dArgs (top 46)) (.stmts (Hd.dBody (top 46))) (Hd.dScope (top 46)) 3 [] vN vN vN (vS "law_laterline_k46_letters_or_not" 357) none (.ref 233) vN 0)))) ::
  (nat_lit 235, (tO #[])) ::
  (nat_lit 238, (oO (.type "code") (Data.fields #[(vS "_law_is_letter" 473), (vS "_law_is_letter" 474), (vC 475), (vZ 148), (vZ 1), (vZ 0), (vZ 0), (vZ 3), (.ref 235), vT, (vZ 181), (.ref 236), vN, vN, vN, (.ref 237), (vZ 476), (vZ 148), (vC 477)]))) ::
  (nat_lit 239, (oO (.type "function") (Data.func (FuncData.mk (qS "_law_is_letter") (qS "_law_is_letter") (Hd.dArgs (top 47)) (.stmts (Hd.dBody (top 47))) (Hd.dScope (top 47)) 3 [] vN vN vN (vS "law_laterline_k46_letters_or_not" 357) none (.ref 238) vN 0)))) ::
  (nat_lit 240, (tO #[])) ::
  (nat_lit 242, (tO #[(vS "_law_state_here" 482)])) ::
  (nat_lit 243, (tO #[])) ::
  (nat_lit 245, (oO (.type "code") (Data.fields #[(vS "_law_place" 479), (vS "_law_place" 480), (vC 481), (vZ 162), (vZ 1), (vZ 0), (vZ 0), (vZ 3), (.ref 240), vT, (vZ 181), (.ref 241), vN, (.ref 242), (.ref 243), (.ref 244), (vZ 483), (vZ 162), (vC 484)]))) ::
  (nat_lit 246, (oO (.type "function") (Data.func (FuncData.mk (qS "_law_place") (qS "_law_place") (Hd.dArgs (top 48)) (.stmts (Hd.dBody (top 48))) (Hd.dScope (top 48)) 3 [] vN vN vN (vS "law_laterline_k46_letters_or_not" 357) none (.ref 245) vN 0)))) ::
  (nat_lit 247, (tO #[])) ::
  (nat_lit 249, (tO #[(vS "_law_state_here" 489)])) ::
  (nat_lit 250, (tO #[])) ::
  (nat_lit 252, (oO (.type "code") (Data.fields #[(vS "_law_line" 486), (vS "_law_line" 487), (vC 488), (vZ 164), (vZ 1), (vZ 0), (vZ 0), (vZ 3), (.ref 247), vT, (vZ 181), (.ref 248), vN, (.ref 249), (.ref 250), (.ref 251), (vZ 490), (vZ 164), (vC 491)]))) ::
  (nat_lit 253, (oO (.type "function") (Data.func (FuncData.mk (qS "_law_line") (qS "_law_line") (Hd.dArgs (top 49)) (.stmts (Hd.dBody (top 49))) (Hd.dScope (top 49)) 3 [] vN vN vN (vS "law_laterline_k46_letters_or_not" 357) none (.ref 252) vN 0)))) ::
  (nat_lit 254, (tO #[])) ::
  (nat_lit 256, (tO #[(vS "_law_state_here" 496), (vS "_law_found" 497), (vS "_law_k" 498), (vS "_law_line_here" 499), (vS "_law_fork" 500), (vS "_law_later" 501)])) ::
  (nat_lit 257, (tO #[])) ::
  (nat_lit 259, (oO (.type "code") (Data.fields #[(vS "_law_past" 493), (vS "_law_past" 494), (vC 495), (vZ 166), (vZ 1), (vZ 0), (vZ 0), (vZ 3), (.ref 254), vT, (vZ 181), (.ref 255), vN, (.ref 256), (.ref 257), (.ref 258), (vZ 502), (vZ 166), (vC 503)]))) ::
  (nat_lit 260, (oO (.type "function") (Data.func (FuncData.mk (qS "_law_past") (qS "_law_past") (Hd.dArgs (top 50)) (.stmts (Hd.dBody (top 50))) (Hd.dScope (top 50)) 3 [] vN vN vN (vS "law_laterline_k46_letters_or_not" 357) none (.ref 259) vN 0)))) ::
  (nat_lit 261, (tO #[])) ::
  (nat_lit 263, (tO #[(vS "_law_state_here" 508), (vS "_law_end" 509)])) ::
  (nat_lit 264, (tO #[])) ::
  (nat_lit 266, (oO (.type "code") (Data.fields #[(vS "_law_said" 505), (vS "_law_said" 506), (vC 507), (vZ 173), (vZ 1), (vZ 0), (vZ 0), (vZ 3), (.ref 261), vT, (vZ 181), (.ref 262), vN, (.ref 263), (.ref 264), (.ref 265), (vZ 510), (vZ 173), (vC 511)]))) ::
  (nat_lit 267, (oO (.type "function") (Data.func (FuncData.mk (qS "_law_said") (qS "_law_said") (Hd.dArgs (top 51)) (.stmts (Hd.dBody (top 51))) (Hd.dScope (top 51)) 3 [] vN vN vN (vS "law_laterline_k46_letters_or_not" 357) none (.ref 266) vN 0)))) ::
  (nat_lit 268, (tO #[])) ::
  (nat_lit 271, (oO (.type "code") (Data.fields #[(vS "_law_letter" 513), (vS "_law_letter" 514), (vC 515), (vZ 176), (vZ 1), (vZ 0), (vZ 0), (vZ 3), (.ref 268), vT, (vZ 181), (.ref 269), vN, vN, vN, (.ref 270), (vZ 516), (vZ 176), (vC 517)]))) ::
  (nat_lit 272, (oO (.type "function") (Data.func (FuncData.mk (qS "_law_letter") (qS "_law_letter") (Hd.dArgs (top 52)) (.stmts (Hd.dBody (top 52))) (Hd.dScope (top 52)) 3 [] vN vN vN (vS "law_laterline_k46_letters_or_not" 357) none (.ref 271) vN 0)))) ::
  (nat_lit 273, (tO #[])) ::
  (nat_lit 275, (tO #[(vS "_law_state_here" 522), (vS "_law_things" 523)])) ::
  (nat_lit 276, (tO #[])) ::
  (nat_lit 278, (oO (.type "code") (Data.fields #[(vS "_law_odd" 519), (vS "_law_odd" 520), (vC 521), (vZ 188), (vZ 1), (vZ 0), (vZ 0), (vZ 3), (.ref 273), vT, (vZ 181), (.ref 274), vN, (.ref 275), (.ref 276), (.ref 277), (vZ 524), (vZ 188), (vC 525)]))) ::
  (nat_lit 279, (oO (.type "function") (Data.func (FuncData.mk (qS "_law_odd") (qS "_law_odd") (Hd.dArgs (top 53)) (.stmts (Hd.dBody (top 53))) (Hd.dScope (top 53)) 3 [] vN vN vN (vS "law_laterline_k46_letters_or_not" 357) none (.ref 278) vN 0)))) ::
  (nat_lit 280, (tO #[])) ::
  (nat_lit 282, (tO #[(vS "_law_state_here" 530), (vS "_law_thing" 531), (vS "_law_depth" 532), (vS "_law_way" 533), (vS "_law_at" 534)])) ::
  (nat_lit 283, (tO #[])) ::
  (nat_lit 285, (oO (.type "code") (Data.fields #[(vS "_law_bent" 527), (vS "_law_bent" 528), (vC 529), (vZ 191), (vZ 3), (vZ 0), (vZ 0), (vZ 3), (.ref 280), vT, (vZ 181), (.ref 281), vN, (.ref 282), (.ref 283), (.ref 284), (vZ 535), (vZ 191), (vC 536)]))) ::
  (nat_lit 286, (oO (.type "function") (Data.func (FuncData.mk (qS "_law_bent") (qS "_law_bent") (Hd.dArgs (top 54)) (.stmts (Hd.dBody (top 54))) (Hd.dScope (top 54)) 3 [] vN vN vN (vS "law_laterline_k46_letters_or_not" 357) none (.ref 285) vN 0)))) ::
  (nat_lit 287, (tO #[])) ::
  (nat_lit 289, (tO #[(vS "_law_thing" 541)])) ::
  (nat_lit 290, (tO #[])) ::
  (nat_lit 292, (oO (.type "code") (Data.fields #[(vS "_law_applied_fits" 538), (vS "_law_applied_fits" 539), (vC 540), (vZ 201), (vZ 1), (vZ 0), (vZ 0), (vZ 3), (.ref 287), vT, (vZ 181), (.ref 288), vN, (.ref 289), (.ref 290), (.ref 291), (vZ 542), (vZ 201), (vC 543)]))) ::
  (nat_lit 293, (oO (.type "function") (Data.func (FuncData.mk (qS "_law_applied_fits") (qS "_law_applied_fits") (Hd.dArgs (top 55)) (.stmts (Hd.dBody (top 55))) (Hd.dScope (top 55)) 3 [] vN vN vN (vS "law_laterline_k46_letters_or_not" 357) none (.ref 292) vN 0)))) ::
  (nat_lit 294, (tO #[])) ::
  (nat_lit 297, (oO (.type "code") (Data.fields #[(vS "law" 545), (vS "law" 546), (vC 547), (vZ 205), (vZ 1), (vZ 0), (vZ 0), (vZ 3), (.ref 294), vT, (vZ 181), (.ref 295), vN, vN, vN, (.ref 296), (vZ 548), (vZ 205), (vC 549)]))) ::
  (nat_lit 298, (oO (.type "function") (Data.func (FuncData.mk (qS "law") (qS "law") (Hd.dArgs (top 56)) (.stmts (Hd.dBody (top 56))) (Hd.dScope (top 56)) 3 [] vN vN vN (vS "law_laterline_k46_letters_or_not" 357) none (.ref 297) vN 0)))) :: []
noncomputable def KA : List Addr := [nat_lit 1, nat_lit 2, nat_lit 3, nat_lit 15, nat_lit 17, nat_lit 18, nat_lit 20, nat_lit 21, nat_lit 22, nat_lit 24, nat_lit 25, nat_lit 27, nat_lit 28, nat_lit 29, nat_lit 31, nat_lit 32, nat_lit 34, nat_lit 35, nat_lit 36, nat_lit 38, nat_lit 39, nat_lit 41, nat_lit 42, nat_lit 43, nat_lit 45, nat_lit 46, nat_lit 48, nat_lit 49, nat_lit 50, nat_lit 53, nat_lit 54, nat_lit 55, nat_lit 58, nat_lit 59, nat_lit 60, nat_lit 62, nat_lit 63, nat_lit 65, nat_lit 66, nat_lit 67, nat_lit 69, nat_lit 70, nat_lit 72, nat_lit 73, nat_lit 74, nat_lit 76, nat_lit 77, nat_lit 79, nat_lit 80, nat_lit 81, nat_lit 83, nat_lit 84, nat_lit 86, nat_lit 87, nat_lit 88, nat_lit 90, nat_lit 91, nat_lit 93, nat_lit 94, nat_lit 95, nat_lit 96, nat_lit 98, nat_lit 99, nat_lit 101, nat_lit 102, nat_lit 103, nat_lit 105, nat_lit 106, nat_lit 108, nat_lit 109, nat_lit 110, nat_lit 112, nat_lit 113, nat_lit 115, nat_lit 116, nat_lit 117, nat_lit 120, nat_lit 121, nat_lit 122, nat_lit 125, nat_lit 126, nat_lit 127, nat_lit 129, nat_lit 130, nat_lit 132, nat_lit 133, nat_lit 134, nat_lit 136, nat_lit 137, nat_lit 139, nat_lit 140, nat_lit 141, nat_lit 143, nat_lit 144, nat_lit 146, nat_lit 147, nat_lit 148, nat_lit 150, nat_lit 151, nat_lit 153, nat_lit 154, nat_lit 155, nat_lit 157, nat_lit 158, nat_lit 160, nat_lit 161, nat_lit 162, nat_lit 164, nat_lit 165, nat_lit 167, nat_lit 168, nat_lit 169, nat_lit 171, nat_lit 172, nat_lit 174, nat_lit 175, nat_lit 176, nat_lit 178, nat_lit 179, nat_lit 181, nat_lit 182, nat_lit 183, nat_lit 186, nat_lit 187, nat_lit 188, nat_lit 190, nat_lit 191, nat_lit 193, nat_lit 194, nat_lit 195, nat_lit 197, nat_lit 198, nat_lit 200, nat_lit 201, nat_lit 202, nat_lit 204, nat_lit 205, nat_lit 207, nat_lit 208, nat_lit 209, nat_lit 212, nat_lit 213, nat_lit 214, nat_lit 216, nat_lit 217, nat_lit 219, nat_lit 220, nat_lit 221, nat_lit 223, nat_lit 224, nat_lit 226, nat_lit 227, nat_lit 228, nat_lit 230, nat_lit 231, nat_lit 233, nat_lit 234, nat_lit 235, nat_lit 238, nat_lit 239, nat_lit 240, nat_lit 242, nat_lit 243, nat_lit 245, nat_lit 246, nat_lit 247, nat_lit 249, nat_lit 250, nat_lit 252, nat_lit 253, nat_lit 254, nat_lit 256, nat_lit 257, nat_lit 259, nat_lit 260, nat_lit 261, nat_lit 263, nat_lit 264, nat_lit 266, nat_lit 267, nat_lit 268, nat_lit 271, nat_lit 272, nat_lit 273, nat_lit 275, nat_lit 276, nat_lit 278, nat_lit 279, nat_lit 280, nat_lit 282, nat_lit 283, nat_lit 285, nat_lit 286, nat_lit 287, nat_lit 289, nat_lit 290, nat_lit 292, nat_lit 293, nat_lit 294, nat_lit 297, nat_lit 298]
theorem ke : ∀ P, KA = (KF P).map (·.1) := fun _ => by kernel_rfl
noncomputable def vw : Program := { PySem.Challenge.pw_laterline_k46_letters_or_not with main := { PySem.Challenge.pw_laterline_k46_letters_or_not.main with body := [top 1, top 2, top 3, top 4, top 6, top 7, top 8, top 9, top 10, top 12, top 13, top 14, top 15, top 16, top 17, top 18, top 19, top 21, top 24, top 26, top 27, top 28, top 29, top 30, top 31, top 33, top 34, top 35, top 36, top 37, top 38, top 39, top 40, top 41, top 42, top 43, top 44, top 45, top 46, top 47, top 48, top 49, top 50, top 51, top 52, top 53, top 54, top 55, top 56] } }
noncomputable def lv : List (Str × PySem.W.WData) := [("LAST_PLACE", (.int 1000000)), ("LAST_LINE", (.int 1000000000)), ("MOST", (.int 1000000000000000000))]
noncomputable def lo : List Str := ["LAST_PLACE", "LAST_LINE", "MOST", "is_house"]
noncomputable def xt : Shared → Bool := fun s => PySem.W.xlAt vw lv s && PySem.W.recOk (PySem.W.RowW.records (PySem.W.OpenRow.toRowW (PySem.W.OpenLaw.row PySem.Challenge.rw_laterline_k46_letters_or_not))) s
set_option maxHeartbeats 0 in
theorem ran : ∀ (w : World) (os : OsState), (Hd.topT PySem.treeTable PySem.Challenge.pw_laterline_k46_letters_or_not w (PySem.W.boot_heap w.params).objs.size ((PySem.W.boot_heap w.params).nsMap mainGlobals "__annotations__") 2942 (Hd.start0 w.params os) (PySem.W.topStub PySem.Challenge.pw_laterline_k46_letters_or_not)).map (fun s =>
    ((PySem.W.staticsOk (importedModules PySem.Challenge.pw_laterline_k46_letters_or_not.main.body) (PySem.W.boot_heap w.params) s.abs.heap && PySem.W.namesBound PySem.Challenge.pw_laterline_k46_letters_or_not s.abs.heap && PySem.W.gensDone s.abs && PySem.W.laidKept (PySem.W.boot_heap w.params) s.abs.heap), PySem.W.openSeen vw lo (importedModules PySem.Challenge.pw_laterline_k46_letters_or_not.main.body) xt true s.abs, (PySem.W.kHook KF KA ke).obs s.abs)) = some (true, PySem.W.openGood vw lo, (PySem.W.kHook KF KA ke).val w) := by
  intro w os
  kernel_rfl
theorem left : PySem.W.LeftO PySem.Challenge.pw_laterline_k46_letters_or_not vw lo xt (PySem.W.kHook KF KA ke).obs (PySem.W.kHook KF KA ke).val 2942 := Hd.left_of (by kernel_rfl) (by decide) (fun _ => by kernel_rfl) ran
end My
namespace L2
open PySem PySem.Spec PyProof.Rows

noncomputable abbrev Key := Sum Int Str
noncomputable def keyIs : Key → Value → Bool
  | .inl k, v => Value.isInt k v
  | .inr x, v => Value.isStrOf x v
noncomputable def keyH (w : World) : Key → Int
  | .inl k => hashInt k
  | .inr x => hashStr w x
theorem keyIs_shape : ∀ {k : Key} {v : Value}, keyIs k v = true → (∃ i t, k = Sum.inl i ∧ v = Value.int i t) ∨ (∃ x t, k = Sum.inr x ∧ v = Value.str x t)
  | .inl i, v, h => by
    obtain ⟨t, e⟩ := Value.isInt_shape (k := i) (v := v) h
    exact .inl ⟨i, t, rfl, e⟩
  | .inr x, v, h => by
    obtain ⟨t, e⟩ := Value.isStrOf_shape (x := x) (v := v) h
    exact .inr ⟨x, t, rfl, e⟩
theorem keyIs_int (i : Int) (t : Tok) : keyIs (.inl i) (.int i t) = true := by simp [keyIs, Value.isInt]
theorem keyIs_str (x : Str) (t : Tok) : keyIs (.inr x) (.str x t) = true := by simp [keyIs, Value.isStrOf]
theorem key_ll (a b : Int) : decide ((Sum.inl a : Key) = Sum.inl b) = (a == b) := by
  by_cases e : a = b
  · subst e; simp
  · have h : ¬ (Sum.inl a : Key) = Sum.inl b := fun q => e (Sum.inl.inj q)
    rw [decide_eq_false h]
    exact (beq_eq_false_iff_ne.mpr e).symm
theorem key_rr (a b : Str) : decide ((Sum.inr a : Key) = Sum.inr b) = decide (a = b) := by
  by_cases e : a = b
  · subst e; simp
  · have h : ¬ (Sum.inr a : Key) = Sum.inr b := fun q => e (Sum.inr.inj q)
    rw [decide_eq_false h, decide_eq_false e]
theorem key_lr (a : Int) (b : Str) : decide ((Sum.inl a : Key) = Sum.inr b) = false := decide_eq_false (fun q => nomatch q)
theorem key_rl (a : Str) (b : Int) : decide ((Sum.inr a : Key) = Sum.inl b) = false := decide_eq_false (fun q => nomatch q)

noncomputable def mixKind (prog : Program) (w : World) : PySem.KeyKind prog w Key where
  is := keyIs
  hash := keyH w
  inj := fun v a b ha hb => by
    rcases keyIs_shape ha with ⟨i, t, rfl, rfl⟩ | ⟨x, t, rfl, rfl⟩
    · rcases keyIs_shape hb with ⟨j, u, rfl, e⟩ | ⟨y, u, rfl, e⟩
      · injection e with e1 _; rw [e1]
      · exact nomatch e
    · rcases keyIs_shape hb with ⟨j, u, rfl, e⟩ | ⟨y, u, rfl, e⟩
      · exact nomatch e
      · injection e with e1 _; rw [e1]
  byValue := fun k v h => by
    rcases keyIs_shape h with ⟨i, t, rfl, rfl⟩ | ⟨x, t, rfl, rfl⟩ <;> rfl
  pyHash := fun hv h => by
    rcases keyIs_shape hv with ⟨i, t, rfl, rfl⟩ | ⟨x, t, rfl, rfl⟩
    · exact wpAny_pyHash_int h
    · exact wpAny_pyHash_str h
  eqBool := fun hu hv h => by
    rcases keyIs_shape hu with ⟨i, t, rfl, rfl⟩ | ⟨x, t, rfl, rfl⟩
    · rcases keyIs_shape hv with ⟨j, u, rfl, rfl⟩ | ⟨y, u, rfl, rfl⟩
      · rw [key_ll] at h; exact wpAny_eqBool_int h
      · rw [key_lr] at h; exact SeqAt.EqAt.int_str i t y u _ _ _ _ h
    · rcases keyIs_shape hv with ⟨j, u, rfl, rfl⟩ | ⟨y, u, rfl, rfl⟩
      · rw [key_rl] at h; exact SeqAt.EqAt.str_int x t j u _ _ _ _ h
      · rw [key_rr] at h; exact wpAny_eqBool_str h
  «strs» := fun k x t v h => by
    rcases keyIs_shape h with ⟨i, u, rfl, e⟩ | ⟨y, u, rfl, e⟩
    · exact nomatch e
    · injection e with e1 _
      subst e1
      cases v <;> rfl

theorem mixKind_int (prog : Program) (w : World) (i : Int) (t : Tok) : (mixKind prog w).is (.inl i) (.int i t) = true := keyIs_int i t
theorem mixKind_str (prog : Program) (w : World) (x : Str) (t : Tok) : (mixKind prog w).is (.inr x) (.str x t) = true := keyIs_str x t

inductive V where
  | non | bl (b : Bool) | int (i : Int) | str (x : Str) | byt (b : Array UInt8) | flt (b : UInt64) | ref (a : Addr) | ty (n : String)
  deriving DecidableEq

noncomputable def RelV : V → Value → Prop
  | .non, u => u = Value.none
  | .bl b, u => u = Value.bool b
  | .int i, u => ∃ t, u = Value.int i t
  | .str x, u => ∃ t, u = Value.str x t
  | .byt b, u => ∃ t, u = Value.bytes b t
  | .flt b, u => ∃ t, u = Value.float b t
  | .ref a, u => u = Value.ref a
  | .ty n, u => u = Value.type n

noncomputable abbrev Vals : List V → List Value → Prop := Paired RelV
theorem Vals.length {xs : List V} {us : List Value} (r : Vals xs us) : xs.length = us.length := Paired.length r
theorem Vals.get : ∀ {xs : List V} {us : List Value} {i : Nat} {x : V}, Vals xs us → xs[i]? = some x → ∃ u, us[i]? = some u ∧ RelV x u
  | _, _, _, _, .nil, e => by simp at e
  | _, _, 0, _, .cons r _, e => by simp at e; subst e; exact ⟨_, rfl, r⟩
  | _, _, i + 1, x, .cons _ t, e => by
    obtain ⟨u, h1, h2⟩ := Vals.get (i := i) (x := x) t (by simpa using e)
    exact ⟨u, by simpa using h1, h2⟩
theorem Vals.set {x : V} {u : Value} (r : RelV x u) : ∀ {xs : List V} {us : List Value} (i : Nat), Vals xs us → Vals (xs.set i x) (us.set i u)
  | _, _, _, .nil => .nil
  | _, _, 0, .cons _ t => .cons r t
  | _, _, i + 1, .cons q t => .cons q (Vals.set r i t)
theorem Vals.append : ∀ {xs ys : List V} {us ws : List Value}, Vals xs us → Vals ys ws → Vals (xs ++ ys) (us ++ ws)
  | _, _, _, _, .nil, s => s
  | _, _, _, _, .cons r t, s => .cons r (Vals.append t s)
theorem Vals.take : ∀ {xs : List V} {us : List Value} (n : Nat), Vals xs us → Vals (xs.take n) (us.take n)
  | _, _, 0, _ => .nil
  | _, _, _ + 1, .nil => .nil
  | _, _, n + 1, .cons r t => .cons r (Vals.take n t)
theorem Vals.drop : ∀ {xs : List V} {us : List Value} (n : Nat), Vals xs us → Vals (xs.drop n) (us.drop n)
  | _, _, 0, r => r
  | _, _, _ + 1, .nil => .nil
  | _, _, n + 1, .cons _ t => Vals.drop n t
noncomputable def RelO : Option V → Option Value → Prop
  | some v, some u => RelV v u
  | none, none => True
  | _, _ => False
noncomputable def KV {κ : Type} : List (κ × V) → List (κ × Value) → Prop := Paired fun (p : κ × V) (q : κ × Value) => p.1 = q.1 ∧ RelV p.2 q.2

noncomputable def kV : Key → V
  | .inl i => .int i
  | .inr x => .str x

inductive HO where
  | lst (xs : List V)
  | tup (xs : List V)
  | dK (kvs : List (Key × V)) | dT (kvs : List (List Key × V))
  | set (S : Int → Bool) (n : Nat)
  | ins (C dx : Addr) (fs : List (Str × V))
  | own (x : Addr)
  | xd (fs : List (Str × V))
  | met (f x : Addr)
  | rng (lo hi : Int)
  | frz (o : Obj) (u : HO)
  | tbl (ps : Array Value)
  | ext (φ : Heap → Prop)

noncomputable abbrev Hp := Addr → Option HO
noncomputable def upd (H : Hp) (a : Addr) (o : HO) : Hp := fun b => if b = a then some o else H b
theorem upd_same {H : Hp} {a : Addr} {o : HO} : upd H a o a = some o := by unfold upd; rw [if_pos rfl]
theorem upd_ne {H : Hp} {a b : Addr} {o : HO} (h : b ≠ a) : upd H a o b = H b := by unfold upd; rw [if_neg h]
theorem upd_upd {H : Hp} {a : Addr} {o u : HO} : upd (upd H a o) a u = upd H a u := by
  funext b; unfold upd; split <;> rfl
theorem ne_of {H : Hp} {a b : Addr} {o u : HO} (h : H a = some o) (h' : H b = some u) (d : o ≠ u) : a ≠ b := by
  intro e; subst e; rw [h] at h'; exact d (Option.some.inj h')
theorem ne_of_none {H : Hp} {a b : Addr} {o : HO} (h : H a = some o) (h' : H b = none) : a ≠ b := by
  intro e; subst e; rw [h] at h'; cases h'

section
variable (P : Program) (w : World)
noncomputable def ObjOk (H : Hp) (h : Heap) (a : Addr) : HO → Prop
  | .lst xs => xs.length ≤ sizeLine ∧ ∃ (its : List Value) (n : Nat), Vals xs its ∧ h.get? a = some { cls := .type "list", data := .seq its.toArray n }
  | .tup xs => xs.length ≤ sizeLine ∧ ∃ its : List Value, Vals xs its ∧ IsTup h a its.toArray
  | .dK kvs => kvs.length ≤ sizeLine ∧ (a == sysModules) = false ∧ ∃ vs, KV kvs vs ∧ h.DictOf (mixKind P w) a vs
  | .dT kvs => kvs.length ≤ sizeLine ∧ (a == sysModules) = false ∧ ∃ xs : List (List Key × Addr × Value),
      Paired (fun (p : List Key × V) (q : List Key × Addr × Value) => p.1 = q.1 ∧ H q.2.1 = some (.tup (p.1.map kV)) ∧ RelV p.2 q.2.2) kvs xs ∧
      ∃ o es ep, h.get? a = some o ∧ o.ExactDict ∧ o.data = .dict es ep ∧ es.toList = xs.map (entryOfKey (tupleKind (mixKind P w))) ∧ (xs.map (·.1)).Nodup
  | .set S n => h.SetOf (intKind P w) a S n
  | .ins C dx fs => H dx = some (.own a) ∧ fs.length ≤ 1000 ∧ dx ≠ a ∧ h.get? a = some (PySem.W.instObj C dx) ∧
      ∃ mA, h.Ns1 dx mA ∧ (∀ f, RelO (fs.lookup f) (mA f)) ∧ PySem.Within mA (fs.map (·.1))
  | .own _ => ∃ o, h.get? a = some o
  | .xd fs => ∃ mA, h.Ns1 a mA ∧ ∀ f, RelO (fs.lookup f) (mA f)
  | .rng lo hi => ∃ t u v, h.get? a = some { cls := .type "range", data := .fields #[.int lo t, .int hi u, .int 1 v] }
  | .frz o u => h.get? a = some o ∧ ObjOk H h a u
  | .tbl ps => h.get? a = some { cls := .none, data := .fields ps }
  | .met f x => h.get? a = some (PySem.W.methodObj (.ref f) (.ref x))
  | .ext φ => φ h ∧ (∃ o, h.get? a = some o) ∧ ∀ h1 h2 : Heap, φ h1 → (∀ o, h1.get? a = some o → h2.get? a = some o) → φ h2
noncomputable def HOk (H : Hp) (h : Heap) : Prop := ∀ a o, H a = some o → ObjOk P w H h a o
end

section
variable {P : Program} {w : World} {H H' : Hp} {h h' : Heap} {a : Addr} {o : HO}
theorem ObjOk.lt (x : ObjOk P w H h a o) : a < h.objs.size := by
  cases o with
  | lst xs => obtain ⟨_, _, _, _, e⟩ := x; exact Heap.lt_size e
  | tup xs => obtain ⟨_, _, _, p⟩ := x; exact p.lt
  | dK kvs => obtain ⟨_, _, _, _, o, _, _, e, _⟩ := x; exact Heap.lt_size e
  | dT kvs => obtain ⟨_, _, _, _, o, _, _, e, _⟩ := x; exact Heap.lt_size e
  | set S n => obtain ⟨o, _, _, _, e, _⟩ := x; exact Heap.lt_size e
  | ins C dx fs => obtain ⟨_, _, _, e, _⟩ := x; exact Heap.lt_size e
  | own y => obtain ⟨_, e⟩ := x; exact Heap.lt_size e
  | xd fs => obtain ⟨_, ⟨_, _, _, e, _⟩, _⟩ := x; exact Heap.lt_size e
  | rng lo hi => obtain ⟨_, _, _, e⟩ := x; exact Heap.lt_size e
  | frz ob u => obtain ⟨e, _⟩ := x; exact Heap.lt_size e
  | tbl ps => exact Heap.lt_size (show h.get? a = some _ from x)
  | met f y => exact Heap.lt_size (show h.get? a = some _ from x)
  | ext φ => obtain ⟨_, ⟨_, e⟩, _⟩ := x; exact Heap.lt_size e
theorem Paired.mapP {α β : Type} {F G : α → β → Prop} : ∀ {l₁ : List α} {l₂ : List β}, Paired F l₁ l₂ → (∀ a b, F a b → G a b) → Paired G l₁ l₂
  | _, _, .nil, _ => .nil
  | _, _, .cons r t, f => .cons (f _ _ r) (Paired.mapP t f)
theorem ObjOk.stay (x : ObjOk P w H h a o) (k : ∀ b u, (b = a ∨ H b = some (.own a)) → h.get? b = some u → h'.get? b = some u)
    (ho : ∀ b, H b = some (.own a) → H' b = some (.own a)) (ht : ∀ b xs, H b = some (.tup xs) → H' b = some (.tup xs)) : ObjOk P w H' h' a o := by
  induction o with
  | lst xs => obtain ⟨z, its, n, r, e⟩ := x; exact ⟨z, its, n, r, k _ _ (.inl rfl) e⟩
  | tup xs => obtain ⟨z, its, r, ob, e, c⟩ := x; exact ⟨z, its, r, ob, k _ _ (.inl rfl) e, c⟩
  | dK kvs => obtain ⟨z, y, vs, r, ob, es, ep, e, c⟩ := x; exact ⟨z, y, vs, r, ob, es, ep, k _ _ (.inl rfl) e, c⟩
  | dT kvs =>
    obtain ⟨z, y, xs, r, ob, es, ep, e, c⟩ := x
    exact ⟨z, y, xs, Paired.mapP r fun p q z => ⟨z.1, ht _ _ z.2.1, z.2.2⟩, ob, es, ep, k _ _ (.inl rfl) e, c⟩
  | set S n => obtain ⟨ob, es, ep, t, e, c⟩ := x; exact ⟨ob, es, ep, t, k _ _ (.inl rfl) e, c⟩
  | ins C dx fs =>
    obtain ⟨d, z, ne, e, mA, ⟨od, es, ep, e2, c⟩, r⟩ := x
    exact ⟨ho _ d, z, ne, k _ _ (.inl rfl) e, mA, ⟨od, es, ep, k _ _ (.inr d) e2, c⟩, r⟩
  | own y => obtain ⟨ob, e⟩ := x; exact ⟨ob, k _ _ (.inl rfl) e⟩
  | xd fs => obtain ⟨mA, ⟨od, es, ep, e, c⟩, r⟩ := x; exact ⟨mA, ⟨od, es, ep, k _ _ (.inl rfl) e, c⟩, r⟩
  | rng lo hi => obtain ⟨t, u, v, e⟩ := x; exact ⟨t, u, v, k _ _ (.inl rfl) e⟩
  | frz ob u ih => obtain ⟨e, q⟩ := x; exact ⟨k _ _ (.inl rfl) e, ih q⟩
  | tbl ps =>
    have e : h.get? a = some { cls := .none, data := .fields ps } := x
    show h'.get? a = some { cls := .none, data := .fields ps }
    exact k a _ (.inl rfl) e
  | met f y =>
    have e : h.get? a = some (PySem.W.methodObj (.ref f) (.ref y)) := x
    show h'.get? a = some (PySem.W.methodObj (.ref f) (.ref y))
    exact k a _ (.inl rfl) e
  | ext φ => obtain ⟨p, ⟨o, e⟩, st⟩ := x; exact ⟨st _ _ p fun o q => k _ _ (.inl rfl) q, ⟨o, k _ _ (.inl rfl) e⟩, st⟩
theorem HOk.lt (x : HOk P w H h) (e : H a = some o) : a < h.objs.size := (x a o e).lt
theorem HOk.fresh (x : HOk P w H h) (e : h.objs.size ≤ a) : H a = none := by
  cases q : H a with
  | none => rfl
  | some u => exact absurd (Nat.lt_of_lt_of_le (x.lt q) e) (Nat.lt_irrefl _)
theorem HOk.kept (x : HOk P w H h) (k : ∀ b u, h.get? b = some u → h'.get? b = some u) : HOk P w H h' := fun a o e =>
  (x a o e).stay (fun b u _ q => k b u q) (fun _ q => q) fun _ _ q => q
theorem HOk.laid (x : HOk P w H h) (k : ∀ b u, h.get? b = some u → h'.get? b = some u) (hp : h.objs.size ≤ a) (new : ObjOk P w (upd H a o) h' a o) : HOk P w (upd H a o) h' := fun b u e => by
  have hn := x.fresh hp
  by_cases hb : b = a
  · subst hb; rw [upd_same] at e; cases e; exact new
  · rw [upd_ne hb] at e
    exact (x b u e).stay (fun c v _ q => k c v q) (fun c q => by rw [upd_ne (ne_of_none q hn)]; exact q) fun c xs q => by rw [upd_ne (ne_of_none q hn)]; exact q
end

noncomputable def Rd (H : Hp) (a : Addr) (u : HO) : Prop := H a = some u ∨ ∃ o, H a = some (.frz o u)
theorem Rd.ok {P : Program} {w : World} {H : Hp} {h : Heap} {a : Addr} {u : HO} (r : Rd H a u) (x : HOk P w H h) : ObjOk P w H h a u := by
  rcases r with r | ⟨o, r⟩
  · exact x a u r
  · obtain ⟨_, q⟩ := x a _ r
    exact q
noncomputable def Mut : Option HO → Prop
  | some (.lst _) => True
  | some (.dK _) => True
  | some (.dT _) => True
  | some (.set _ _) => True
  | some (.ins _ _ _) => True
  | some (.ext _) => True
  | _ => False
section
variable {P : Program} {w : World} {H : Hp} {h h' : Heap} {x e : Addr} {o' : HO}
theorem HOk.write (ok : HOk P w H h) (mu : Mut (H x)) (he : e = x ∨ H e = some (.own x)) (k : ∀ b u, b ≠ e → h.get? b = some u → h'.get? b = some u) (heo : ∃ u, h'.get? e = some u)
    (new : ObjOk P w (upd H x o') h' x o') : HOk P w (upd H x o') h' := fun b u q => by
  have nown : ∀ c y, H c = some (.own y) → c ≠ x := fun c y r z => by subst z; rw [r] at mu; exact mu
  have ntup : ∀ c xs, H c = some (.tup xs) → c ≠ x := fun c xs r z => by subst z; rw [r] at mu; exact mu
  by_cases hb : b = x
  · subst hb; rw [upd_same] at q; cases q; exact new
  · rw [upd_ne hb] at q
    by_cases hbe : b = e
    · have q' : H b = some (.own x) := by
        rcases he with z | z
        · exact absurd (hbe.trans z) hb
        · rw [hbe]; exact z
      rw [q] at q'; cases q'
      obtain ⟨v, hv⟩ := heo
      exact ⟨v, by rw [hbe]; exact hv⟩
    · refine (ok b u q).stay (fun c v hc r => k c v ?_ r) (fun c r => by rw [upd_ne (nown c b r)]; exact r) fun c xs r => by rw [upd_ne (ntup c xs r)]; exact r
      rcases hc with rfl | hc
      · exact hbe
      · rintro rfl
        rcases he with z | z
        · exact nown c b hc z
        · rw [hc] at z; cases z; exact hb rfl
end

structure Un (fs ex : List Addr) (H H' : Hp) (h h' : Heap) : Prop where
  keep : ∀ b o, h.get? b = some o → H b = none → b ∉ fs → b ∉ ex → h'.get? b = some o
  slot : ∀ b o, h.get? b = some o → H b = none → b ∈ fs → b ∉ ex → ∃ sl, h'.get? b = some { o with slots := sl }
  free : ∀ b o, h.get? b = some o → H b = none → b ∉ ex → H' b = none
  there : ∀ b o, h.get? b = some o → b ∉ ex → ∃ o', h'.get? b = some o'
  tups : ∀ b xs, H b = some (.tup xs) → H' b = some (.tup xs)
  frzs : ∀ b o u, H b = some (.frz o u) → H' b = some (.frz o u)
  tbls : ∀ b ps, H b = some (.tbl ps) → ∃ more, H' b = some (.tbl (ps ++ more))
section
variable {fs fs' ex ex' : List Addr} {H H1 H2 : Hp} {h h1 h2 h' : Heap} {a x e : Addr} {o : HO}
theorem Un.any (u : Un fs ex H H1 h h1) {b : Addr} {ob : Obj} (q : h.get? b = some ob) (n : H b = none) (hx : b ∉ ex) : ∃ sl, h1.get? b = some { ob with slots := sl } := by
  by_cases hb : b ∈ fs
  · exact u.slot b ob q n hb hx
  · exact ⟨ob.slots, u.keep b ob q n hb hx⟩
theorem Un.kept (k : ∀ b u, h.get? b = some u → h'.get? b = some u) : Un fs ex H H h h' :=
  ⟨fun b ob q _ _ _ => k b ob q, fun b ob q _ _ _ => ⟨ob.slots, k b ob q⟩, fun _ _ _ n _ => n, fun b ob q _ => ⟨ob, k b ob q⟩, fun _ _ q => q, fun _ _ _ q => q, fun _ ps q => ⟨#[], by rw [q]; simp⟩⟩
theorem Un.refl : Un fs ex H H h h := Un.kept fun _ _ q => q
theorem Un.laid (k : ∀ b u, h.get? b = some u → h'.get? b = some u) (hp : h.objs.size ≤ a) (hn : H a = none) : Un fs ex H (upd H a o) h h' where
  keep := fun b u q _ _ _ => k b u q
  slot := fun b u q _ _ _ => ⟨u.slots, k b u q⟩
  free := fun b u q n _ => by rw [upd_ne (Nat.ne_of_lt (Nat.lt_of_lt_of_le (Heap.lt_size q) hp))]; exact n
  there := fun b u q _ => ⟨u, k b u q⟩
  tups := fun b xs q => by rw [upd_ne (ne_of_none q hn)]; exact q
  frzs := fun b u xs q => by rw [upd_ne (ne_of_none q hn)]; exact q
  tbls := fun b ps q => ⟨#[], by rw [upd_ne (ne_of_none q hn), q]; simp⟩
theorem Un.write (mu : Mut (H x)) (he : e = x ∨ H e = some (.own x)) (k : ∀ b u, b ≠ e → h.get? b = some u → h'.get? b = some u) (heo : ∃ u, h'.get? e = some u) : Un fs ex H (upd H x o) h h' := by
  have hx : ∀ b, H b = none → b ≠ x := fun b n z => by subst z; rw [n] at mu; exact mu
  have hb : ∀ b, H b = none → b ≠ e := fun b n z => by
    subst z
    rcases he with r | r
    · exact hx b n r
    · rw [n] at r; cases r
  have hm : ∀ b u, H b = some u → ¬ Mut (some u) → b ≠ x := fun b u q nm z => by subst z; rw [q] at mu; exact nm mu
  refine ⟨fun b u q n _ _ => k b u (hb b n) q, fun b u q n _ _ => ⟨u.slots, k b u (hb b n) q⟩, fun b u q n _ => by rw [upd_ne (hx b n)]; exact n, fun b u q _ => ?_,
    fun b xs q => by rw [upd_ne (hm b _ q fun z => z)]; exact q, fun b u xs q => by rw [upd_ne (hm b _ q fun z => z)]; exact q, fun b ps q => ⟨#[], by rw [upd_ne (hm b _ q fun z => z), q]; simp⟩⟩
  by_cases hbe : b = e
  · subst hbe; exact heo
  · exact ⟨u, k b u hbe q⟩
theorem Un.mono (u : Un fs ex H H1 h h1) (hs : ∀ b ∈ fs, b ∈ fs') (hx : ∀ b ∈ ex, b ∈ ex') : Un fs' ex' H H1 h h1 :=
  ⟨fun b ob q n hb he => u.keep b ob q n (fun z => hb (hs b z)) fun z => he (hx b z), fun _ _ q n _ he => u.any q n fun z => he (hx _ z), fun b ob q n he => u.free b ob q n fun z => he (hx b z), fun b ob q he => u.there b ob q fun z => he (hx b z), u.tups, u.frzs, u.tbls⟩
end

noncomputable def trk (h : Heap) (H : Hp) : List Addr := (List.range h.objs.size).filter fun a => (H a).isSome
noncomputable def hidT (h : Heap) (H : Hp) : Heap := PySem.W.hideAll h (trk h H)
theorem hidT_size (h : Heap) (H : Hp) : (hidT h H).objs.size = h.objs.size := PySem.W.hideAll_size _ _
theorem hidT_get {h : Heap} {H : Hp} {b : Addr} {o : Obj} (e : h.get? b = some o) (n : H b = none) : (hidT h H).get? b = some o :=
  PySem.W.hideAll_get _ e fun hm => by
    have q : (H b).isSome = true := (List.mem_filter.mp hm).2
    rw [n] at q; simp at q
theorem of_hidT {h : Heap} {H : Hp} {b : Addr} {o : Obj} (e : (hidT h H).get? b = some o) : h.get? b = some o ∧ H b = none := by
  have e' : h.get? b = some o := PySem.W.of_hideAll (trk h H) e
  refine ⟨e', ?_⟩
  cases q : H b with
  | none => rfl
  | some x =>
    have hm : b ∈ trk h H := List.mem_filter.mpr ⟨List.mem_range.mpr (Heap.lt_size e'), by simp [q]⟩
    have z : (hidT h H).get? b = none := PySem.W.hideAll_none (trk h H) hm
    rw [z] at e; cases e

noncomputable def allNews (g h : Heap) (L : Addr) : List (Addr × Obj) := (List.range h.objs.size).filterMap fun a => if a = L ∨ (g.get? a).isSome = true then none else (h.get? a).map fun o => (a, o)
noncomputable def rest (g h : Heap) (L d : Addr) : List (Addr × Obj) := (allNews g h L).filter fun p => decide (p.1 ≠ d)

structure Mod (K : PySem.W.Frag) (mg : Str → Option Value) (base : Heap) : Prop where
  kin : K.In base
  glob : base.Ns mainGlobals mg
  blt : ∃ mb, base.Ns builtinsNs mb ∧ ∀ x : Str, x ≠ "__name__" → mb x = bootBuiltins x
  nolimit : base.NoLimit

structure Cx where
  prog : Program
  w : World
  K : PySem.W.Frag
  mg : Str → Option Value
  base : Heap
  A : Around
  N : List Str
  s₀ : Shared
  H₀ : Hp
  env : Env
  outer : List Env
  stack : List Env
  ex : List Addr
  fn : Str → Bool
  calm : Bool
  pn : List (Addr × Obj)
  xe : Value → Shared → Prop
noncomputable def frs (l : List Env) : List Addr := l.filterMap (·.frame)
noncomputable abbrev Cx.fs (X : Cx) : List Addr := frs X.outer

noncomputable def Vis (sc : Scope) (x : Str) : Prop := sc.names.lookup x = some .local ∨ sc.names.lookup x = some .cell ∨ sc.names.lookup x = some .free
noncomputable def Loc (sc : Scope) (x : Str) : Prop := sc.names.lookup x = some .local ∨ sc.names.lookup x = some .cell
noncomputable def Look (env : Env) (h : Heap) (m : Str → Option Value) (x : Str) (u : Value) : Prop :=
  (env.kindOf x = some .local ∧ m x = some u) ∨ ((env.kindOf x = some .cell ∨ env.kindOf x = some .free) ∧ ∃ c, env.cells.lookup x = some c ∧ h.IsCell c (some u))

structure Cx.Ok (X : Cx) : Prop where
  mod : Mod X.K X.mg X.base
  kind : X.env.scope.kind = .function
  glob : X.env.globals = mainGlobals
  blt : X.env.builtins = builtinsNs
  above : X.s₀.heap.objs.size ≤ X.env.locals
  inj : ∀ x y c, X.env.cells.lookup x = some c → X.env.cells.lookup y = some c → x = y
  has : ∀ x, (X.env.kindOf x = some .cell ∨ X.env.kindOf x = some .free) → ∃ c, X.env.cells.lookup x = some c
  cab : ∀ x c, X.fn x = true → X.env.cells.lookup x = some c → X.s₀.heap.objs.size ≤ c
  hd : X.calm = true → X.A.handled = none
  frames : X.A.frames = some X.stack
  stk : X.stack = X.outer ∨ (X.stack = X.env :: X.outer ∧ X.env.frame = some X.env.locals)
  exf : ∀ b ∈ X.ex, b ≠ X.env.locals ∧ ∀ x c, X.env.cells.lookup x = some c → c ≠ b
  bs : ∀ b o, X.base.get? b = some o → X.s₀.heap.get? b = some o ∧ X.H₀ b = none
  bsz : X.base.objs.size ≤ X.s₀.heap.objs.size
  noex : ∀ b o, X.base.get? b = some o → b ∉ X.ex
  exfs : ∀ b ∈ X.ex, b ∉ X.fs
  funs : X.s₀.heap.FunFrames X.base X.outer
  frf : ∀ b ∈ X.fs, X.H₀ b = none

structure Inv (X : Cx) (pins : List (Addr × Obj)) (σ : List (Option V)) (H : Hp) (s : Shared) : Prop where
  ok : X.Ok
  os : s.os = X.s₀.os
  bare : AllBare s.gens
  base : Un X.fs X.ex X.H₀ H X.s₀.heap s.heap
  loc : ∃ m, s.heap.Ns X.env.locals m ∧ ∀ (i : Nat) (x : Str) (v : V), X.N[i]? = some x → σ[i]? = some (some v) → Vis X.env.scope x → ∃ u, RelV v u ∧ Look X.env s.heap m x u
  cell : ∀ x c, X.env.cells.lookup x = some c → ∃ v, s.heap.IsCell c v
  free : H X.env.locals = none
  freeC : ∀ x c, X.env.cells.lookup x = some c → H c = none
  pin : ∀ p ∈ X.pn ++ pins, s.heap.get? p.1 = some p.2 ∧ H p.1 = none ∧ p.1 ≠ X.env.locals ∧ p.1 ∉ X.fs ∧ ∀ v, p.2.data ≠ .cell v
  hok : HOk X.prog X.w H s.heap
  len : σ.length = X.N.length

section
variable {X : Cx} {pins : List (Addr × Obj)} {σ : List (Option V)} {H H' : Hp} {s : Shared} {h' : Heap}

theorem Cx.Ok.nofr (ok : X.Ok) {b : Addr} {o : Obj} (e : X.base.get? b = some o) : b ∉ X.fs := fun hb => by
  have := (ok.funs.mem hb).1
  rw [e] at this; cases this
theorem Inv.bs (I : Inv X pins σ H s) : ∀ b o, X.base.get? b = some o → s.heap.get? b = some o ∧ H b = none := fun b o e =>
  ⟨I.base.keep b o (I.ok.bs b o e).1 (I.ok.bs b o e).2 (I.ok.nofr e) (I.ok.noex b o e), I.base.free b o (I.ok.bs b o e).1 (I.ok.bs b o e).2 (I.ok.noex b o e)⟩
theorem Inv.bk (I : Inv X pins σ H s) : ∀ b o, X.base.get? b = some o → s.heap.get? b = some o := fun b o e => (I.bs b o e).1
theorem Inv.mod (I : Inv X pins σ H s) : Mod X.K X.mg X.base := I.ok.mod
theorem Inv.kIn (I : Inv X pins σ H s) : X.K.In s.heap := I.ok.mod.kin.keeps I.bk
theorem Inv.fr (I : Inv X pins σ H s) : ∃ m, Fr X.base X.env.locals s.heap m :=
  let ⟨m, hn, _⟩ := I.loc
  ⟨m, hn, I.bk, Nat.le_trans I.ok.bsz I.ok.above⟩
theorem Inv.lt (I : Inv X pins σ H s) : X.env.locals < s.heap.objs.size := let ⟨_, hn, _⟩ := I.loc; hn.lt
theorem Inv.sz (I : Inv X pins σ H s) : X.s₀.heap.objs.size ≤ s.heap.objs.size := Nat.le_trans I.ok.above (Nat.le_of_lt I.lt)
theorem Inv.nofs (I : Inv X pins σ H s) {a : Addr} (h : s.heap.objs.size ≤ a) : a ∉ X.fs := fun hb => by
  obtain ⟨_, o, ho, _⟩ := I.ok.funs.mem hb
  exact absurd (Nat.lt_of_lt_of_le (Heap.lt_size ho) (Nat.le_trans I.sz h)) (Nat.lt_irrefl _)
theorem Inv.cne (I : Inv X pins σ H s) : ∀ x c, X.env.cells.lookup x = some c → c ≠ X.env.locals := fun x c e z => by
  obtain ⟨v, o, ho, hd⟩ := I.cell x c e
  obtain ⟨m, ⟨o', es, ep, ho', hd', _⟩, _⟩ := I.loc
  rw [z, ho'] at ho; cases ho; rw [hd'] at hd; cases hd
theorem Inv.funs (I : Inv X pins σ H s) : s.heap.FunFrames X.base X.outer := by
  have all : ∀ (l : List Env), (∀ b ∈ frs l, b ∈ X.fs) → X.s₀.heap.FunFrames X.base l → s.heap.FunFrames X.base l := by
    intro l
    induction l with
    | nil => intro _ _; trivial
    | cons env r ih =>
      intro hs hl
      obtain ⟨hk, ⟨L, o, hf, hn, ho, hd⟩, hr⟩ := hl
      have hL : L ∈ X.fs := hs L (by unfold frs; rw [List.filterMap_cons, hf]; exact List.mem_cons_self)
      obtain ⟨sl, e⟩ := I.base.slot L o ho (I.ok.frf L hL) hL fun z => I.ok.exfs L z hL
      exact ⟨hk, ⟨L, _, hf, hn, e, hd⟩, ih (fun b hb => hs b (by unfold frs; rw [List.filterMap_cons, hf]; exact List.mem_cons_of_mem _ hb)) hr⟩
  exact all X.outer (fun _ hb => hb) I.ok.funs

theorem Inv.stack (I : Inv X pins σ H s) : s.heap.FunFrames X.base X.stack := by
  rcases I.ok.stk with e | ⟨e, hf⟩
  · rw [e]; exact I.funs
  · rw [e]
    obtain ⟨m, hn, _⟩ := I.loc
    refine .cons (by rw [I.ok.kind]; decide) hf hn ?_ I.funs
    exact Heap.get?_none_of_le (Nat.le_trans I.ok.bsz I.ok.above)
theorem Inv.stkSub (I : Inv X pins σ H s) : ∀ b ∈ frs X.stack, b ∈ X.env.locals :: X.fs := fun b hb => by
  rcases I.ok.stk with e | ⟨e, hf⟩
  · rw [e] at hb; exact List.mem_cons_of_mem _ hb
  · rw [e] at hb
    unfold frs at hb
    rw [List.filterMap_cons, hf] at hb
    exact hb
theorem Inv.stkFree (I : Inv X pins σ H s) : ∀ b ∈ frs X.stack, H b = none := fun b hb => by
  rcases List.mem_cons.mp (I.stkSub b hb) with e | hb
  · rw [e]; exact I.free
  · obtain ⟨_, o, ho, _⟩ := I.ok.funs.mem hb
    exact I.base.free b o ho (I.ok.frf b hb) fun z => I.ok.exfs b z hb

theorem Inv.step {g' : Array GenState} {t' : Nat} {d' : Drawn} {ch : List Addr} (I : Inv X pins σ H s)
    (hch : ∀ b ∈ ch, (b ∈ X.ex ∨ X.s₀.heap.objs.size ≤ b) ∧ b ≠ X.env.locals ∧ (∀ x c, X.env.cells.lookup x = some c → c ≠ b) ∧ ∀ p ∈ X.pn ++ pins, p.1 ≠ b)
    (keep : ∀ b o, b ≠ X.env.locals → b ∉ X.fs → b ∉ ch → s.heap.get? b = some o → H b = none → h'.get? b = some o)
    (slot : ∀ b o, b ≠ X.env.locals → b ∈ X.fs → b ∉ ch → s.heap.get? b = some o → H b = none → ∃ sl, h'.get? b = some { o with slots := sl }) (free : ∀ b o, b ∉ ch → s.heap.get? b = some o → H b = none → H' b = none)
    (there : ∀ b o, b ∉ ch → s.heap.get? b = some o → ∃ o', h'.get? b = some o')
    (tups : ∀ b xs, H b = some (.tup xs) → H' b = some (.tup xs)) (frzs : ∀ b o u, H b = some (.frz o u) → H' b = some (.frz o u)) (tbls : ∀ b ps, H b = some (.tbl ps) → ∃ more, H' b = some (.tbl (ps ++ more)))
    (ns : ∀ m, s.heap.Ns X.env.locals m → h'.Ns X.env.locals m) (hok : HOk X.prog X.w H' h') (hg : AllBare g') :
    Inv X pins σ H' { s with heap := h', gens := g', drawn := d', toks := t' } := by
  have neL : ∀ b o, X.s₀.heap.get? b = some o → b ≠ X.env.locals := fun b o e => Nat.ne_of_lt (Nat.lt_of_lt_of_le (Heap.lt_size e) I.ok.above)
  have neC : ∀ b o, X.s₀.heap.get? b = some o → b ∉ X.ex → b ∉ ch := fun b o e hx hb => by
    rcases (hch b hb).1 with z | z
    · exact hx z
    · exact absurd (Nat.lt_of_lt_of_le (Heap.lt_size e) z) (Nat.lt_irrefl _)
  have cellK : ∀ x c, X.env.cells.lookup x = some c → ∀ v, s.heap.IsCell c v → h'.IsCell c v := fun x c e v ⟨o, ho, hd⟩ => by
    have nch : c ∉ ch := fun z => (hch c z).2.2.1 x c e rfl
    by_cases hc : c ∈ X.fs
    · obtain ⟨sl, q⟩ := slot c o (I.cne x c e) hc nch ho (I.freeC x c e)
      exact ⟨_, q, hd⟩
    · exact ⟨o, keep c o (I.cne x c e) hc nch ho (I.freeC x c e), hd⟩
  refine ⟨I.ok, I.os, hg, ⟨fun b o e n hb hx => ?_, fun b o e n hb hx => ?_, fun b o e n hx => ?_, fun b o e hx => ?_, fun b xs e => tups b xs (I.base.tups b xs e), fun b o xs e => frzs b o xs (I.base.frzs b o xs e), fun b ps e => ?_⟩, ?_, fun x c e => ?_, ?_, fun x c e => ?_, fun p hp => ?_, hok, I.len⟩
  · exact keep b o (neL b o e) hb (neC b o e hx) (I.base.keep b o e n hb hx) (I.base.free b o e n hx)
  · obtain ⟨sl, e1⟩ := I.base.slot b o e n hb hx
    obtain ⟨sl', e2⟩ := slot b _ (neL b o e) hb (neC b o e hx) e1 (I.base.free b o e n hx)
    exact ⟨sl', e2⟩
  · obtain ⟨o', e1⟩ := I.base.there b o e hx
    exact free b o' (neC b o e hx) e1 (I.base.free b o e n hx)
  · obtain ⟨o', e1⟩ := I.base.there b o e hx
    exact there b o' (neC b o e hx) e1
  · obtain ⟨m1, e1⟩ := I.base.tbls b ps e
    obtain ⟨m2, e2⟩ := tbls b _ e1
    exact ⟨m1 ++ m2, by rw [e2, Array.append_assoc]⟩
  · obtain ⟨m, hn, hl⟩ := I.loc
    refine ⟨m, ns m hn, fun i x v e1 e2 e3 => ?_⟩
    obtain ⟨u, r, l⟩ := hl i x v e1 e2 e3
    refine ⟨u, r, ?_⟩
    rcases l with l | ⟨k, c, e, z⟩
    · exact .inl l
    · exact .inr ⟨k, c, e, cellK x c e _ z⟩
  · obtain ⟨v, z⟩ := I.cell x c e
    exact ⟨v, cellK x c e v z⟩
  · obtain ⟨m, ⟨o, _, _, ho, _⟩, _⟩ := I.loc
    exact free _ o (fun z => (hch _ z).2.1 rfl) ho I.free
  · obtain ⟨v, o, ho, hd⟩ := I.cell x c e
    exact free c o (fun z => (hch c z).2.2.1 x c e rfl) ho (I.freeC x c e)
  · obtain ⟨e, n, ne, nf, d⟩ := I.pin p hp
    have nch : p.1 ∉ ch := fun z => (hch p.1 z).2.2.2 p hp rfl
    exact ⟨keep p.1 p.2 ne nf nch e n, free p.1 p.2 nch e n, ne, nf, d⟩
theorem Inv.un {t' : Nat} (I : Inv X pins σ H s) (u : Un X.fs [] H H' s.heap h') (hok : HOk X.prog X.w H' h') : Inv X pins σ H' { s with heap := h', toks := t' } := by
  obtain ⟨m, ⟨o, es, ep, ho, r⟩, _⟩ := id I.loc
  obtain ⟨sl, hL⟩ := u.any ho I.free (by simp)
  exact I.step (g' := s.gens) (d' := s.drawn) (ch := []) (fun _ z => nomatch z) (fun b o _ hb _ e n => u.keep b o e n hb (by simp)) (fun b o _ hb _ e n => u.slot b o e n hb (by simp)) (fun b o _ e n => u.free b o e n (by simp)) (fun b o _ e => u.there b o e (by simp)) u.tups u.frzs u.tbls (fun m' hm => by
    obtain ⟨o', es', ep', ho', r'⟩ := hm
    rw [ho] at ho'; cases ho'
    exact ⟨_, es', ep', hL, r'⟩) hok I.bare
theorem Inv.call {g' : Array GenState} {t' : Nat} {d' : Drawn} {ch : List Addr} (I : Inv X pins σ H s) (u : Un (frs X.stack) ch H H' s.heap h') (hok : HOk X.prog X.w H' h') (hg : AllBare g')
    (hch : ∀ b ∈ ch, (b ∈ X.ex ∨ X.s₀.heap.objs.size ≤ b) ∧ b ≠ X.env.locals ∧ (∀ x c, X.env.cells.lookup x = some c → c ≠ b) ∧ ∀ p ∈ X.pn ++ pins, p.1 ≠ b) :
    Inv X pins σ H' { s with heap := h', gens := g', drawn := d', toks := t' } := by
  obtain ⟨m, ⟨o, es, ep, ho, r⟩, _⟩ := id I.loc
  obtain ⟨sl, hL⟩ := u.any ho I.free fun z => (hch _ z).2.1 rfl
  exact I.step (ch := ch) hch (fun b o hL hb hc e n => u.keep b o e n (fun z => (List.mem_cons.mp (I.stkSub b z)).elim hL hb) hc) (fun b o _ _ hc e n => u.any e n hc) (fun b o hc e n => u.free b o e n hc) (fun b o hc e => u.there b o e hc) u.tups u.frzs u.tbls (fun m' hm => by
    obtain ⟨o', es', ep', ho', r'⟩ := hm
    rw [ho] at ho'; cases ho'
    exact ⟨_, es', ep', hL, r'⟩) hok hg
theorem Inv.turned {t' : Nat} {it : Addr} (I : Inv X pins σ H s) (k : ∀ b o, b ≠ it → s.heap.get? b = some o → h'.get? b = some o) (hn : H it = none) (hL : it ≠ X.env.locals)
    (h1 : it ∈ X.ex ∨ X.s₀.heap.objs.size ≤ it) (h2 : ∀ x c, X.env.cells.lookup x = some c → c ≠ it) (h3 : ∀ p ∈ X.pn ++ pins, p.1 ≠ it) : Inv X pins σ H { s with heap := h', toks := t' } := by
  have nit : ∀ b u, H b = some u → b ≠ it := fun b u e z => by rw [z, hn] at e; cases e
  refine I.step (g' := s.gens) (d' := s.drawn) (ch := [it]) (fun b hb => ?_) (fun b o _ _ hc e _ => k b o (fun z => hc (by simp [z])) e) (fun b o _ _ hc e _ => ⟨o.slots, k b o (fun z => hc (by simp [z])) e⟩) (fun _ _ _ _ n => n)
    (fun b o hc e => ⟨o, k b o (fun z => hc (by simp [z])) e⟩) (fun _ _ e => e) (fun _ _ _ e => e) (fun b ps e => ⟨#[], by rw [e]; simp⟩) (fun m hm => ?_) (fun b u e => ?_) I.bare
  · have e : b = it := by simpa using hb
    subst e
    exact ⟨h1, hL, h2, h3⟩
  · obtain ⟨o, es, ep, ho, r⟩ := hm
    exact ⟨o, es, ep, k _ o (Ne.symm hL) ho, r⟩
  · refine (I.hok b u e).stay (fun c v hc q => k c v ?_ q) (fun _ q => q) fun _ _ q => q
    rcases hc with z | z
    · rw [z]; exact nit b u e
    · exact nit c _ z
theorem Inv.tok (I : Inv X pins σ H s) (t : Nat) : Inv X pins σ H { s with toks := t } := I.un (h' := s.heap) (t' := t) Un.refl I.hok
theorem Inv.kept {t' : Nat} (I : Inv X pins σ H s) (k : ∀ b u, s.heap.get? b = some u → h'.get? b = some u) : Inv X pins σ H { s with heap := h', toks := t' } := I.un (Un.kept k) (I.hok.kept k)
theorem Inv.laid {a : Addr} {o : HO} {t' : Nat} (I : Inv X pins σ H s) (k : ∀ b u, s.heap.get? b = some u → h'.get? b = some u) (hp : s.heap.objs.size ≤ a) (new : ObjOk X.prog X.w (upd H a o) h' a o) :
    Inv X pins σ (upd H a o) { s with heap := h', toks := t' } := I.un (Un.laid k hp (I.hok.fresh hp)) (I.hok.laid k hp new)
theorem Inv.write {x e : Addr} {o : HO} {t' : Nat} (I : Inv X pins σ H s) (mu : Mut (H x)) (he : e = x ∨ H e = some (.own x)) (k : ∀ b u, b ≠ e → s.heap.get? b = some u → h'.get? b = some u) (heo : ∃ u, h'.get? e = some u)
    (new : ObjOk X.prog X.w (upd H x o) h' x o) : Inv X pins σ (upd H x o) { s with heap := h', toks := t' } := I.un (Un.write mu he k heo) (I.hok.write mu he k heo new)
theorem Inv.pins_of {pins' : List (Addr × Obj)} (I : Inv X pins σ H s) (h : ∀ p ∈ pins', s.heap.get? p.1 = some p.2 ∧ H p.1 = none ∧ p.1 ≠ X.env.locals ∧ p.1 ∉ X.fs ∧ ∀ v, p.2.data ≠ .cell v) : Inv X pins' σ H s :=
  ⟨I.ok, I.os, I.bare, I.base, I.loc, I.cell, I.free, I.freeC, fun p hp => (List.mem_append.mp hp).elim (fun z => I.pin p (List.mem_append_left _ z)) (h p), I.hok, I.len⟩

theorem nodup_ix {N : List Str} (hN : N.Nodup) {i j : Nat} {x : Str} (a : N[i]? = some x) (b : N[j]? = some x) : i = j := by
  obtain ⟨h1, e1⟩ := List.getElem?_eq_some_iff.mp a
  obtain ⟨h2, e2⟩ := List.getElem?_eq_some_iff.mp b
  exact (List.getElem_inj hN).mp (e1.trans e2.symm)

theorem store_ok2 {M : Model} {A : Around} {E : Value → Shared → Prop} {i : Nat} {x : Str} {v : V} {u : Value} {Q : Unit → Shared → Prop} (I : Inv X pins σ H s) (hN : X.N.Nodup) (hi : X.N[i]? = some x) (hx : Loc X.env.scope x) (r : RelV v u)
    (h : ∀ s', Inv X pins (σ.set i (some v)) H s' → (∃ a, Heap.SameBut a s.heap s'.heap ∧ (a = X.env.locals ∨ X.env.cells.lookup x = some a)) → Q () s') (hf : X.fn x = true ∨ X.env.scope.names.lookup x = some .local := by first | exact .inl rfl | exact .inr rfl | assumption) : wpAny M A (storeName X.env x u) Q E s := by
  obtain ⟨m, hn, hl⟩ := id I.loc
  have hcls : (X.env.scope.kind == .class || (X.env.scope.kind == .module && X.env.locals != X.env.globals)) = false := by rw [I.ok.kind]; rfl
  have hiσ : i < σ.length := by rw [I.len]; exact (List.getElem?_eq_some_iff.mp hi).1
  have cne := I.cne
  have tracked : ∀ {a : Addr} {h' : Heap}, (∃ o, s.heap.get? a = some o ∧ H a = none) → Heap.SameBut a s.heap h' → HOk X.prog X.w H h' := fun {a h'} ha hs b ob e => by
    obtain ⟨_, _, hfree⟩ := ha
    refine (I.hok b ob e).stay (fun c w' hc q => (hs.2 c ?_).trans q) (fun _ q => q) fun _ _ q => q
    rintro rfl
    rcases hc with rfl | hc
    · rw [hfree] at e; cases e
    · rw [hfree] at hc; cases hc
  rcases hx with hk | hk
  · refine wpAny_storeName_local hk hn (fun h' hn' hs => ?_) hcls
    obtain ⟨oL, _, _, hoL, _⟩ := id hn
    refine h _ ⟨I.ok, I.os, I.bare, ⟨fun b o e n hb hx => ?_, fun b o e n hb hx => ?_, I.base.free, fun b o e hx => ?_, I.base.tups, I.base.frzs, I.base.tbls⟩, ⟨_, hn', fun j y v' e1 e2 e3 => ?_⟩, fun y c e => ?_, I.free, I.freeC, fun p hp => ?_, tracked ⟨oL, hoL, I.free⟩ hs, by simpa using I.len⟩ ⟨_, hs, .inl rfl⟩
    · exact (hs.2 b (Nat.ne_of_lt (Nat.lt_of_lt_of_le (Heap.lt_size e) I.ok.above))).trans (I.base.keep b o e n hb hx)
    · obtain ⟨sl, e1⟩ := I.base.slot b o e n hb hx
      exact ⟨sl, (hs.2 b (Nat.ne_of_lt (Nat.lt_of_lt_of_le (Heap.lt_size e) I.ok.above))).trans e1⟩
    · obtain ⟨o', e1⟩ := I.base.there b o e hx
      exact ⟨o', (hs.2 b (Nat.ne_of_lt (Nat.lt_of_lt_of_le (Heap.lt_size e) I.ok.above))).trans e1⟩
    · by_cases hj : j = i
      · subst hj
        rw [hi] at e1; cases e1
        rw [List.getElem?_set_self hiσ] at e2
        cases e2
        exact ⟨u, r, .inl ⟨hk, by simp⟩⟩
      · rw [List.getElem?_set_ne (Ne.symm hj)] at e2
        obtain ⟨u', r', q⟩ := hl j y v' e1 e2 e3
        refine ⟨u', r', ?_⟩
        rcases q with ⟨k, e⟩ | ⟨k, c, e, z⟩
        · refine .inl ⟨k, ?_⟩
          have : y ≠ x := fun e => hj (nodup_ix hN e1 (e ▸ hi))
          simp [this, e]
        · exact .inr ⟨k, c, e, z.sameBut hs (cne y c e)⟩
    · obtain ⟨w', z⟩ := I.cell y c e
      exact ⟨w', z.sameBut hs (cne y c e)⟩
    · obtain ⟨e, n, ne, nf, d⟩ := I.pin p hp
      exact ⟨(hs.2 p.1 ne).trans e, n, ne, nf, d⟩
  · have hfn : X.fn x = true := by
      rcases hf with z | z
      · exact z
      · rw [z] at hk; cases hk
    obtain ⟨c, hc⟩ := I.ok.has x (.inl hk)
    obtain ⟨w', z⟩ := I.cell x c hc
    refine wpAny_storeName_cell I.ok.kind hk hc z (fun h' hc' hs => ?_)
    obtain ⟨oc, hoc, hocd⟩ := id z
    refine h { s with heap := h' } ⟨I.ok, I.os, I.bare, ⟨fun b o e n hb hx => ?_, fun b o e n hb hx => ?_, I.base.free, fun b o e hx => ?_, I.base.tups, I.base.frzs, I.base.tbls⟩, ⟨m, hn.sameBut hs (Ne.symm (cne x c hc)), fun j y v' e1 e2 e3 => ?_⟩, fun y c' e => ?_, I.free, I.freeC, fun p hp => ?_, tracked ⟨oc, hoc, I.freeC x c hc⟩ hs, by simpa using I.len⟩ ⟨c, hs, .inr hc⟩
    · exact (hs.2 b (Nat.ne_of_lt (Nat.lt_of_lt_of_le (Heap.lt_size e) (I.ok.cab x c hfn hc)))).trans (I.base.keep b o e n hb hx)
    · obtain ⟨sl, e1⟩ := I.base.slot b o e n hb hx
      exact ⟨sl, (hs.2 b (Nat.ne_of_lt (Nat.lt_of_lt_of_le (Heap.lt_size e) (I.ok.cab x c hfn hc)))).trans e1⟩
    · obtain ⟨o', e1⟩ := I.base.there b o e hx
      exact ⟨o', (hs.2 b (Nat.ne_of_lt (Nat.lt_of_lt_of_le (Heap.lt_size e) (I.ok.cab x c hfn hc)))).trans e1⟩
    · by_cases hj : j = i
      · subst hj
        rw [hi] at e1; cases e1
        rw [List.getElem?_set_self hiσ] at e2
        cases e2
        exact ⟨u, r, .inr ⟨.inl hk, c, hc, hc'⟩⟩
      · rw [List.getElem?_set_ne (Ne.symm hj)] at e2
        obtain ⟨u', r', q⟩ := hl j y v' e1 e2 e3
        refine ⟨u', r', ?_⟩
        rcases q with q | ⟨k, c', e, z'⟩
        · exact .inl q
        · refine .inr ⟨k, c', e, z'.sameBut hs ?_⟩
          rintro rfl
          exact hj (nodup_ix hN e1 (I.ok.inj _ _ _ e hc ▸ hi))
    · by_cases hcc : c' = c
      · subst hcc; exact ⟨_, hc'⟩
      · obtain ⟨w2, z2⟩ := I.cell y c' e
        exact ⟨w2, z2.sameBut hs hcc⟩
    · obtain ⟨e, n, ne, nf, d⟩ := I.pin p hp
      refine ⟨(hs.2 p.1 ?_).trans e, n, ne, nf, d⟩
      intro q
      rw [q, hoc] at e
      have q' : oc = p.2 := Option.some.inj e
      exact d w' (by rw [← q']; exact hocd)
theorem store_ok {M : Model} {A : Around} {E : Value → Shared → Prop} {i : Nat} {x : Str} {v : V} {u : Value} {Q : Unit → Shared → Prop} (I : Inv X pins σ H s) (hN : X.N.Nodup) (hi : X.N[i]? = some x) (hx : Loc X.env.scope x) (r : RelV v u)
    (h : ∀ s', Inv X pins (σ.set i (some v)) H s' → Q () s') (hf : X.fn x = true ∨ X.env.scope.names.lookup x = some .local := by first | exact .inl rfl | exact .inr rfl | assumption) : wpAny M A (storeName X.env x u) Q E s :=
  store_ok2 I hN hi hx r (fun s' I' _ => h s' I') hf
end

noncomputable abbrev XK := Value → Option Addr → Hp → Prop
noncomputable abbrev St := List (Option V)
noncomputable abbrev VK := V → Hp → Prop
noncomputable abbrev TE := St → Hp → VK → Prop
noncomputable abbrev TT := St → Hp → (Bool → Hp → Prop) → Prop
noncomputable abbrev TA := St → Hp → (List V → Hp → Prop) → Prop
structure Ends where
  nx : St → Hp → Prop
  rt : VK
  bk : St → Hp → Prop := fun _ _ => False
  ct : St → Hp → Prop := fun _ _ => False
noncomputable abbrev TS := Ends → St → Hp → Prop

noncomputable def EP (X : Cx) (pins : List (Addr × Obj)) (σ : St) (Q : VK) (u : Value) (s' : Shared) : Prop := ∃ v H', Inv X pins σ H' s' ∧ RelV v u ∧ Q v H'
noncomputable def TP (X : Cx) (pins : List (Addr × Obj)) (σ : St) (Q : Bool → Hp → Prop) (b : Bool) (s' : Shared) : Prop := ∃ H', Inv X pins σ H' s' ∧ Q b H'
noncomputable def AP (X : Cx) (pins : List (Addr × Obj)) (σ : St) (Q : List V → Hp → Prop) (us : List Value) (s' : Shared) : Prop := ∃ vs H', Inv X pins σ H' s' ∧ Vals vs us ∧ Q vs H'
noncomputable def SP (X : Cx) (pins : List (Addr × Obj)) (D : Ends) (f : Flow) (s' : Shared) : Prop :=
  match f with
  | .next => ∃ σ' H', Inv X pins σ' H' s' ∧ D.nx σ' H'
  | .brk => ∃ σ' H', Inv X pins σ' H' s' ∧ D.bk σ' H'
  | .cont => ∃ σ' H', Inv X pins σ' H' s' ∧ D.ct σ' H'
  | .ret u => ∃ v σ' H', Inv X pins σ' H' s' ∧ RelV v u ∧ D.rt v H'

noncomputable def PE (X : Cx) (e : Expr) (t : TE) : Prop :=
  ∀ (pins : List (Addr × Obj)) (s : Shared) (σ : St) (H : Hp) (Q : VK), Inv X pins σ H s → t σ H Q → wpAny (model X.prog X.w) X.A (eval e X.env) (EP X pins σ Q) X.xe s
noncomputable def PT (X : Cx) (e : Expr) (t : TT) : Prop :=
  ∀ (pins : List (Addr × Obj)) (s : Shared) (σ : St) (H : Hp) (Q : Bool → Hp → Prop), Inv X pins σ H s → t σ H Q → wpAny (model X.prog X.w) X.A (isTrue e X.env (eval e X.env)) (TP X pins σ Q) X.xe s
noncomputable def PW (X : Cx) (e : Expr) (t : TT) : Prop :=
  ∀ (whole : Sem Value) (pins : List (Addr × Obj)) (s : Shared) (σ : St) (H : Hp) (Q : Bool → Hp → Prop), Inv X pins σ H s → t σ H Q → wpAny (model X.prog X.w) X.A (isTrue e X.env whole) (TP X pins σ Q) X.xe s
theorem PW.pt {X : Cx} {e : Expr} {t : TT} (h : PW X e t) : PT X e t := h _
noncomputable def PA (X : Cx) (es : List Expr) (t : TA) : Prop :=
  ∀ (pos : Pos) (pins : List (Addr × Obj)) (s : Shared) (σ : St) (H : Hp) (Q : List V → Hp → Prop), Inv X pins σ H s → t σ H Q → wpAny (model X.prog X.w) X.A (spliced (backTo pos (starEach es X.env))) (AP X pins σ Q) X.xe s
noncomputable def PS (X : Cx) (st : Stmt) (t : TS) : Prop :=
  ∀ (pins : List (Addr × Obj)) (s : Shared) (σ : St) (H : Hp) (D : Ends), Inv X pins σ H s → t D σ H → wpAny (model X.prog X.w) X.A (exec st X.env) (SP X pins D) X.xe s
noncomputable def PSs (X : Cx) (st : List Stmt) (t : TS) : Prop :=
  ∀ (pins : List (Addr × Obj)) (s : Shared) (σ : St) (H : Hp) (D : Ends), Inv X pins σ H s → t D σ H → wpAny (model X.prog X.w) X.A (execs st X.env) (SP X pins D) X.xe s
theorem thn {α : Type} {t : Sem α} {Q Q' : α → Shared → Prop} {M : Model} {A : Around} {E : Value → Shared → Prop} {s : Shared} (h : wpAny M A t Q E s) (hQ : ∀ a s, Q a s → Q' a s) : wpAny M A t Q' E s := wpAny_mono h hQ fun _ _ x => x
section
variable {X : Cx}

noncomputable def tVar (i : Nat) : TE := fun σ H Q => ∃ v, σ[i]? = some (some v) ∧ Q v H
noncomputable def tC (v : V) : TE := fun _ H Q => Q v H
theorem pe_var {i : Nat} {x : Str} {pos : Pos} (hN : X.N[i]? = some x) (hv : Vis X.env.scope x) (hd : (x == ("__debug__" : Str)) = false := by decide) (hcd : (x == ("__classdict__" : Str)) = false := by decide) : PE X (.Name x pos) (tVar i) := by
  intro pins s σ H Q I h
  obtain ⟨v, e, h⟩ := h
  obtain ⟨m, hn, hl⟩ := I.loc
  obtain ⟨u, r, l⟩ := hl i x v hN e hv
  have fin : EP X pins σ Q u s := ⟨v, H, I, r, h⟩
  rcases l with ⟨hk, hm⟩ | ⟨hk, c, hc, hcell⟩
  · exact wpAny_Name (wpAny_loadName_local I.ok.kind hk hn hm fin) hd
  · rcases hk with hk | hk
    · exact wpAny_Name (wpAny_loadName_cell I.ok.kind hk hc hcell fin) hd
    · exact wpAny_Name (wpAny_loadName_free I.ok.kind hk hc hcell fin hcd) hd
theorem pe_int {i j pos} : PE X (.Constant (.int i) j pos) (tC (.int i)) := fun _ _ _ H _ I h => wpAny_Constant_int ⟨.int i, H, I.tok _, ⟨_, rfl⟩, h⟩
theorem pe_bl {b j pos} : PE X (.Constant (.bool b) j pos) (tC (.bl b)) := fun _ _ _ H _ I h => Constant_bool ⟨.bl b, H, I, rfl, h⟩
theorem pe_non {j pos} : PE X (.Constant .none j pos) (tC .non) := fun _ _ _ H _ I h => Constant_none ⟨.non, H, I, rfl, h⟩
theorem pe_str {x j pos} : PE X (.Constant (.str x) j pos) (tC (.str x)) := fun _ _ _ H _ I h => Calls.Constant_str ⟨.str x, H, I.tok _, ⟨_, rfl⟩, h⟩

noncomputable def Gl (X : Cx) (x : Str) : Prop := X.env.kindOf x = some .globalImplicit
theorem ld_glob {E : Value → Shared → Prop} {pins : List (Addr × Obj)} {s : Shared} {σ : St} {H : Hp} {x : Str} {u : Value} {pos : Pos} {Q : Value → Shared → Prop} (I : Inv X pins σ H s) (hg : Gl X x) (hm : X.mg x = some u) (h : Q u s)
    (hd : (x == ("__debug__" : Str)) = false := by decide) : wpAny (model X.prog X.w) X.A (eval (.Name x pos) X.env) Q E s :=
  Calls.Name_function_global I.ok.kind hg (Calls.loadGlobal_global (by rw [I.ok.glob]; exact I.mod.glob.keeps I.bk) hm h) hd
theorem ld_blt {E : Value → Shared → Prop} {pins : List (Addr × Obj)} {s : Shared} {σ : St} {H : Hp} {x : Str} {u : Value} {pos : Pos} {Q : Value → Shared → Prop} (I : Inv X pins σ H s) (hg : Gl X x) (hm : X.mg x = none) (hv : bootBuiltins x = some u) (h : Q u s)
    (hn : x ≠ "__name__" := by decide) (hd : (x == ("__debug__" : Str)) = false := by decide) : wpAny (model X.prog X.w) X.A (eval (.Name x pos) X.env) Q E s := by
  obtain ⟨mb, h1, h2⟩ := I.mod.blt
  exact Calls.Name_function_global I.ok.kind hg (Calls.loadGlobal_builtin (by rw [I.ok.glob]; exact I.mod.glob.keeps I.bk) hm (by rw [I.ok.blt]; exact h1.keeps I.bk) ((h2 x hn).trans hv) h) hd
theorem pe_glob {x : Str} {v : V} {u : Value} {pos : Pos} (hg : Gl X x) (hm : X.mg x = some u) (r : RelV v u) (hd : (x == ("__debug__" : Str)) = false := by decide) : PE X (.Name x pos) (tC v) :=
  fun _ _ _ H _ I h => ld_glob I hg hm ⟨v, H, I, r, h⟩ hd
theorem pe_bltn {x : Str} {v : V} {u : Value} {pos : Pos} (hg : Gl X x) (hm : X.mg x = none) (hv : bootBuiltins x = some u) (r : RelV v u) (hn : x ≠ "__name__" := by decide) (hd : (x == ("__debug__" : Str)) = false := by decide) : PE X (.Name x pos) (tC v) :=
  fun _ _ _ H _ I h => ld_blt I hg hm hv ⟨v, H, I, r, h⟩ hn hd

variable {a b : Expr} {ta tb : TE} {pos : Pos}
noncomputable def tB (t : TE) : TT := fun σ H Q => t σ H fun x H1 => ∃ c, x = .bl c ∧ Q c H1
theorem pt_val {e : Expr} {t : TE} (h : PE X e t) (he : ∀ whole, isTrue e X.env whole = (do let v ← whole; standAt e.pos; holding [v] (truthy v)) := by intro _; rfl) : PT X e (tB t) := by
  intro pins s σ H Q I hw
  refine isTrue_plain (thn (h pins s σ H _ I hw) fun v s1 ⟨x, H1, I1, r1, q1⟩ => ?_) (he _)
  obtain ⟨d, rfl, q⟩ := q1
  cases r1
  exact wpAny_truthy_bool ⟨H1, I1, q⟩

variable {tA tB' : TT} {rest : List Expr}
noncomputable def tAnd (t u : TT) : TT := fun σ H Q => t σ H fun c H1 => if c = true then u σ H1 Q else Q false H1
noncomputable def tOr (t u : TT) : TT := fun σ H Q => t σ H fun c H1 => if c = true then Q true H1 else u σ H1 Q
noncomputable def tNot (t : TT) : TT := fun σ H Q => t σ H fun c H1 => Q (!c) H1
theorem pw_and1 (ha : PT X a tA) : PW X (.BoolOp .And [a] pos) tA := by
  intro wh pins s σ H Q I h
  refine isTrue_and (thn (ha pins s σ H Q I h) fun c s1 e => ?_)
  cases c with
  | true => exact isTrue_and_nil e
  | false => exact e
theorem pw_or1 (ha : PT X a tA) : PW X (.BoolOp .Or [a] pos) tA := by
  intro wh pins s σ H Q I h
  refine isTrue_or (thn (ha pins s σ H Q I h) fun c s1 e => ?_)
  cases c with
  | false => exact isTrue_or_nil e
  | true => exact e
theorem pw_and (ha : PT X a tA) (hb : PW X (.BoolOp .And (b :: rest) pos) tB') : PW X (.BoolOp .And (a :: b :: rest) pos) (tAnd tA tB') := by
  intro wh pins s σ H Q I h
  refine isTrue_and (thn (ha pins s σ H _ I h) fun c s1 ⟨H1, I1, q1⟩ => ?_)
  cases c with
  | true => exact hb wh pins s1 σ H1 Q I1 q1
  | false => exact ⟨H1, I1, q1⟩
theorem pw_or (ha : PT X a tA) (hb : PW X (.BoolOp .Or (b :: rest) pos) tB') : PW X (.BoolOp .Or (a :: b :: rest) pos) (tOr tA tB') := by
  intro wh pins s σ H Q I h
  refine isTrue_or (thn (ha pins s σ H _ I h) fun c s1 ⟨H1, I1, q1⟩ => ?_)
  cases c with
  | true => exact ⟨H1, I1, q1⟩
  | false => exact hb wh pins s1 σ H1 Q I1 q1
theorem pt_not (ha : PT X a tA) : PT X (.UnaryOp .Not a pos) (tNot tA) := by
  intro pins s σ H Q I h
  exact isTrue_not (ha pins s σ H (fun c H1 => Q (!c) H1) I h)
noncomputable def tAndV (ta tb : TE) : TE := fun σ H Q => ta σ H fun x H1 => ∃ c, x = .bl c ∧ if c = true then tb σ H1 Q else Q (.bl false) H1
noncomputable def tOrV (ta tb : TE) : TE := fun σ H Q => ta σ H fun x H1 => ∃ c, x = .bl c ∧ if c = true then Q (.bl true) H1 else tb σ H1 Q
noncomputable def tNotV (ta : TE) : TE := fun σ H Q => ta σ H fun x H1 => ∃ c, x = .bl c ∧ Q (.bl (!c)) H1
theorem pe_one {op} {t : TE} (h : PE X a t) : PE X (.BoolOp op [a] pos) t := fun pins s σ H Q I hw => BoolOp_one (h pins s σ H Q I hw)
theorem pe_and (ha : PE X a ta) (hb : PE X (.BoolOp .And (b :: rest) pos) tb) : PE X (.BoolOp .And (a :: b :: rest) pos) (tAndV ta tb) := by
  intro pins s σ H Q I h
  refine BoolOp_and (thn (ha pins s σ H _ I h) fun v s1 ⟨x, H1, I1, r1, q1⟩ => ?_)
  obtain ⟨c, rfl, q1⟩ := q1
  cases r1
  refine wpAny_truthy_bool ?_
  cases c with
  | true => exact hb pins s1 σ H1 Q I1 q1
  | false => exact ⟨.bl false, H1, I1, rfl, q1⟩
theorem pe_or (ha : PE X a ta) (hb : PE X (.BoolOp .Or (b :: rest) pos) tb) : PE X (.BoolOp .Or (a :: b :: rest) pos) (tOrV ta tb) := by
  intro pins s σ H Q I h
  refine BoolOp_or (thn (ha pins s σ H _ I h) fun v s1 ⟨x, H1, I1, r1, q1⟩ => ?_)
  obtain ⟨c, rfl, q1⟩ := q1
  cases r1
  refine wpAny_truthy_bool ?_
  cases c with
  | false => exact hb pins s1 σ H1 Q I1 q1
  | true => exact ⟨.bl true, H1, I1, rfl, q1⟩
theorem pe_not (ha : PE X a ta) : PE X (.UnaryOp .Not a pos) (tNotV ta) := by
  intro pins s σ H Q I h
  refine UnaryOp_ (thn (ha pins s σ H _ I h) fun v s1 ⟨x, H1, I1, r1, q1⟩ => ?_)
  obtain ⟨c, rfl, q1⟩ := q1
  cases r1
  exact not_of (wpAny_truthy_bool ⟨.bl (!c), H1, I1, rfl, q1⟩)
noncomputable def tIf (t : TT) (ta tb : TE) : TE := fun σ H Q => t σ H fun c H1 => if c = true then ta σ H1 Q else tb σ H1 Q
end

noncomputable def SqL (K : PySem.W.Frag) (H : Hp) (a : Addr) (xs : List V) : Prop :=
  Rd H a (.lst xs) ∨
    ∃ (o : Obj) (its : Array Value) (n : Nat), K.lookup a = some o ∧ o.cls = .type "list" ∧ o.dict = none ∧ o.data = .seq its n ∧ its.size ≤ sizeLine ∧ Vals xs its.toList
noncomputable def SqT (K : PySem.W.Frag) (H : Hp) (a : Addr) (xs : List V) : Prop :=
  Rd H a (.tup xs) ∨
    ∃ (o : Obj) (its : Array Value) (n : Nat), K.lookup a = some o ∧ o.cls = .type "tuple" ∧ o.data = .seq its n ∧ its.size ≤ sizeLine ∧ Vals xs its.toList
noncomputable def absV : Value → Option V
  | .none => some .non
  | .bool b => some (.bl b)
  | .int i _ => some (.int i)
  | .str x _ => some (.str x)
  | .bytes b _ => some (.byt b)
  | .float b _ => some (.flt b)
  | .ref a => some (.ref a)
  | .type n => some (.ty n)
  | _ => none
theorem RelV.abs {x : V} {u : Value} (r : RelV x u) : absV u = some x := by
  cases x with
  | non => cases r; rfl
  | bl _ => cases r; rfl
  | int _ => obtain ⟨t, rfl⟩ := r; rfl
  | str _ => obtain ⟨t, rfl⟩ := r; rfl
  | byt _ => obtain ⟨t, rfl⟩ := r; rfl
  | flt _ => obtain ⟨t, rfl⟩ := r; rfl
  | ref _ => cases r; rfl
  | ty _ => cases r; rfl
theorem RelV.inj {x y : V} {u : Value} (r : RelV x u) (q : RelV y u) : x = y := Option.some.inj (r.abs.symm.trans q.abs)
theorem Vals.inj : ∀ {xs ys : List V} {us : List Value}, Vals xs us → Vals ys us → xs = ys
  | _, _, _, .nil, .nil => rfl
  | _, _, _, .cons r t, .cons r' t' => by rw [r.inj r', Vals.inj t t']
section
variable {X : Cx} {pins : List (Addr × Obj)} {σ : St} {H : Hp} {s : Shared} {a : Addr} {xs ys : List V}
theorem SqL.of {K : PySem.W.Frag} (h : H a = some (.lst xs)) : SqL K H a xs := .inl (.inl h)
theorem SqT.of {K : PySem.W.Frag} (h : H a = some (.tup xs)) : SqT K H a xs := .inl (.inl h)
theorem Inv.list (I : Inv X pins σ H s) (h : SqL X.K H a xs) : ∃ its : List Value, Vals xs its ∧ PlainL s.heap a its.toArray ∧ xs.length ≤ sizeLine := by
  rcases h with h | ⟨o, its, n, hk, hc, hd, hs, hz, r⟩
  · obtain ⟨z, its, n, r, e⟩ := h.ok I.hok
    exact ⟨its, r, ⟨_, n, e, rfl, rfl, rfl⟩, z⟩
  · refine ⟨its.toList, r, ⟨o, n, I.kIn a o hk, hc, hd, by simpa using hs⟩, ?_⟩
    have e := r.length
    simp only [Array.length_toList] at e
    omega
theorem Inv.tuple (I : Inv X pins σ H s) (h : SqT X.K H a xs) : ∃ its : List Value, Vals xs its ∧ IsTup s.heap a its.toArray ∧ xs.length ≤ sizeLine := by
  rcases h with h | ⟨o, its, n, hk, hc, hs, hz, r⟩
  · obtain ⟨z, its, r, p⟩ := h.ok I.hok
    exact ⟨its, r, p, z⟩
  · refine ⟨its.toList, r, ⟨o, I.kIn a o hk, hc, n, by simpa using hs⟩, ?_⟩
    have e := r.length
    simp only [Array.length_toList] at e
    omega
theorem Inv.list_inj (I : Inv X pins σ H s) (h : SqL X.K H a xs) (h' : SqL X.K H a ys) : xs = ys := by
  obtain ⟨its, r, ⟨o, n, e, _, _, d⟩, _⟩ := I.list h
  obtain ⟨its', r', ⟨o', n', e', _, _, d'⟩, _⟩ := I.list h'
  rw [e] at e'; cases e'
  rw [d] at d'
  injection d' with d1 _
  have : its = its' := by simpa using congrArg Array.toList d1
  subst this
  exact r.inj r'
theorem Inv.tuple_inj (I : Inv X pins σ H s) (h : SqT X.K H a xs) (h' : SqT X.K H a ys) : xs = ys := by
  obtain ⟨its, r, ⟨o, e, _, n, d⟩, _⟩ := I.tuple h
  obtain ⟨its', r', ⟨o', e', _, n', d'⟩, _⟩ := I.tuple h'
  rw [e] at e'; cases e'
  rw [d] at d'
  injection d' with d1 _
  have : its = its' := by simpa using congrArg Array.toList d1
  subst this
  exact r.inj r'
end

noncomputable abbrev Cx.wish (X : Cx) (E : Value → Shared → Prop) : Cx := { X with xe := E }
noncomputable abbrev Cx.nox (X : Cx) : Cx := X.wish fun _ _ => False
theorem Cx.Ok.wish {X : Cx} (ok : X.Ok) (E : Value → Shared → Prop) : (X.wish E).Ok :=
  ⟨ok.mod, ok.kind, ok.glob, ok.blt, ok.above, ok.inj, ok.has, ok.cab, ok.hd, ok.frames, ok.stk, ok.exf, ok.bs, ok.bsz, ok.noex, ok.exfs, ok.funs, ok.frf⟩
theorem Cx.Ok.unwish {X : Cx} {E : Value → Shared → Prop} (ok : (X.wish E).Ok) : X.Ok :=
  ⟨ok.mod, ok.kind, ok.glob, ok.blt, ok.above, ok.inj, ok.has, ok.cab, ok.hd, ok.frames, ok.stk, ok.exf, ok.bs, ok.bsz, ok.noex, ok.exfs, ok.funs, ok.frf⟩
section
variable {X : Cx} {pins : List (Addr × Obj)} {σ : St} {H : Hp} {s : Shared} {E : Value → Shared → Prop}
theorem Inv.wish (I : Inv X pins σ H s) (E : Value → Shared → Prop) : Inv (X.wish E) pins σ H s := ⟨I.ok.wish E, I.os, I.bare, I.base, I.loc, I.cell, I.free, I.freeC, I.pin, I.hok, I.len⟩
theorem Inv.unwish (I : Inv (X.wish E) pins σ H s) : Inv X pins σ H s := ⟨I.ok.unwish, I.os, I.bare, I.base, I.loc, I.cell, I.free, I.freeC, I.pin, I.hok, I.len⟩
theorem SP.unwish {D : Ends} {f : Flow} {s' : Shared} (h : SP (X.wish E) pins D f s') : SP X pins D f s' := by
  cases f with
  | next => obtain ⟨σ', H', I, q⟩ := h; exact ⟨σ', H', I.unwish, q⟩
  | brk => obtain ⟨σ', H', I, q⟩ := h; exact ⟨σ', H', I.unwish, q⟩
  | cont => obtain ⟨σ', H', I, q⟩ := h; exact ⟨σ', H', I.unwish, q⟩
  | ret u => obtain ⟨v, σ', H', I, r, q⟩ := h; exact ⟨v, σ', H', I.unwish, r, q⟩
theorem PSs.nox {st : List Stmt} {t : TS} (h : PSs X.nox st t) : PSs X st t := fun pins s σ H D I hw =>
  wpAny_mono (h pins s σ H D (I.wish _) hw) (fun _ _ q => q.unwish) fun _ _ z => False.elim z
end

section
variable {X : Cx} {st : Stmt} {rest : List Stmt} {t u : TS} {e : Expr} {te : TE} {pos : Pos}
noncomputable def tNext : TS := fun D σ H => D.nx σ H
noncomputable def tSeq (t u : TS) : TS := fun D σ H => t { D with nx := u D } σ H
theorem pss_nil : PSs X [] tNext := fun _ _ σ H _ I h => wpAny_execs_nil ⟨σ, H, I, h⟩
theorem pss_cons (h1 : PS X st t) (h2 : PSs X rest u) : PSs X (st :: rest) (tSeq t u) := by
  intro pins s σ H D I h
  refine wpAny_execs_cons (thn (h1 pins s σ H { D with nx := u D } I h) fun f s1 q => ?_)
  cases f with
  | next =>
    obtain ⟨σ', H', I', q⟩ := q
    exact h2 pins s1 σ' H' D I' q
  | ret v => exact q
  | brk => exact q
  | cont => exact q
theorem pss_one (h1 : PS X st t) : PSs X [st] t := by
  intro pins s σ H D I h
  refine wpAny_execs_cons (thn (h1 pins s σ H D I h) fun f s1 q => ?_)
  cases f with
  | next => exact wpAny_execs_nil q
  | ret v => exact q
  | brk => exact q
  | cont => exact q
theorem Inv.quiet {pins : List (Addr × Obj)} {σ : St} {H : Hp} {s : Shared} (I : Inv X pins σ H s) : interactive X.env = false := by simp [interactive, I.ok.kind]
noncomputable def tDrop (te : TE) : TS := fun D σ H => te σ H fun _ H1 => D.nx σ H1
theorem ps_expr (he : PE X e te) (hs : swapsWith e none pos.line X.env = pure false := by rfl) : PS X (.Expr e pos) (tDrop te) := by
  intro pins s σ H D I h
  exact wpAny_Expr_any (thn (he pins s σ H _ I h) fun v s1 ⟨x, H1, I1, r1, q1⟩ => ⟨σ, H1, I1, q1⟩) I.quiet hs
noncomputable def tRet (te : TE) : TS := fun D σ H => te σ H D.rt
theorem ps_ret (he : PE X e te) : PS X (.Return (some e) pos) (tRet te) := by
  intro pins s σ H D I h
  exact wpAny_Return_some (thn (he pins s σ H _ I h) fun v s1 ⟨x, H1, I1, r1, q1⟩ => ⟨x, σ, H1, I1, r1, q1⟩)
noncomputable def tIfS (c : TT) (t u : TS) : TS := fun D σ H => c σ H fun b H1 => if b = true then t D σ H1 else u D σ H1
theorem ps_if {c : Expr} {a b : List Stmt} {tc : TT} (hc : PT X c tc) (ha : PSs X a t) (hb : PSs X b u) : PS X (.If c a b pos) (tIfS tc t u) := by
  intro pins s σ H D I h
  refine wpAny_If (thn (hc pins s σ H _ I h) fun d s1 ⟨H1, I1, q1⟩ => ?_)
  cases d with
  | true => exact ha pins s1 σ H1 D I1 q1
  | false => exact hb pins s1 σ H1 D I1 q1
end

noncomputable abbrev TG := V → St → Hp → (St → Hp → Prop) → Prop
noncomputable abbrev TGs := List V → St → Hp → (St → Hp → Prop) → Prop
noncomputable def PG (X : Cx) (target : Expr) (t : TG) : Prop :=
  ∀ (pins : List (Addr × Obj)) (s : Shared) (σ : St) (H : Hp) (v : V) (u : Value) (Q : St → Hp → Prop), Inv X pins σ H s → RelV v u → t v σ H Q →
    wpAny (model X.prog X.w) X.A (assign target X.env u) (fun _ s' => ∃ σ' H', Inv X pins σ' H' s' ∧ Q σ' H') X.xe s
noncomputable def PGs (X : Cx) (ts : List Expr) (t : TGs) : Prop :=
  ∀ (pins : List (Addr × Obj)) (s : Shared) (σ : St) (H : Hp) (vs : List V) (us : List Value) (Q : St → Hp → Prop), Inv X pins σ H s → Vals vs us → t vs σ H Q →
    wpAny (model X.prog X.w) X.A (assignInOrder ((assignEach ts X.env).map (·.2)) us) (fun _ s' => ∃ σ' H', Inv X pins σ' H' s' ∧ Q σ' H') X.xe s
noncomputable abbrev TSet := V → V → V → Hp → (Hp → Prop) → Prop
noncomputable def PSet (X : Cx) (t : TSet) : Prop :=
  ∀ (pins : List (Addr × Obj)) (s : Shared) (σ : St) (H : Hp) (o i v : V) (ov iv u : Value) (Q : Hp → Prop), Inv X pins σ H s → RelV o ov → RelV i iv → RelV v u → t o i v H Q →
    wpAny (model X.prog X.w) X.A (setItem ov iv u) (fun _ s' => ∃ H', Inv X pins σ H' s' ∧ Q H') X.xe s
section
variable {X : Cx} {pos : Pos}
noncomputable def gName (i : Nat) : TG := fun v σ H Q => Q (σ.set i (some v)) H
theorem pg_name {i : Nat} {x : Str} (hN : X.N.Nodup) (hi : X.N[i]? = some x) (hx : Loc X.env.scope x) (hf : X.fn x = true ∨ X.env.scope.names.lookup x = some .local := by first | exact .inl rfl | exact .inr rfl | assumption) : PG X (.Name x pos) (gName i) := by
  intro pins s σ H v u Q I r h
  exact wpAny_assign_Name (store_ok I hN hi hx r (fun s' I' => ⟨_, H, I', h⟩) hf)
noncomputable def gNil : TGs := fun vs σ H Q => vs = [] ∧ Q σ H
noncomputable def gCons (t : TG) (u : TGs) : TGs := fun vs σ H Q => ∃ v r, vs = v :: r ∧ t v σ H fun σ' H' => u r σ' H' Q
theorem pgs_nil : PGs X [] gNil := by
  intro pins s σ H vs us Q I r h
  obtain ⟨e, h⟩ := h
  subst e
  cases r
  exact assignInOrder_nil ⟨σ, H, I, h⟩
theorem pgs_cons {e : Expr} {es : List Expr} {t : TG} {u : TGs} (h1 : PG X e t) (h2 : PGs X es u)
    (hs : (assignEach (e :: es) X.env).map (·.2) = assign e X.env :: (assignEach es X.env).map (·.2) := by rfl) : PGs X (e :: es) (gCons t u) := by
  intro pins s σ H vs us Q I r h
  obtain ⟨v, vr, e1, h⟩ := h
  subst e1
  cases r with
  | cons r rr =>
    rw [hs]
    refine assignInOrder_cons (thn (h1 pins s σ H _ _ _ I r h) fun _ s1 ⟨σ1, H1, I1, q1⟩ => ?_)
    exact h2 pins s1 σ1 H1 _ _ Q I1 rr q1
noncomputable def gTup (K : PySem.W.Frag) (n : Nat) (t : TGs) : TG := fun v σ H Q => ∃ a xs, v = .ref a ∧ SqT K H a xs ∧ xs.length = n ∧ t xs σ H Q
theorem pg_tup {es : List Expr} {k : Nat} {t : TGs} {n : Nat} (hc : X.calm = true) (h : PGs X es t)
    (hn : (assignEach es X.env).length = n := by rfl) (hst : (assignEach es X.env).findIdx? (·.1) = none := by rfl) : PG X (.Tuple es k pos) (gTup X.K n t) := by
  intro pins s σ H v u Q I r hw
  obtain ⟨a, xs, e1, hq, hl, hw⟩ := hw
  subst e1
  cases r
  obtain ⟨its, rv, ht, hz⟩ := I.tuple hq
  refine assign_Tuple_tuple (I.ok.hd hc) ht (by simp [hn, ← hl, rv.length]) hst fun h' hx => ?_
  have I1 : Inv X pins σ H { s with heap := h' } := I.kept (t' := s.toks) fun b o e => hx b o (Nat.ne_of_lt (Heap.lt_size e)) e
  exact h pins _ σ H xs _ Q I1 (by simpa using rv) hw
noncomputable def gSub (to ti : TE) (t : TSet) : TG := fun v σ H Q => to σ H fun o H1 => ti σ H1 fun i H2 => t o i v H2 fun H3 => Q σ H3
theorem pg_sub {o i : Expr} {to ti : TE} {t : TSet} (ho : PE X o to) (hi : PE X i ti) (hs : PSet X t)
    (ha : ∀ v, assign (.Subscript o i pos) X.env v = (do
      let ov ← holding [v] (eval o X.env)
      let iv ← holding [v, ov] (eval i X.env)
      standAt pos
      holding [v, ov, iv] (setItem ov iv v)
      release [v, ov, iv] []) := by intro _; rfl) : PG X (.Subscript o i pos) (gSub to ti t) := by
  intro pins s σ H v u Q I r h
  rw [ha]
  refine wpAny_bind (wpAny_holding (thn (ho pins s σ H _ I h) fun ov s1 ⟨x, H1, I1, r1, q1⟩ => ?_))
  refine wpAny_bind (wpAny_holding (thn (hi pins s1 σ H1 _ I1 q1) fun iv s2 ⟨y, H2, I2, r2, q2⟩ => ?_))
  refine wpAny_bind (wpAny_standAt (wpAny_bind (wpAny_holding (thn (hs pins s2 σ H2 x y v ov iv u _ I2 r1 r2 r q2) fun _ s3 ⟨H3, I3, q3⟩ => ?_))))
  exact wpAny_release ⟨σ, H3, I3, q3⟩
noncomputable def tAsg (te : TE) (g : TG) : TS := fun D σ H => te σ H fun x H1 => g x σ H1 D.nx
theorem ps_asg {tg e : Expr} {te : TE} {g : TG} (he : PE X e te) (hg : PG X tg g) (hs : swapsWithSole [tg] e pos.line X.env = pure false := by rfl) (hw : swappedStores [tg] e X.env = pure none := by rfl)
    (h1 : (assignEach [tg] X.env).map (·.2) = [assign tg X.env] := by rfl) : PS X (.Assign [tg] e pos) (tAsg te g) := by
  intro pins s σ H D I h
  refine wpAny_Assign_stores (thn (he pins s σ H _ I h) fun v s1 ⟨x, H1, I1, r1, q1⟩ => ?_) hs hw
  rw [h1]
  exact thn (hg pins s1 σ H1 x v _ I1 r1 q1) fun _ s2 q => q
theorem ps_set {i : Nat} {x : Str} {e : Expr} {te : TE} {pos' : Pos} (hN : X.N.Nodup) (hi : X.N[i]? = some x) (hx : Loc X.env.scope x) (he : PE X e te) (hs : swapsWith e (some (.Name x pos')) pos.line X.env = pure false := by rfl) (hf : X.fn x = true ∨ X.env.scope.names.lookup x = some .local := by first | exact .inl rfl | exact .inr rfl | assumption) :
    PS X (.Assign [.Name x pos'] e pos) (tAsg te (gName i)) := by
  intro pins s σ H D I h
  refine wpAny_Assign_Name (thn (he pins s σ H _ I h) fun v s1 ⟨y, H1, I1, r1, q1⟩ => ?_) hs
  exact store_ok I1 hN hi hx r1 (fun s2 I2 => ⟨_, H1, I2, q1⟩) hf
end

section
variable {X : Cx} {pos : Pos}
end

structure It where
  go : Nat → Hp → Prop
  yld : Nat → Hp → V → Hp → Prop
  stop : Nat → Hp → Prop
noncomputable def FpOk (X : Cx) (pins : List (Addr × Obj)) (H : Hp) (b : Addr) : Prop :=
  H b = none ∧ b ≠ X.env.locals ∧ b ∉ X.fs ∧ (b ∈ X.ex ∨ X.s₀.heap.objs.size ≤ b) ∧ (∀ x c, X.env.cells.lookup x = some c → c ≠ b) ∧ ∀ p ∈ X.pn ++ pins, p.1 ≠ b
theorem Inv.fpOk {X : Cx} {pins : List (Addr × Obj)} {σ : St} {H H' : Hp} {s : Shared} {b : Addr} (I : Inv X pins σ H s) (hb : s.heap.objs.size ≤ b) (hn : H' b = none) : FpOk X pins H' b := by
  refine ⟨hn, Nat.ne_of_gt (Nat.lt_of_lt_of_le I.lt hb), I.nofs hb, .inr (Nat.le_trans I.sz hb), fun x c e z => ?_, fun p hp z => ?_⟩
  · obtain ⟨v, q⟩ := I.cell x c e
    exact absurd (Nat.lt_of_lt_of_le q.lt (by rw [z]; exact hb)) (Nat.lt_irrefl _)
  · exact absurd (Nat.lt_of_lt_of_le (Heap.lt_size (I.pin p hp).1) (by rw [z]; exact hb)) (Nat.lt_irrefl _)
structure Turn (P : Program) (w : World) (K : PySem.W.Frag) (tg : Expr) (J : It) (fp : List Addr) (it : Addr) (tn : Nat → Heap → Prop) : Prop where
  mem : it ∈ fp
  obj : ∀ i h, tn i h → ∀ b ∈ fp, ∃ o, h.get? b = some o ∧ ∀ v, o.data ≠ .cell v
  keep : ∀ i h h', tn i h → (∀ b ∈ fp, ∀ o, h.get? b = some o → h'.get? b = some o) → tn i h'
  item : ∀ (X : Cx), X.prog = P → X.w = w → X.K = K → X.calm = true → ∀ (i : Nat) (pins : List (Addr × Obj)) (s : Shared) (σ : St) (H : Hp) (E : Value → Shared → Prop), Inv X pins σ H s → (∀ b ∈ fp, FpOk X pins H b) → tn i s.heap → J.go i H →
    wpAny (model P w) X.A (pyNext (.ref it)) (fun r s1 => ∃ u, r = some u ∧
      wpAny (model P w) X.A (letOwnedTupleGo tg (.ref it) u) (fun _ s2 => ∃ x H', Inv X pins σ H' s2 ∧ RelV x u ∧ J.yld i H x H' ∧ tn (i + 1) s2.heap ∧ ∀ b ∈ fp, H' b = none) E s1) E s
  done : ∀ (X : Cx), X.prog = P → X.w = w → X.K = K → X.calm = true → ∀ (i : Nat) (pins : List (Addr × Obj)) (s : Shared) (σ : St) (H : Hp) (E : Value → Shared → Prop), Inv X pins σ H s → (∀ b ∈ fp, FpOk X pins H b) → tn i s.heap → J.stop i H →
    wpAny (model P w) X.A (pyNext (.ref it)) (fun r s1 => r = none ∧ Inv X pins σ H s1) E s
  self : ∀ (A : Around) (i : Nat) (s : Shared) (Q : Value → Shared → Prop) (E : Value → Shared → Prop), tn i s.heap → Q (.ref it) s → wpAny (model P w) A (pyIter (.ref it)) Q E s
noncomputable abbrev TI := St → Hp → (It → Hp → Prop) → Prop
noncomputable def PIE (X : Cx) (pins : List (Addr × Obj)) (σ : St) (tg : Expr) (R : It → Hp → Prop) (itv : Value) (s2 : Shared) : Prop :=
  ∃ (it : Addr) (fp : List Addr) (tn : Nat → Heap → Prop) (J : It) (H' : Hp), itv = .ref it ∧ Inv X pins σ H' s2 ∧ Turn X.prog X.w X.K tg J fp it tn ∧ tn 0 s2.heap ∧ (∀ b ∈ fp, FpOk X pins H' b) ∧ R J H'
noncomputable def PI (X : Cx) (tg iter : Expr) (wi : TI) : Prop :=
  ∀ (pins : List (Addr × Obj)) (s : Shared) (σ : St) (H : Hp) (R : It → Hp → Prop), Inv X pins σ H s → wi σ H R →
    wpAny (model X.prog X.w) X.A (eval iter X.env) (fun v s1 => wpAny (model X.prog X.w) X.A (pyIter v) (PIE X pins σ tg R) X.xe s1) X.xe s

theorem go_of {M : Model} {A : Around} {E : Value → Shared → Prop} {s : Shared} {tg : Expr} {it : Addr} {u : Value} {o : Obj} {n : String} {vs : Array Value} {Q : Unit → Shared → Prop} (ho : s.heap.get? it = some o) (hc : o.cls = .type n) (hd : o.data = .fields vs)
    (hn : ["enumerate", "zip", "dict_itemiterator", "dict_reverseitemiterator", "odict_iterator", "itertools.zip_longest", "itertools.pairwise"].contains n = false) (hQ : Q () s) : wpAny M A (letOwnedTupleGo tg (.ref it) u) Q E s := by
  unfold letOwnedTupleGo
  cases tg <;> first
    | exact wpAny_pure hQ
    | (cases u <;> first
        | exact wpAny_pure hQ
        | (refine wpAny_bind (wpAny_load ho ?_)
           rw [hc, hd]
           show wpAny M A (if (["enumerate", "zip", "dict_itemiterator", "dict_reverseitemiterator", "odict_iterator", "itertools.zip_longest", "itertools.pairwise"].contains n && vs[0]? == some (rawInt _)) = true then _ else _) Q E s
           rw [if_neg (by intro h; rw [hn, Bool.false_and] at h; cases h)]
           exact wpAny_pure hQ))

noncomputable def Itl (K : PySem.W.Frag) (a : Addr) : It :=
  ⟨fun i H => ∃ xs x, SqL K H a xs ∧ xs[i]? = some x, fun i H x H' => H' = H ∧ ∀ xs, SqL K H a xs → xs[i]? = some x, fun i H => ∃ xs, SqL K H a xs ∧ xs.length ≤ i⟩
noncomputable def Itt (K : PySem.W.Frag) (a : Addr) : It :=
  ⟨fun i H => ∃ xs x, SqT K H a xs ∧ xs[i]? = some x, fun i H x H' => H' = H ∧ ∀ xs, SqT K H a xs → xs[i]? = some x, fun i H => ∃ xs, SqT K H a xs ∧ xs.length ≤ i⟩
noncomputable def Itr (lo : Int) (n : Nat) : It := ⟨fun i _ => i < n, fun i H x H' => H' = H ∧ x = .int (lo + i), fun i _ => n ≤ i⟩
theorem turn_list {P : Program} {w : World} {K : PySem.W.Frag} {tg : Expr} (a it : Addr) : Turn P w K tg (Itl K a) [it] it (fun i h => h.IsListIter it a i) where
  mem := by simp
  obj := fun i h st b hb => by
    have e : b = it := by simpa using hb
    subst e
    obtain ⟨o, e, c, d⟩ := st
    exact ⟨o, e, fun v z => by rw [d] at z; cases z⟩
  keep := fun i h h' st k => st.at fun o e => k it (by simp) o e
  item := by
    intro X hP hw hK hc i pins s σ H E I hf st hg
    subst hP hw hK
    obtain ⟨xs, x, hq, hx⟩ := hg
    obtain ⟨its, rv, p, hz⟩ := I.list hq
    obtain ⟨u, hu, ru⟩ := rv.get hx
    obtain ⟨f0, f1, f2, f3, f4, f5⟩ := hf it (by simp)
    refine wpAny_pyNext_list_item st p.isList (x := u) (by simpa using hu) fun h' st' sb => ?_
    have I1 : Inv X pins σ H { s with heap := h' } := I.turned (t' := s.toks) (fun b o hb e => (sb.2 b hb).trans e) f0 f1 f3 f4 f5
    obtain ⟨o, e, c, d⟩ := id st'
    exact ⟨u, rfl, go_of (s := { s with heap := h' }) e c d (by decide) ⟨x, H, I1, ru, ⟨rfl, fun ys hy => by rw [I.list_inj hy hq]; exact hx⟩, st', fun b hb => (hf b hb).1⟩⟩
  done := by
    intro X hP hw hK hc i pins s σ H E I hf st hg
    subst hP hw hK
    obtain ⟨xs, hq, hx⟩ := hg
    obtain ⟨its, rv, p, hz⟩ := I.list hq
    obtain ⟨f0, f1, f2, f3, f4, f5⟩ := hf it (by simp)
    have hl := rv.length
    exact wpAny_pyNext_list_end (I.ok.hd hc) st p.isList (by simp; omega) fun h' eb => ⟨rfl, I.turned (t' := s.toks) (fun b o hb e => eb b o hb e) f0 f1 f3 f4 f5⟩
  self := fun _ _ _ _ _ st h => wpAny_pyIter_listiter st h
theorem turn_tuple {P : Program} {w : World} {K : PySem.W.Frag} {tg : Expr} (a it : Addr) : Turn P w K tg (Itt K a) [it] it (fun i h => h.IsTupleIter it a i) where
  mem := by simp
  obj := fun i h st b hb => by
    have e : b = it := by simpa using hb
    subst e
    obtain ⟨o, e, c, d⟩ := st
    exact ⟨o, e, fun v z => by rw [d] at z; cases z⟩
  keep := fun i h h' st k => st.at fun o e => k it (by simp) o e
  item := by
    intro X hP hw hK hc i pins s σ H E I hf st hg
    subst hP hw hK
    obtain ⟨xs, x, hq, hx⟩ := hg
    obtain ⟨its, rv, p, hz⟩ := I.tuple hq
    obtain ⟨u, hu, ru⟩ := rv.get hx
    obtain ⟨f0, f1, f2, f3, f4, f5⟩ := hf it (by simp)
    refine wpAny_pyNext_tuple_item st (show s.heap.IsTuple a its.toArray from p) (x := u) (by simpa using hu) fun h' st' sb => ?_
    have I1 : Inv X pins σ H { s with heap := h' } := I.turned (t' := s.toks) (fun b o hb e => (sb.2 b hb).trans e) f0 f1 f3 f4 f5
    obtain ⟨o, e, c, d⟩ := id st'
    exact ⟨u, rfl, go_of (s := { s with heap := h' }) e c d (by decide) ⟨x, H, I1, ru, ⟨rfl, fun ys hy => by rw [I.tuple_inj hy hq]; exact hx⟩, st', fun b hb => (hf b hb).1⟩⟩
  done := by
    intro X hP hw hK hc i pins s σ H E I hf st hg
    subst hP hw hK
    obtain ⟨xs, hq, hx⟩ := hg
    obtain ⟨its, rv, p, hz⟩ := I.tuple hq
    obtain ⟨f0, f1, f2, f3, f4, f5⟩ := hf it (by simp)
    have hl := rv.length
    exact wpAny_pyNext_tuple_end (I.ok.hd hc) st (show s.heap.IsTuple a its.toArray from p) (by simp; omega) fun h' eb => ⟨rfl, I.turned (t' := s.toks) (fun b o hb e => eb b o hb e) f0 f1 f3 f4 f5⟩
  self := fun _ _ _ _ _ st h => wpAny_pyIter_tupleiter st h
theorem turn_range {P : Program} {w : World} {K : PySem.W.Frag} {tg : Expr} (it : Addr) (lo : Int) (n : Nat) : Turn P w K tg (Itr lo n) [it] it (fun i h => IsRangeIter h it (lo + (i : Nat) * 1) ((n : Int) - (i : Nat)) 1) where
  mem := by simp
  obj := fun i h st b hb => by
    have e : b = it := by simpa using hb
    subst e
    exact ⟨_, st, fun v z => by
      have z' : Data.fields _ = Data.cell v := z
      cases z'⟩
  keep := fun i h h' st k => k it (by simp) _ st
  item := by
    intro X hP hw hK hc i pins s σ H E I hf st hg
    subst hP hw hK
    obtain ⟨f0, f1, f2, f3, f4, f5⟩ := hf it (by simp)
    have W := Walks.range (prog := X.prog) (w := X.w) (I.ok.hd hc) it lo 1 n
    refine W.item i s _ _ hg st fun v h' tk hv st' kk => ?_
    obtain ⟨t, rfl⟩ := hv
    have I1 : Inv X pins σ H { s with heap := h', toks := tk } := I.turned (fun b o hb e => kk b o (by simpa using hb) e) f0 f1 f3 f4 f5
    refine ⟨_, rfl, go_of (s := { s with heap := h', toks := tk }) (n := "range_iterator") st' rfl rfl (by decide) ⟨.int (lo + i), H, I1, ⟨t, ?_⟩, ⟨rfl, rfl⟩, st', fun b hb => (hf b hb).1⟩⟩
    rw [Int.mul_one]
  done := by
    intro X hP hw hK hc i pins s σ H E I hf st hg
    subst hP hw hK
    obtain ⟨f0, f1, f2, f3, f4, f5⟩ := hf it (by simp)
    exact wpAny_pyNext_range_end (I.ok.hd hc) st (by have : n ≤ i := hg; omega) fun h' eb => ⟨rfl, I.turned (t' := s.toks) (fun b o hb e => eb b o hb e) f0 f1 f3 f4 f5⟩
  self := fun _ _ _ _ _ st h => wpAny_pyIter_rangeiter st h
section
variable {X : Cx} {tg : Expr}
noncomputable def iList (K : PySem.W.Frag) (tl : TE) : TI := fun σ H R => tl σ H fun x H1 => ∃ a, x = .ref a ∧ (∃ xs, SqL K H1 a xs) ∧ R (Itl K a) H1
noncomputable def iTup (K : PySem.W.Frag) (tl : TE) : TI := fun σ H R => tl σ H fun x H1 => ∃ a, x = .ref a ∧ (∃ xs, SqT K H1 a xs) ∧ R (Itt K a) H1
theorem pi_list {l : Expr} {tl : TE} (hl : PE X l tl) : PI X tg l (iList X.K tl) := by
  intro pins s σ H R I h
  refine thn (hl pins s σ H _ I h) fun v s1 ⟨x, H1, I1, r1, q1⟩ => ?_
  obtain ⟨a, e, ⟨xs, hq⟩, q⟩ := q1
  subst e
  cases r1
  obtain ⟨its, rv, p, hz⟩ := I1.list hq
  refine wpAny_pyIter_list p.isList ?_
  refine ⟨s1.heap.objs.size, [s1.heap.objs.size], _, _, H1, rfl, I1.kept (t' := s1.toks) fun b o e => Heap.get?_push_of_some _ e, turn_list a _, ⟨_, Heap.get?_push_size _ rfl, rfl, rfl⟩, fun b hb => ?_, q⟩
  have e : b = s1.heap.objs.size := by simpa using hb
  subst e
  exact I1.fpOk (Nat.le_refl _) (I1.hok.fresh (Nat.le_refl _))
theorem pi_tup {l : Expr} {tl : TE} (hl : PE X l tl) : PI X tg l (iTup X.K tl) := by
  intro pins s σ H R I h
  refine thn (hl pins s σ H _ I h) fun v s1 ⟨x, H1, I1, r1, q1⟩ => ?_
  obtain ⟨a, e, ⟨xs, hq⟩, q⟩ := q1
  subst e
  cases r1
  obtain ⟨its, rv, p, hz⟩ := I1.tuple hq
  refine wpAny_pyIter_tuple (show s1.heap.IsTuple a its.toArray from p) ?_
  refine ⟨s1.heap.objs.size, [s1.heap.objs.size], _, _, H1, rfl, I1.kept (t' := s1.toks) fun b o e => Heap.get?_push_of_some _ e, turn_tuple a _, ⟨_, Heap.get?_push_size _ rfl, rfl, rfl⟩, fun b hb => ?_, q⟩
  have e : b = s1.heap.objs.size := by simpa using hb
  subst e
  exact I1.fpOk (Nat.le_refl _) (I1.hok.fresh (Nat.le_refl _))
theorem range_it {pins : List (Addr × Obj)} {σ : St} {H : Hp} {s : Shared} {R : It → Hp → Prop} {E : Value → Shared → Prop} {lo hi : Int} {t u v : Tok} {tk : Nat} (I : Inv X pins σ H s) (h1 : -(2 ^ 62) ≤ lo) (h2 : lo < 2 ^ 62) (h3 : -(2 ^ 62) ≤ hi) (h4 : hi < 2 ^ 62)
    (q : R (Itr lo (hi - lo).toNat) H) : wpAny (model X.prog X.w) X.A (pyIter (.ref s.heap.objs.size)) (PIE X pins σ tg R) E { s with heap := s.heap.push { cls := .type "range", data := .fields #[.int lo t, .int hi u, .int 1 v] }, toks := tk } := by
  refine wpAny_pyIter_range (IsRange.new ..) (small_one h1 h2 h3 h4) ?_
  have I1 : Inv X pins σ H { s with heap := s.heap.push { cls := .type "range", data := .fields #[.int lo t, .int hi u, .int 1 v] }, toks := tk } := I.kept fun b o e => Heap.get?_push_of_some _ e
  refine ⟨(s.heap.push { cls := .type "range", data := .fields #[.int lo t, .int hi u, .int 1 v] }).objs.size, [(s.heap.push { cls := .type "range", data := .fields #[.int lo t, .int hi u, .int 1 v] }).objs.size], _, _, H, rfl,
    I1.kept (t' := tk) fun b o e => Heap.get?_push_of_some _ e, turn_range _ lo (hi - lo).toNat, ?_, fun b hb => ?_, q⟩
  · have e1 : lo + ((0 : Nat) : Int) * 1 = lo := by simp
    have e2 : (((hi - lo).toNat : Nat) : Int) - ((0 : Nat) : Int) = Builtin.Range.rangeSize lo hi 1 := by rw [rangeSize_one]; split <;> omega
    show IsRangeIter _ _ (lo + ((0 : Nat) : Int) * 1) ((((hi - lo).toNat : Nat) : Int) - ((0 : Nat) : Int)) 1
    rw [e1, e2]
    exact Heap.get?_push_size _ rfl
  · have e : b = (s.heap.push { cls := .type "range", data := .fields #[.int lo t, .int hi u, .int 1 v] }).objs.size := by simpa using hb
    subst e
    exact I1.fpOk (Nat.le_refl _) (I1.hok.fresh (Nat.le_refl _))
noncomputable def iRng1 (ta : TA) : TI := fun σ H R => ta σ H fun vs H1 => ∃ j : Int, vs = [.int j] ∧ -(2 ^ 62) ≤ j ∧ j < 2 ^ 62 ∧ R (Itr 0 j.toNat) H1
noncomputable def iRng2 (ta : TA) : TI := fun σ H R => ta σ H fun vs H1 => ∃ i j : Int, vs = [.int i, .int j] ∧ (-(2 ^ 62) ≤ i ∧ i < 2 ^ 62 ∧ -(2 ^ 62) ≤ j ∧ j < 2 ^ 62) ∧ R (Itr i (j - i).toNat) H1
theorem pi_range1 {a : Expr} {ta : TA} {p pos : Pos} (hg : Gl X "range") (hm : X.mg "range" = none) (ha : PA X [a] ta) (hs : starEach [a] X.env = [(false, eval a X.env)] := by rfl) : PI X tg (.Call (.Name "range" p) [a] [] pos) (iRng1 ta) := by
  intro pins s σ H R I h
  refine Call_ (ld_blt I hg hm boot_range (PyProof.Rows.callWith_type1 (thn (ha pos pins s σ H _ I h) fun us s1 ⟨vs, H1, I1, r1, q1⟩ => ?_) hs rfl))
  obtain ⟨j, e, q1, q2, q⟩ := q1
  subst e
  cases r1 with
  | cons r rr =>
    cases rr
    obtain ⟨t, rfl⟩ := r
    exact call_range_1 (range_it I1 (by omega) (by omega) q1 q2 (by simpa using q))
theorem pi_range2 {a b : Expr} {ta : TA} {p pos : Pos} (hg : Gl X "range") (hm : X.mg "range" = none) (ha : PA X [a, b] ta) (hs : starEach [a, b] X.env = [(false, eval a X.env), (false, eval b X.env)] := by rfl) (hs2 : starEach [b] X.env = [(false, eval b X.env)] := by rfl) :
    PI X tg (.Call (.Name "range" p) [a, b] [] pos) (iRng2 ta) := by
  intro pins s σ H R I h
  refine Call_ (ld_blt I hg hm boot_range (PyProof.Rows.callWith_type1 (thn (ha pos pins s σ H _ I h) fun us s1 ⟨vs, H1, I1, r1, q1⟩ => ?_) (by rw [hs, hs2]) (by rw [hs2]; rfl)))
  obtain ⟨i, j, e, ⟨q1, q2, q3, q4⟩, q⟩ := q1
  subst e
  cases r1 with
  | cons r rr =>
    cases rr with
    | cons r' rr =>
      cases rr
      obtain ⟨t, rfl⟩ := r
      obtain ⟨t', rfl⟩ := r'
      exact call_range_2 (range_it I1 q1 q2 q3 q4 q)

noncomputable def tFor (wi : TI) (g : TG) (tb : TS) : TS := fun D σ H => wi σ H fun J H1 => ∃ W : Nat → Nat → St → Hp → Prop, (∃ m, W 0 m σ H1) ∧ ∀ i m σ H, W i m σ H →
  (J.stop i H ∧ D.nx σ H) ∨ (J.go i H ∧ ∃ N : St → Hp → Prop, (∀ σ' H', N σ' H' → ∃ m', m' < m ∧ W (i + 1) m' σ' H') ∧ ∀ x H', J.yld i H x H' → g x σ H' fun σ2 H2 => tb { D with nx := N, ct := N, bk := D.nx } σ2 H2)
noncomputable def pinsAt (fp : List Addr) (h : Heap) : List (Addr × Obj) := fp.filterMap fun b => (h.get? b).map fun o => (b, o)
theorem mem_pinsAt {fp : List Addr} {h : Heap} {b : Addr} {o : Obj} (hb : b ∈ fp) (e : h.get? b = some o) : (b, o) ∈ pinsAt fp h := List.mem_filterMap.mpr ⟨b, hb, by rw [e]; rfl⟩
theorem of_pinsAt {fp : List Addr} {h : Heap} {p : Addr × Obj} (hp : p ∈ pinsAt fp h) : p.1 ∈ fp ∧ h.get? p.1 = some p.2 := by
  obtain ⟨b, hb, e⟩ := List.mem_filterMap.mp hp
  cases q : h.get? b with
  | none => rw [q] at e; cases e
  | some o =>
    rw [q] at e
    have e' : (b, o) = p := Option.some.inj e
    subst e'
    exact ⟨hb, q⟩
theorem Inv.pinned {pins : List (Addr × Obj)} {σ : St} {H : Hp} {s : Shared} {fp : List Addr} (I : Inv X pins σ H s) (hf : ∀ b ∈ fp, FpOk X pins H b) (ho : ∀ b ∈ fp, ∃ o, s.heap.get? b = some o ∧ ∀ v, o.data ≠ .cell v) : Inv X (pins ++ pinsAt fp s.heap) σ H s :=
  I.pins_of fun p hp => (List.mem_append.mp hp).elim (fun z => I.pin p (List.mem_append_right _ z)) fun z => by
    obtain ⟨hb, e⟩ := of_pinsAt z
    obtain ⟨f0, f1, f2, _⟩ := hf p.1 hb
    obtain ⟨o, e', d⟩ := ho p.1 hb
    rw [e] at e'; cases e'
    exact ⟨e, f0, f1, f2, d⟩
theorem Inv.unpinned {pins pl : List (Addr × Obj)} {σ : St} {H : Hp} {s : Shared} (I : Inv X (pins ++ pl) σ H s) : Inv X pins σ H s := I.pins_of fun p hp => I.pin p (List.mem_append_right _ (List.mem_append_left _ hp))
theorem ps_for {iter : Expr} {body : List Stmt} {wi : TI} {g : TG} {tb : TS} {pos : Pos} (hp : PassesOwn (model X.prog X.w) X.A X.env X.xe) (hc : X.calm = true) (hi : PI X tg iter wi) (hg : PG X tg g) (hb : PSs X body tb)
    (hs : ∀ x, foldedSetIterable iter X.env x = pure x := by intro _; rfl) : PS X (.For tg iter body [] pos) (tFor wi g tb) := by
  intro pins s σ H D I h
  refine wpAny_For (thn (hi pins s σ H _ I h) fun v s1 h1 => thn h1 fun itv s2 h2 => ?_) hs
  obtain ⟨it, fp, tn, J, H2, e, I2, T, st2, f2, W, ⟨m0, w0⟩, turn⟩ := h2
  subst e
  -- what stays true of the iterator's objects through the loop
  have stat : ∀ {H' : Hp}, (∀ b ∈ fp, H' b = none) → ∀ b ∈ fp, FpOk X pins H' b := fun hn b hb => ⟨hn b hb, (f2 b hb).2⟩
  refine codeAny_forLoop_any (fun n s' => ∃ i σ' H', Inv X pins σ' H' s' ∧ tn i s'.heap ∧ (∀ b ∈ fp, H' b = none) ∧ W i n σ' H') ?_ m0 ⟨0, σ, H2, I2, st2, fun b hb => (f2 b hb).1, w0⟩
  rintro n s3 ⟨i, σ3, H3, I3, st3, fr3, w3⟩
  rcases turn i n σ3 H3 w3 with ⟨stop, qn⟩ | ⟨go, N, hN, step⟩
  · refine wpAny_passesOwn hp (thn (T.done X rfl rfl rfl hc i pins s3 σ3 H3 X.xe I3 (stat fr3) st3 stop) fun r s4 ⟨hr, I4⟩ => ?_)
    subst hr
    exact wpAny_execs_nil ⟨σ3, H3, I4, qn⟩
  · refine wpAny_passesOwn hp (thn (T.item X rfl rfl rfl hc i pins s3 σ3 H3 X.xe I3 (stat fr3) st3 go) fun r s4 ⟨u, hr, h4⟩ => ?_)
    subst hr
    refine wpAny_passesOwn hp (thn h4 fun _ s5 ⟨x, H5, I5, r5, y5, st5, fr5⟩ => ?_)
    have I5' := I5.pinned (stat fr5) (T.obj _ _ st5)
    refine wpAny_passesOwn hp (thn (hg _ s5 σ3 H5 x u _ I5' r5 (step x H5 y5)) fun _ s6 ⟨σ6, H6, I6, q6⟩ => ?_)
    refine wpAny_passesOwn hp (thn (hb _ s6 σ6 H6 _ I6 q6) fun f s7 q7 => ?_)
    have again : ∀ {σ7 : St} {H7 : Hp}, Inv X (pins ++ pinsAt fp s5.heap) σ7 H7 s7 → N σ7 H7 → ∃ m, m < n ∧ ∃ i σ' H', Inv X pins σ' H' s7 ∧ tn i s7.heap ∧ (∀ b ∈ fp, H' b = none) ∧ W i m σ' H' := fun {σ7 H7} I7 n7 => by
      obtain ⟨m', hm, w7⟩ := hN σ7 H7 n7
      refine ⟨m', hm, i + 1, σ7, H7, I7.unpinned, T.keep _ _ _ st5 fun b hb o e => (I7.pin (b, o) (List.mem_append_right _ (List.mem_append_right _ (mem_pinsAt hb e)))).1, fun b hb => ?_, w7⟩
      obtain ⟨o, e, d⟩ := T.obj _ _ st5 b hb
      exact (I7.pin (b, o) (List.mem_append_right _ (List.mem_append_right _ (mem_pinsAt hb e)))).2.1
    cases f with
    | next => obtain ⟨σ7, H7, I7, n7⟩ := q7; exact again I7 n7
    | cont => obtain ⟨σ7, H7, I7, n7⟩ := q7; exact again I7 n7
    | brk => obtain ⟨σ7, H7, I7, q7⟩ := q7; exact ⟨σ7, H7, I7.unpinned, q7⟩
    | ret v => obtain ⟨x7, σ7, H7, I7, r7, q7⟩ := q7; exact ⟨x7, σ7, H7, I7.unpinned, r7, q7⟩
end

theorem for_list {K : PySem.W.Frag} {a : Addr} {xs : List V} {g : TG} {tb : TS} {D : Ends} {σ : St} {H : Hp} (Pv : Nat → St → Hp → Prop) (h0 : Pv 0 σ H) (hl : ∀ i σ H, i ≤ xs.length → Pv i σ H → SqL K H a xs)
    (hs : ∀ i x σ H, xs[i]? = some x → Pv i σ H → g x σ H fun σ2 H2 => tb { D with nx := Pv (i + 1), ct := Pv (i + 1), bk := D.nx } σ2 H2) (hd : ∀ σ H, Pv xs.length σ H → D.nx σ H) :
    ∃ W : Nat → Nat → St → Hp → Prop, (∃ m, W 0 m σ H) ∧ ∀ i m σ H, W i m σ H →
      ((Itl K a).stop i H ∧ D.nx σ H) ∨ ((Itl K a).go i H ∧ ∃ N : St → Hp → Prop, (∀ σ' H', N σ' H' → ∃ m', m' < m ∧ W (i + 1) m' σ' H') ∧ ∀ x H', (Itl K a).yld i H x H' → g x σ H' fun σ2 H2 => tb { D with nx := N, ct := N, bk := D.nx } σ2 H2) := by
  refine ⟨fun i m σ H => m = xs.length - i ∧ i ≤ xs.length ∧ Pv i σ H, ⟨xs.length, by simp, Nat.zero_le _, h0⟩, ?_⟩
  rintro i m σ H ⟨rfl, hi, p⟩
  have q := hl i σ H hi p
  by_cases hlt : i < xs.length
  · refine .inr ⟨⟨xs, xs[i], q, by simp [hlt]⟩, Pv (i + 1), fun σ' H' p' => ⟨xs.length - (i + 1), by omega, rfl, hlt, p'⟩, fun x H' y => ?_⟩
    obtain ⟨e, y⟩ := y
    subst e
    exact hs i x σ _ (y xs q) p
  · have e : i = xs.length := by omega
    subst e
    exact .inl ⟨⟨xs, q, Nat.le_refl _⟩, hd σ H p⟩
theorem for_tup {K : PySem.W.Frag} {a : Addr} {xs : List V} {g : TG} {tb : TS} {D : Ends} {σ : St} {H : Hp} (Pv : Nat → St → Hp → Prop) (h0 : Pv 0 σ H) (hl : ∀ i σ H, i ≤ xs.length → Pv i σ H → SqT K H a xs)
    (hs : ∀ i x σ H, xs[i]? = some x → Pv i σ H → g x σ H fun σ2 H2 => tb { D with nx := Pv (i + 1), ct := Pv (i + 1), bk := D.nx } σ2 H2) (hd : ∀ σ H, Pv xs.length σ H → D.nx σ H) :
    ∃ W : Nat → Nat → St → Hp → Prop, (∃ m, W 0 m σ H) ∧ ∀ i m σ H, W i m σ H →
      ((Itt K a).stop i H ∧ D.nx σ H) ∨ ((Itt K a).go i H ∧ ∃ N : St → Hp → Prop, (∀ σ' H', N σ' H' → ∃ m', m' < m ∧ W (i + 1) m' σ' H') ∧ ∀ x H', (Itt K a).yld i H x H' → g x σ H' fun σ2 H2 => tb { D with nx := N, ct := N, bk := D.nx } σ2 H2) := by
  refine ⟨fun i m σ H => m = xs.length - i ∧ i ≤ xs.length ∧ Pv i σ H, ⟨xs.length, by simp, Nat.zero_le _, h0⟩, ?_⟩
  rintro i m σ H ⟨rfl, hi, p⟩
  have q := hl i σ H hi p
  by_cases hlt : i < xs.length
  · refine .inr ⟨⟨xs, xs[i], q, by simp [hlt]⟩, Pv (i + 1), fun σ' H' p' => ⟨xs.length - (i + 1), by omega, rfl, hlt, p'⟩, fun x H' y => ?_⟩
    obtain ⟨e, y⟩ := y
    subst e
    exact hs i x σ _ (y xs q) p
  · have e : i = xs.length := by omega
    subst e
    exact .inl ⟨⟨xs, q, Nat.le_refl _⟩, hd σ H p⟩
theorem for_range {lo : Int} {n : Nat} {g : TG} {tb : TS} {D : Ends} {σ : St} {H : Hp} (Pv : Nat → St → Hp → Prop) (h0 : Pv 0 σ H)
    (hs : ∀ i σ H, i < n → Pv i σ H → g (.int (lo + i)) σ H fun σ2 H2 => tb { D with nx := Pv (i + 1), ct := Pv (i + 1), bk := D.nx } σ2 H2) (hd : ∀ σ H, Pv n σ H → D.nx σ H) :
    ∃ W : Nat → Nat → St → Hp → Prop, (∃ m, W 0 m σ H) ∧ ∀ i m σ H, W i m σ H →
      ((Itr lo n).stop i H ∧ D.nx σ H) ∨ ((Itr lo n).go i H ∧ ∃ N : St → Hp → Prop, (∀ σ' H', N σ' H' → ∃ m', m' < m ∧ W (i + 1) m' σ' H') ∧ ∀ x H', (Itr lo n).yld i H x H' → g x σ H' fun σ2 H2 => tb { D with nx := N, ct := N, bk := D.nx } σ2 H2) := by
  refine ⟨fun i m σ H => m = n - i ∧ i ≤ n ∧ Pv i σ H, ⟨n, by simp, Nat.zero_le _, h0⟩, ?_⟩
  rintro i m σ H ⟨rfl, hi, p⟩
  by_cases hlt : i < n
  · refine .inr ⟨hlt, Pv (i + 1), fun σ' H' p' => ⟨n - (i + 1), by omega, rfl, hlt, p'⟩, fun x H' y => ?_⟩
    obtain ⟨e, y⟩ := y
    subst e y
    exact hs i σ _ hlt p
  · have e : i = n := by omega
    subst e
    exact .inl ⟨Nat.le_refl _, hd σ H p⟩

noncomputable abbrev R2 := V → V → Hp → VK → Prop
noncomputable def OpR (X : Cx) (f : Value → Value → Sem Value) (r : R2) : Prop :=
  ∀ (pins : List (Addr × Obj)) (s : Shared) (σ : St) (H : Hp) (x y : V) (v u : Value) (Q : VK), Inv X pins σ H s → RelV x v → RelV y u → r x y H Q →
    wpAny (model X.prog X.w) X.A (f v u) (EP X pins σ Q) X.xe s
noncomputable def UnR (X : Cx) (f : Value → Sem Value) (r : V → Hp → VK → Prop) : Prop :=
  ∀ (pins : List (Addr × Obj)) (s : Shared) (σ : St) (H : Hp) (x : V) (v : Value) (Q : VK), Inv X pins σ H s → RelV x v → r x H Q →
    wpAny (model X.prog X.w) X.A (f v) (EP X pins σ Q) X.xe s
noncomputable def CallR (X : Cx) (f : Value) (r : List V → Hp → VK → Prop) : Prop :=
  ∀ (pins : List (Addr × Obj)) (s : Shared) (σ : St) (H : Hp) (xs : List V) (us : List Value) (Q : VK), Inv X pins σ H s → Vals xs us → r xs H Q →
    wpAny (model X.prog X.w) X.A (call f us) (EP X pins σ Q) X.xe s
noncomputable def tOp (r : R2) (ta tb : TE) : TE := fun σ H Q => ta σ H fun x H1 => tb σ H1 fun y H2 => r x y H2 Q
noncomputable def tUn (r : V → Hp → VK → Prop) (ta : TE) : TE := fun σ H Q => ta σ H fun x H1 => r x H1 Q
noncomputable def rI (C : Int → Int → Prop) (g : Int → Int → V) : R2 := fun x y H Q => ∃ i j, x = .int i ∧ y = .int j ∧ C i j ∧ Q (g i j) H
noncomputable def rI0 (g : Int → Int → V) : R2 := fun x y H Q => ∃ i j, x = .int i ∧ y = .int j ∧ Q (g i j) H
noncomputable def rU (g : Int → V) : V → Hp → VK → Prop := fun x H Q => ∃ i, x = .int i ∧ Q (g i) H

section
variable {X : Cx} {a b c : Expr} {ta tb tc : TE} {pos : Pos}

theorem binT (ha : PE X a ta) (hb : PE X b tb) {pins : List (Addr × Obj)} {s : Shared} {σ : St} {H : Hp} {R : V → V → Hp → Prop} (I : Inv X pins σ H s)
    (h : ta σ H fun x H1 => tb σ H1 fun y H2 => R x y H2) {Q : Value → Shared → Prop} {f : Value → Value → Sem Value}
    (hf : ∀ v u s2 x y H2, Inv X pins σ H2 s2 → RelV x v → RelV y u → R x y H2 → wpAny (model X.prog X.w) X.A (f v u) Q X.xe s2) :
    wpAny (model X.prog X.w) X.A (eval a X.env) (fun v s₁ => wpAny (model X.prog X.w) X.A (eval b X.env) (fun u s₂ => wpAny (model X.prog X.w) X.A (f v u) Q X.xe s₂) X.xe s₁) X.xe s := by
  refine thn (ha pins s σ H _ I h) fun v s1 ⟨x, H1, I1, r1, q1⟩ => ?_
  refine thn (hb pins s1 σ H1 _ I1 q1) fun u s2 ⟨y, H2, I2, r2, q2⟩ => ?_
  exact hf v u s2 x y H2 I2 r1 r2 q2

theorem pe_op {op : Operator} {r : R2} (ho : OpR X (binaryOp op) r) (ha : PE X a ta) (hb : PE X b tb) : PE X (.BinOp a op b pos) (tOp r ta tb) := by
  intro pins s σ H Q I h
  exact wpAny_BinOp (binT ha hb I h fun v u s2 x y H2 I2 rx ry q => ho pins s2 σ H2 x y v u Q I2 rx ry q)
theorem pe_un {op : UnaryOp} {r : V → Hp → VK → Prop} (ho : UnR X (unaryOp op) r) (ha : PE X a ta) : PE X (.UnaryOp op a pos) (tUn r ta) := by
  intro pins s σ H Q I h
  exact UnaryOp_ (thn (ha pins s σ H _ I h) fun v s1 ⟨x, H1, I1, r1, q1⟩ => ho pins s1 σ H1 x v Q I1 r1 q1)
theorem opI {f : Value → Value → Sem Value} {C : Int → Int → Prop} {g : Int → Int → Int}
    (rule : ∀ (i j : Int) (t u : Tok) (s : Shared) (Q : Value → Shared → Prop) (E : Value → Shared → Prop), C i j → Q (.int (g i j) s.toks) { s with toks := s.toks + 1 } → wpAny (model X.prog X.w) X.A (f (.int i t) (.int j u)) Q E s) :
    OpR X f (rI C fun i j => .int (g i j)) := by
  intro pins s σ H x y v u Q I rx ry h
  obtain ⟨i, j, rfl, rfl, hc, q⟩ := h
  obtain ⟨t, rfl⟩ := rx
  obtain ⟨t', rfl⟩ := ry
  exact rule i j t t' s _ _ hc ⟨.int (g i j), H, I.tok _, ⟨_, rfl⟩, q⟩
theorem opI0 {f : Value → Value → Sem Value} {g : Int → Int → Int}
    (rule : ∀ (i j : Int) (t u : Tok) (s : Shared) (Q : Value → Shared → Prop) (E : Value → Shared → Prop), Q (.int (g i j) s.toks) { s with toks := s.toks + 1 } → wpAny (model X.prog X.w) X.A (f (.int i t) (.int j u)) Q E s) :
    OpR X f (rI0 fun i j => .int (g i j)) := by
  intro pins s σ H x y v u Q I rx ry h
  obtain ⟨i, j, rfl, rfl, q⟩ := h
  obtain ⟨t, rfl⟩ := rx
  obtain ⟨t', rfl⟩ := ry
  exact rule i j t t' s _ _ ⟨.int (g i j), H, I.tok _, ⟨_, rfl⟩, q⟩
theorem opB0 {f : Value → Value → Sem Value} {g : Int → Int → Bool}
    (rule : ∀ (i j : Int) (t u : Tok) (s : Shared) (Q : Value → Shared → Prop) (E : Value → Shared → Prop), Q (.bool (g i j)) s → wpAny (model X.prog X.w) X.A (f (.int i t) (.int j u)) Q E s) :
    OpR X f (rI0 fun i j => .bl (g i j)) := by
  intro pins s σ H x y v u Q I rx ry h
  obtain ⟨i, j, rfl, rfl, q⟩ := h
  obtain ⟨t, rfl⟩ := rx
  obtain ⟨t', rfl⟩ := ry
  exact rule i j t t' s _ _ ⟨.bl (g i j), H, I, rfl, q⟩

noncomputable def CDiv (i j : Int) : Prop := 0 < j ∧ j < 1073741824
noncomputable def CPow (i j : Int) : Prop := 0 ≤ j ∧ j ≤ 1000000 ∧ i.natAbs < 2 ^ 64
noncomputable def CMul (i j : Int) : Prop := (-(2 ^ 64) < i ∧ i < 2 ^ 64) ∨ (-(2 ^ 64) < j ∧ j < 2 ^ 64)
theorem CMul.ok {i j : Int} (h : CMul i j) : IntMulOk i j := by
  rcases h with ⟨h1, h2⟩ | ⟨h1, h2⟩
  · exact .of_left (intBits_le_64 h1 h2)
  · exact .of_right (intBits_le_64 h1 h2)
theorem op_add : OpR X (binaryOp .Add) (rI0 fun i j => .int (i + j)) := opI0 fun _ _ _ _ _ _ _ q => add_int q
theorem op_sub : OpR X (binaryOp .Sub) (rI0 fun i j => .int (i - j)) := opI0 fun _ _ _ _ _ _ _ q => sub_int q
theorem op_mul : OpR X (binaryOp .Mult) (rI CMul fun i j => .int (i * j)) := opI fun _ _ _ _ _ _ _ hc q => mul_int q hc.ok
theorem op_mod : OpR X (binaryOp .Mod) (rI (fun _ j => 0 < j) fun i j => .int (i % j)) := opI fun i j _ _ _ _ _ hc q => by
  have h1 : (0 : Int) < j := hc
  exact mod_int' (by omega) (by rw [Int.fmod_eq_emod_of_nonneg i (by omega)]; exact q)
theorem op_pow : OpR X (binaryOp .Pow) (rI CPow fun i j => .int (i ^ j.toNat)) := opI fun _ _ _ _ _ _ _ hc q => pow_int_small hc.1 hc.2.1 hc.2.2 q
theorem unI {f : Value → Sem Value} {g : Int → Int}
    (rule : ∀ (i : Int) (t : Tok) (s : Shared) (Q : Value → Shared → Prop) (E : Value → Shared → Prop), Q (.int (g i) s.toks) { s with toks := s.toks + 1 } → wpAny (model X.prog X.w) X.A (f (.int i t)) Q E s) :
    UnR X f (rU fun i => .int (g i)) := by
  intro pins s σ H x v Q I rx h
  obtain ⟨i, rfl, q⟩ := h
  obtain ⟨t, rfl⟩ := rx
  exact rule i t s _ _ ⟨.int (g i), H, I.tok _, ⟨_, rfl⟩, q⟩
theorem un_neg : UnR X (unaryOp .USub) (rU fun i => .int (-i)) := unI fun _ _ _ _ _ q => neg_int q
end

noncomputable def scal : V → V → Bool
  | .non, .non => true | .non, .int _ => true | .int _, .non => true | .non, .bl _ => true | .bl _, .non => true | .non, .str _ => true | .str _, .non => true
  | .int _, .int _ => true | .bl _, .bl _ => true | .str _, .str _ => true | .byt _, .byt _ => true
  | .int _, .str _ => true | .str _, .int _ => true | .bl _, .str _ => true | .str _, .bl _ => true
  | _, _ => false
noncomputable def rEq : R2 := fun x y H Q => scal x y = true ∧ Q (.bl (decide (x = y))) H
noncomputable def rNe : R2 := fun x y H Q => scal x y = true ∧ Q (.bl (!decide (x = y))) H

theorem dec_int {i j : Int} : decide (V.int i = V.int j) = (i == j) := by
  rw [Bool.eq_iff_iff]
  simp
theorem dec_bl {i j : Bool} : decide (V.bl i = V.bl j) = (i == j) := by
  rw [Bool.eq_iff_iff]
  simp
theorem dec_str {i j : Str} : decide (V.str i = V.str j) = (i == j) := by
  rw [Bool.eq_iff_iff]
  simp
theorem dec_byt {i j : Array UInt8} : decide (V.byt i = V.byt j) = (i.toList == j.toList) := by
  rw [Bool.eq_iff_iff]
  cases i
  cases j
  simp

section
variable {X : Cx} {a b c : Expr} {ta tb tc : TE} {pos : Pos}
theorem fin_bl {pins : List (Addr × Obj)} {σ : St} {H : Hp} {s : Shared} {Q : VK} {k k' : Bool} (I : Inv X pins σ H s) (q : Q (.bl k) H) (e : k = k') : EP X pins σ Q (.bool k') s := by
  subst e
  exact ⟨.bl k, H, I, rfl, q⟩
theorem op_eq : OpR X (compareOp .Eq) rEq := by
  intro pins s σ H x y v u Q I rx ry h
  obtain ⟨hs, q⟩ := h
  cases x with
  | non =>
    cases rx
    cases y with
    | non => cases ry; exact PySem.EqNone.eq_none_none (fin_bl I q (by simp))
    | bl j => cases ry; exact PySem.EqNone.eq_none_bool (fin_bl I q (by simp))
    | int j => obtain ⟨t', rfl⟩ := ry; exact PySem.EqNone.eq_none_int (fin_bl I q (by simp))
    | str j => obtain ⟨t', rfl⟩ := ry; exact PySem.EqNone.eq_none_str (fin_bl I q (by simp))
    | _ => exact absurd (show false = true from hs) Bool.false_ne_true
  | bl i =>
    cases rx
    cases y with
    | non => cases ry; exact PySem.EqNone.eq_bool_none (fin_bl I q (by simp))
    | bl j => cases ry; exact eq_bool (fin_bl I q dec_bl)
    | str j => obtain ⟨t', rfl⟩ := ry; exact PySem.EqMixed.eq_bool_str (fin_bl I q (by simp))
    | _ => exact absurd (show false = true from hs) Bool.false_ne_true
  | int i =>
    obtain ⟨t, rfl⟩ := rx
    cases y with
    | non => cases ry; exact PySem.EqNone.eq_int_none (fin_bl I q (by simp))
    | int j => obtain ⟨t', rfl⟩ := ry; exact eq_int (fin_bl I q dec_int)
    | str j => obtain ⟨t', rfl⟩ := ry; exact PySem.EqMixed.eq_int_str (fin_bl I q (by simp))
    | _ => exact absurd (show false = true from hs) Bool.false_ne_true
  | str i =>
    obtain ⟨t, rfl⟩ := rx
    cases y with
    | non => cases ry; exact PySem.EqNone.eq_str_none (fin_bl I q (by simp))
    | bl j => cases ry; exact PySem.EqMixed.eq_str_bool (fin_bl I q (by simp))
    | int j => obtain ⟨t', rfl⟩ := ry; exact PySem.EqMixed.eq_str_int (fin_bl I q (by simp))
    | str j => obtain ⟨t', rfl⟩ := ry; exact eq_str (fin_bl I q dec_str)
    | _ => exact absurd (show false = true from hs) Bool.false_ne_true
  | byt i =>
    obtain ⟨t, rfl⟩ := rx
    cases y with
    | byt j => obtain ⟨t', rfl⟩ := ry; exact PySem.W.eq_bytes (fin_bl I q dec_byt)
    | _ => exact absurd (show false = true from hs) Bool.false_ne_true
  | _ => cases y <;> exact absurd (show false = true from hs) Bool.false_ne_true
theorem op_ne : OpR X (compareOp .NotEq) rNe := by
  intro pins s σ H x y v u Q I rx ry h
  obtain ⟨hs, q⟩ := h
  cases x with
  | non =>
    cases rx
    cases y with
    | non => cases ry; exact PySem.EqNone.ne_none_none (fin_bl I q (by simp))
    | bl j => cases ry; exact PySem.EqNone.ne_none_bool (fin_bl I q (by simp))
    | int j => obtain ⟨t', rfl⟩ := ry; exact PySem.EqNone.ne_none_int (fin_bl I q (by simp))
    | str j => obtain ⟨t', rfl⟩ := ry; exact PySem.EqNone.ne_none_str (fin_bl I q (by simp))
    | _ => exact absurd (show false = true from hs) Bool.false_ne_true
  | bl i =>
    cases rx
    cases y with
    | non => cases ry; exact PySem.EqNone.ne_bool_none (fin_bl I q (by simp))
    | bl j => cases ry; exact ne_bool (fin_bl I q (congrArg not dec_bl))
    | str j => obtain ⟨t', rfl⟩ := ry; exact PySem.EqMixed.ne_bool_str (fin_bl I q (by simp))
    | _ => exact absurd (show false = true from hs) Bool.false_ne_true
  | int i =>
    obtain ⟨t, rfl⟩ := rx
    cases y with
    | non => cases ry; exact PySem.EqNone.ne_int_none (fin_bl I q (by simp))
    | int j => obtain ⟨t', rfl⟩ := ry; exact ne_int (fin_bl I q (congrArg not dec_int))
    | str j => obtain ⟨t', rfl⟩ := ry; exact PySem.EqMixed.ne_int_str (fin_bl I q (by simp))
    | _ => exact absurd (show false = true from hs) Bool.false_ne_true
  | str i =>
    obtain ⟨t, rfl⟩ := rx
    cases y with
    | non => cases ry; exact PySem.EqNone.ne_str_none (fin_bl I q (by simp))
    | bl j => cases ry; exact PySem.EqMixed.ne_str_bool (fin_bl I q (by simp))
    | int j => obtain ⟨t', rfl⟩ := ry; exact PySem.EqMixed.ne_str_int (fin_bl I q (by simp))
    | str j => obtain ⟨t', rfl⟩ := ry; exact ne_str (fin_bl I q (congrArg not dec_str))
    | _ => exact absurd (show false = true from hs) Bool.false_ne_true
  | byt i =>
    obtain ⟨t, rfl⟩ := rx
    cases y with
    | byt j => obtain ⟨t', rfl⟩ := ry; exact PySem.W.ne_bytes (fin_bl I q (congrArg not dec_byt))
    | _ => exact absurd (show false = true from hs) Bool.false_ne_true
  | _ => cases y <;> exact absurd (show false = true from hs) Bool.false_ne_true

theorem op_lt : OpR X (compareOp .Lt) (rI0 fun i j => .bl (decide (i < j))) := opB0 fun _ _ _ _ _ _ _ q => lt_int q
theorem op_le : OpR X (compareOp .LtE) (rI0 fun i j => .bl (decide (i ≤ j))) := opB0 fun _ _ _ _ _ _ _ q => le_int q
theorem op_gt : OpR X (compareOp .Gt) (rI0 fun i j => .bl (decide (j < i))) := opB0 fun _ _ _ _ _ _ _ q => gt_int q
theorem op_ge : OpR X (compareOp .GtE) (rI0 fun i j => .bl (decide (j ≤ i))) := opB0 fun _ _ _ _ _ _ _ q => ge_int q
theorem nomark (b : Expr) {op : CmpOp} (h : op ≠ .In := by decide) (h2 : op ≠ .NotIn := by decide) : behindInMarks op b = false := by
  have e1 : (op == CmpOp.In) = false := by cases op <;> first | rfl | exact absurd rfl h
  have e2 : (op == CmpOp.NotIn) = false := by cases op <;> first | rfl | exact absurd rfl h2
  cases b <;> simp [behindInMarks, e1, e2]
theorem pe_cmpR {op : CmpOp} {r : R2} (ho : OpR X (compareOp op) r) (ha : PE X a ta) (hb : PE X b tb) (hm : behindInMarks op b = false) : PE X (.Compare a [op] [b] pos) (tOp r ta tb) := by
  intro pins s σ H Q I h
  exact wpAny_Compare1 (binT ha hb I h fun v u s2 x y H2 I2 rx ry q => ho pins s2 σ H2 x y v u Q I2 rx ry q) hm
noncomputable def tTest (t : TE) : TT := fun σ H Q => t σ H fun x H' => ∃ k, x = .bl k ∧ Q k H'
theorem pt_cmpR {op : CmpOp} {r : R2} (ho : OpR X (compareOp op) r) (ha : PE X a ta) (hb : PE X b tb) (hm : behindInMarks op b = false) : PT X (.Compare a [op] [b] pos) (tTest (tOp r ta tb)) := by
  intro pins s σ H Q I h
  refine wpAny_isTrue_Compare1 (thn (ha pins s σ H _ I h) fun v s1 ⟨x, H1, I1, r1, q1⟩ => thn (hb pins s1 σ H1 _ I1 q1) fun u s2 ⟨y, H2, I2, r2, q2⟩ =>
    thn (ho pins s2 σ H2 x y v u _ I2 r1 r2 q2) fun c s3 ⟨z, H3, I3, r3, k, e, q3⟩ => ?_) hm
  subst e
  cases r3
  exact wpAny_truthy_bool ⟨H3, I3, q3⟩
noncomputable def tChain (r r' : R2) (ta tb tc : TE) : TE := fun σ H Q => ta σ H fun x H1 => tb σ H1 fun y H2 => r x y H2 fun z H3 => ∃ k, z = .bl k ∧
  (if k = true then tc σ H3 fun w' H4 => r' y w' H4 Q else Q (.bl false) H3)
theorem pe_chain {op op' : CmpOp} {r r' : R2} (ho : OpR X (compareOp op) r) (ho' : OpR X (compareOp op') r') (ha : PE X a ta) (hb : PE X b tb) (hc : PE X c tc)
    (hm : lastMarks [op, op'] [b, c] = false := by with_unfolding_all rfl) : PE X (.Compare a [op, op'] [b, c] pos) (tChain r r' ta tb tc) := by
  intro pins s σ H Q I h
  refine Compare_chain (thn (ha pins s σ H _ I h) fun v s1 ⟨x, H1, I1, r1, q1⟩ => chain_link (thn (hb pins s1 σ H1 _ I1 q1) fun u s2 ⟨y, H2, I2, r2, q2⟩ =>
    thn (ho pins s2 σ H2 x y v u _ I2 r1 r2 q2) fun d s3 ⟨z, H3, I3, r3, k, e, q3⟩ => ?_)) hm
  subst e
  cases r3
  refine wpAny_truthy_bool ?_
  cases k with
  | false => exact ite_ff ⟨.bl false, H3, I3, rfl, q3⟩
  | true => exact ite_tt (chain_last (thn (hc pins s3 σ H3 _ I3 q3) fun w' s4 ⟨z', H4, I4, r4, q4⟩ => ho' pins s4 σ H4 y z' u w' Q I4 r2 r4 q4))
theorem pt_chain {op op' : CmpOp} {r r' : R2} (ho : OpR X (compareOp op) r) (ho' : OpR X (compareOp op') r') (ha : PE X a ta) (hb : PE X b tb) (hc : PE X c tc)
    (hm : lastMarks [op, op'] [b, c] = false := by with_unfolding_all rfl) : PT X (.Compare a [op, op'] [b, c] pos) (tTest (tChain r r' ta tb tc)) := by
  intro pins s σ H Q I h
  refine isTrue_chain (thn (ha pins s σ H _ I h) fun v s1 ⟨x, H1, I1, r1, q1⟩ => test_link (thn (hb pins s1 σ H1 _ I1 q1) fun u s2 ⟨y, H2, I2, r2, q2⟩ =>
    thn (ho pins s2 σ H2 x y v u _ I2 r1 r2 q2) fun d s3 ⟨z, H3, I3, r3, k, e, q3⟩ => ?_)) hm
  subst e
  cases r3
  refine wpAny_truthy_bool ?_
  cases k with
  | false =>
    obtain ⟨k', e', q'⟩ := q3
    cases e'
    exact ite_ff ⟨H3, I3, q'⟩
  | true =>
    refine ite_tt (test_last (thn (hc pins s3 σ H3 _ I3 q3) fun w' s4 ⟨z', H4, I4, r4, q4⟩ => thn (ho' pins s4 σ H4 y z' u w' _ I4 r2 r4 q4) fun d' s5 ⟨z2, H5, I5, r5, k2, e2, q5⟩ => ?_))
    subst e2
    cases r5
    exact wpAny_truthy_bool ⟨H5, I5, q5⟩

theorem line63 : (sizeLine : Nat) < 2 ^ 63 := by rw [sizeLine_eq]; decide
theorem op_add_str : OpR X (binaryOp .Add) (fun x y H Q => ∃ i j, x = .str i ∧ y = .str j ∧ i.length + j.length ≤ sizeLine ∧ Q (.str (i ++ j)) H) := by
  intro pins s σ H x y v u Q I rx ry h
  obtain ⟨i, j, rfl, rfl, hz, q⟩ := h
  obtain ⟨t, rfl⟩ := rx
  obtain ⟨t', rfl⟩ := ry
  exact add_str (fun t' tk => ⟨.str (i ++ j), H, I.tok _, ⟨_, rfl⟩, q⟩) hz
theorem vals1 {x : V} {us : List Value} (r : Vals [x] us) : ∃ u, us = [u] ∧ RelV x u := by
  cases r with
  | cons r1 r2 => cases r2; exact ⟨_, rfl, r1⟩
theorem vals2 {x y : V} {us : List Value} (r : Vals [x, y] us) : ∃ u w', us = [u, w'] ∧ RelV x u ∧ RelV y w' := by
  cases r with
  | cons r1 r2 =>
    cases r2 with
    | cons r3 r4 => cases r4; exact ⟨_, _, rfl, r1, r3⟩
theorem call_abs : CallR X (.builtin "abs") (fun xs H Q => ∃ i, xs = [.int i] ∧ Q (.int (if i < 0 then -i else i)) H) := by
  intro pins s σ H xs us Q I r h
  obtain ⟨i, rfl, q⟩ := h
  obtain ⟨u, rfl, t, rfl⟩ := vals1 r
  exact call_abs_int fun u tk => ⟨.int (if i < 0 then -i else i), H, I.tok _, ⟨_, rfl⟩, q⟩
theorem call_min2 (hc : X.calm = true) : CallR X (.builtin "min") (fun xs H Q => ∃ i j, xs = [.int i, .int j] ∧ Q (.int (if j < i then j else i)) H) := by
  intro pins s σ H xs us Q I r h
  obtain ⟨i, j, rfl, q⟩ := h
  obtain ⟨u, w', rfl, ⟨t, rfl⟩, ⟨t', rfl⟩⟩ := vals2 r
  refine min_two_ints (I.ok.hd hc) fun h' tk k => ⟨_, H, I.kept k, ?_, q⟩
  by_cases hj : j < i
  · rw [if_pos hj, if_pos hj]; exact ⟨_, rfl⟩
  · rw [if_neg hj, if_neg hj]; exact ⟨_, rfl⟩
theorem call_str_int : CallR X (.type "str") (fun xs H Q => ∃ i, xs = [.int i] ∧ i.natAbs.log2 < 1920 ∧ Q (.str (toString i)) H) := by
  intro pins s σ H xs us Q I r h
  obtain ⟨i, rfl, hz, q⟩ := h
  obtain ⟨u, rfl, t, rfl⟩ := vals1 r
  exact PySem.P.str_of_int hz ⟨.str _, H, I.tok _, ⟨_, rfl⟩, q⟩
end

structure ObjM (h : Heap) (x dx C : Addr) (mA : Str → Option Value) : Prop where
  obj : h.get? x = some (PySem.W.instObj C dx)
  ns : h.Ns1 dx mA
  ne : dx ≠ x

section
variable {prog : Program} {w : World} {A : Around} {E : Value → Shared → Prop} {s : Shared} {K : PySem.W.Frag} {x dx C f : Addr} {mA : Str → Option Value} {name : Str} {v : Value}

end

noncomputable def putF (f : Str) (v : V) : List (Str × V) → List (Str × V)
  | [] => [(f, v)]
  | (g, x) :: r => if g = f then (g, v) :: r else (g, x) :: putF f v r
section
variable {P : Program} {w : World} {H H' : Hp} {h h' : Heap} {a C dx : Addr} {fs fs' : List (Str × V)}
end

structure Cls (K : PySem.W.Frag) (C : Addr) : Prop where
  pg : PySem.W.plainGet K C Str.empty = true
  hd : PySem.W.hasDictIn K C = true
  po : PySem.W.plainOver K C = true
  sa : PySem.W.findIn K (.ref C) "__setattr__" = some (some (.builtin "object.__setattr__"))
noncomputable def NoAttr (K : PySem.W.Frag) (C : Addr) (f : Str) : Prop := PySem.W.findIn K (.ref C) f = some none
structure Con (K : PySem.W.Frag) (C : Addr) (f : Str) (v : V) (u : Value) : Prop where
  at_ : PySem.W.findIn K (.ref C) f = some (some u)
  rel : RelV v u
  get : PySem.W.specialIn K u "__get__" = some none
  cp : PySem.W.copiedNames.contains f = false
structure Meth (K : PySem.W.Frag) (C : Addr) (m : Str) (f : Addr) : Prop where
  at_ : PySem.W.findIn K (.ref C) m = some (some (.ref f))
  fn : PySem.W.isFn K (.ref f) = true
  kp : PySem.W.keepIn K (.ref f) = true

section
variable {X : Cx} {pins : List (Addr × Obj)} {σ : St} {H : Hp} {s : Shared} {a C dx : Addr} {fs : List (Str × V)} {f : Str} {v : V} {A : Around} {E : Value → Shared → Prop}

end

noncomputable def tFld (K : PySem.W.Frag) (ta : TE) (f : Str) : TE := fun σ H Q => ta σ H fun x H1 => ∃ a C dx fs v, x = .ref a ∧ H1 a = some (.ins C dx fs) ∧ Cls K C ∧ NoAttr K C f ∧ fs.lookup f = some v ∧ Q v H1
noncomputable def sFld (K : PySem.W.Frag) (ta tv : TE) (f : Str) : TS := fun D σ H => tv σ H fun y H1 => ta σ H1 fun x H2 => ∃ a C dx fs, x = .ref a ∧ H2 a = some (.ins C dx fs) ∧ Cls K C ∧ NoAttr K C f ∧ fs.length < 1000 ∧
  D.nx σ (upd H2 a (.ins C dx (putF f y fs)))
section
variable {X : Cx} {o e value : Expr} {f : Str} {pos pos' tpos : Pos} {ta tv : TE}
end

section
variable {X : Cx} {pins : List (Addr × Obj)} {σ : St} {H : Hp} {s : Shared} {A : Around} {E : Value → Shared → Prop} {Q : Value → Shared → Prop} {c : Value} {b : Bool}
inductive TyOf (K : PySem.W.Frag) (H : Hp) : V → Value → Prop where
  | non : TyOf K H .non (.type "NoneType")
  | bl (x : Bool) : TyOf K H (.bl x) (.type "bool")
  | int (i : Int) : TyOf K H (.int i) (.type "int")
  | str (x : Str) : TyOf K H (.str x) (.type "str")
  | flt (x : UInt64) : TyOf K H (.flt x) (.type "float")
  | lst {a : Addr} {xs : List V} (e : H a = some (.lst xs)) : TyOf K H (.ref a) (.type "list")
  | frz {a : Addr} {o : Obj} {xs : List V} (e : H a = some (.frz o (.lst xs))) : TyOf K H (.ref a) (.type "list")
  | tup {a : Addr} {xs : List V} (e : H a = some (.tup xs)) : TyOf K H (.ref a) (.type "tuple")
  | dK {a : Addr} {kvs : List (Key × V)} (e : H a = some (.dK kvs)) : TyOf K H (.ref a) (.type "dict")
  | dT {a : Addr} {kvs : List (List Key × V)} (e : H a = some (.dT kvs)) : TyOf K H (.ref a) (.type "dict")
  | ins {a C dx : Addr} {fs : List (Str × V)} (e : H a = some (.ins C dx fs)) (cl : Cls K C) (ha : PySem.W.findIn K (.ref C) "__class__" = some (some (.builtin "object.__class__")))
      (hn : PySem.W.specialIn K (.builtin "object.__class__") "__get__" = some (some (.builtin "getset_descriptor.__get__"))) (htk : PySem.W.takesIn K (.builtin "object.__class__") = some true)
      (hm : PySem.W.mroIn K C (.type "object") = some true) : TyOf K H (.ref a) (.ref C)
end

structure Room (k : Nat) (A : Around) : Prop where
  hd : A.handled = none
  dp : A.depth + 3 * k + 5 < recursionLimit
  un : A.units + 16 * k + 200 < cLine
  gd : A.guards = some []
theorem Room.mono {j k : Nat} {A : Around} (r : Room k A) (h : j ≤ k) : Room j A := ⟨r.hd, by have := r.dp; omega, by have := r.un; omega, r.gd⟩
theorem Room.deeper {k : Nat} {A : Around} (r : Room (k + 1) A) (env : Env) : Room k (A.deeper env) :=
  ⟨r.hd, by have := r.dp; show A.depth + 1 + 3 * k + 5 < _; omega, by have := r.un; show A.units + 3 + 16 * k + 200 < _; omega, r.gd⟩
theorem Room.in1 {k : Nat} {A : Around} (r : Room (k + 1) A) : Room k A.in1 :=
  ⟨r.hd, by have := r.dp; show A.depth + 3 * k + 5 < _; omega, by have := r.un; show A.units + 1 + 16 * k + 200 < _; omega, r.gd⟩
theorem Room.depth {k : Nat} {A : Around} (r : Room k A) : A.depth < recursionLimit := by have := r.dp; omega
theorem Room.units {k : Nat} {A : Around} (r : Room k A) : A.units + 64 < cLine := by have := r.un; omega
noncomputable def tNil : TA := fun _ H Q => Q [] H
noncomputable def tCons (ta : TE) (tr : TA) : TA := fun σ H Q => ta σ H fun x H1 => tr σ H1 fun xs H2 => Q (x :: xs) H2
section
variable {X : Cx} {e : Expr} {es : List Expr} {te : TE} {t : TA} {pos : Pos}
theorem pa_nil : PA X [] tNil := fun _ _ _ _ H Q I h => Calls.spliced_nil ⟨[], H, I, .nil, h⟩
theorem pa_cons (ha : PE X e te) (hr : PA X es t) (hs : starEach (e :: es) X.env = (false, eval e X.env) :: starEach es X.env := by rfl) : PA X (e :: es) (tCons te t) := by
  intro pos pins s σ H Q I h
  rw [hs]
  show wpAny _ _ (spliced ((false, eval e X.env) :: backTo pos (starEach es X.env))) _ _ s
  refine Calls.spliced_cons (thn (ha pins s σ H _ I h) fun u s1 ⟨x, H1, I1, r1, q1⟩ => ?_)
  exact thn (hr pos pins s1 σ H1 _ I1 q1) fun us s2 ⟨xs, H2, I2, r2, q2⟩ => ⟨x :: xs, H2, I2, .cons r1 r2, q2⟩

noncomputable def tTup (t : TA) : TE := fun σ H Q => t σ H fun xs H1 => xs.length ≤ sizeLine ∧ ∀ p, H1 p = none → Q (.ref p) (upd H1 p (.tup xs))
noncomputable def tLst (t : TA) : TE := fun σ H Q => t σ H fun xs H1 => xs.length ≤ sizeLine ∧ ∀ p, H1 p = none → Q (.ref p) (upd H1 p (.lst xs))
theorem pe_lst (h : PA X es t) : PE X (.List es pos) (tLst t) := by
  intro pins s σ H Q I hq
  refine wpAny_List_spliced (thn (h pos pins s σ H _ I hq) fun us s1 ⟨xs, H1, I1, r, z, q⟩ => ⟨by rw [← r.length]; exact z, ?_⟩)
  have hf : H1 s1.heap.objs.size = none := I1.hok.fresh (Nat.le_refl _)
  refine ⟨.ref s1.heap.objs.size, upd H1 s1.heap.objs.size (.lst xs), I1.laid (t' := s1.toks) (fun b u e => Heap.get?_push_of_some _ e) (Nat.le_refl _) ?_, rfl, q _ hf⟩
  exact ⟨z, us, 0, r, Heap.get?_push_size _ rfl⟩
end

noncomputable abbrev Sp := List V → Hp → VK → XK → Prop
noncomputable abbrev CXT := List Env → Hp → Shared → XK → Value → Shared → Prop

structure Env0 (P : Program) (w : World) (K : PySem.W.Frag) (mg : Str → Option Value) (base : Heap) (A : Around) (outer : List Env) (s : Shared) (H : Hp) : Prop where
  frames : A.frames = some outer
  mod : Mod K mg base
  bs : ∀ b o, base.get? b = some o → s.heap.get? b = some o ∧ H b = none
  bsz : base.objs.size ≤ s.heap.objs.size
  funs : s.heap.FunFrames base outer
  frf : ∀ b ∈ frs outer, H b = none
  hok : HOk P w H s.heap
  bare : AllBare s.gens
noncomputable def CE (outer : List Env) (P : Program) (w : World) (H : Hp) (s : Shared) (Q : VK) (u : Value) (s' : Shared) : Prop :=
  ∃ v H', s'.os = s.os ∧ AllBare s'.gens ∧ Un (frs outer) [] H H' s.heap s'.heap ∧ HOk P w H' s'.heap ∧ RelV v u ∧ Q v H'
noncomputable def CR (CX : CXT) (outer : List Env) (P : Program) (w : World) (H : Hp) (s : Shared) (Q : VK) (E : XK) (r : Result) (s' : Shared) : Prop :=
  match r with
  | .ok (.ret u) => CE outer P w H s Q u s'
  | .ok _ => False
  | .error e => CX outer H s E e s'
structure FnOk (P : Program) (w : World) (K : PySem.W.Frag) (mg : Str → Option Value) (base : Heap) (CX : CXT) (k : Nat) (f : Addr) (fd : FuncData) (ps : List Str) (sp : Sp) : Prop where
  len : ∀ vs H Q E, sp vs H Q E → vs.length = ps.length
  run : ∀ (A : Around) (outer : List Env) (s : Shared) (H : Hp) (args : Args) (us : List Value) (vs : List V) (Q : VK) (E : XK), Room k A → Env0 P w K mg base A outer s H → BindsTo s fd args (ps.zip us) → Vals vs us → sp vs H Q E →
    codeAny (model P w) A (.call (.ref f) args) (CR CX outer P w H s Q E) s
theorem FnOk.mono {P : Program} {w : World} {K : PySem.W.Frag} {mg : Str → Option Value} {base : Heap} {CX : CXT} {j k : Nat} {f : Addr} {fd : FuncData} {ps : List Str} {sp : Sp} (F : FnOk P w K mg base CX j f fd ps sp) (h : j ≤ k) :
    FnOk P w K mg base CX k f fd ps sp := ⟨F.len, fun A outer s H args us vs Q E hr => F.run A outer s H args us vs Q E (hr.mono h)⟩
theorem FnOk.imp {P : Program} {w : World} {K : PySem.W.Frag} {mg : Str → Option Value} {base : Heap} {CX : CXT} {k : Nat} {f : Addr} {fd : FuncData} {ps : List Str} {sp sp' : Sp} (F : FnOk P w K mg base CX k f fd ps sp)
    (h : ∀ vs H Q E, sp' vs H Q E → sp vs H Q E) : FnOk P w K mg base CX k f fd ps sp' :=
  ⟨fun vs H Q E q => F.len vs H Q E (h _ _ _ _ q), fun A outer s H args us vs Q E hr he hb hv hs => F.run A outer s H args us vs Q E hr he hb hv (h _ _ _ _ hs)⟩

theorem Env0.in1 {P : Program} {w : World} {K : PySem.W.Frag} {mg : Str → Option Value} {base : Heap} {A : Around} {outer : List Env} {s : Shared} {H : Hp} (e : Env0 P w K mg base A outer s H) :
    Env0 P w K mg base A.in1 outer s H := ⟨e.frames, e.mod, e.bs, e.bsz, e.funs, e.frf, e.hok, e.bare⟩

section
variable {X : Cx} {pins : List (Addr × Obj)} {σ : St} {H : Hp} {s s' : Shared}
theorem Inv.env0 (I : Inv X pins σ H s) : Env0 X.prog X.w X.K X.mg X.base X.A X.stack s H :=
  ⟨I.ok.frames, I.ok.mod, I.bs, Nat.le_trans I.ok.bsz I.sz, I.stack, I.stkFree, I.hok, I.bare⟩
theorem Inv.after {Q : VK} {u : Value} (I : Inv X pins σ H s) (h : CE X.stack X.prog X.w H s Q u s') : EP X pins σ Q u s' := by
  obtain ⟨v, H', os, bare, un, hok, r, q⟩ := h
  obtain ⟨hh, g, d, t, os'⟩ := s'
  obtain rfl : os' = s.os := os
  exact ⟨v, H', I.call (h' := hh) (g' := g) (d' := d) (t' := t) (ch := []) un hok bare (fun b z => absurd z (by simp)), r, q⟩
end

noncomputable def tCall (sp : Sp) (dvs : List V) (E : XK) (t : TA) : TE := fun σ H Q => t σ H fun vs H1 => sp (vs ++ dvs) H1 Q E
noncomputable def tMeth (C : Addr) (m : Str) (sp : Sp) (dvs : List V) (E : XK) (ta : TE) (t : TA) : TE := fun σ H Q => ta σ H fun x H1 => ∃ a dx fs, x = .ref a ∧ H1 a = some (.ins C dx fs) ∧ fs.lookup m = none ∧
  t σ H1 fun vs H2 => sp (x :: (vs ++ dvs)) H2 Q E
noncomputable def tMake (C : Addr) (sp : Sp) (dvs : List V) (E : XK) (t : TA) : TE := fun σ H Q => t σ H fun vs H1 => ∀ x dx, H1 x = none → H1 dx = none → dx ≠ x →
  sp (.ref x :: (vs ++ dvs)) (upd (upd H1 dx (.own x)) x (.ins C dx [])) (fun v H2 => v = .non ∧ Q (.ref x) H2) E

noncomputable def Binds (K : PySem.W.Frag) (fd : FuncData) (ps : List Str) (ds : List Value) : Prop :=
  ∀ (s : Shared) (us : List Value), K.In s.heap → (us ++ ds).length = ps.length → BindsTo s fd ⟨us, []⟩ (ps.zip (us ++ ds))
theorem Binds.all {K : PySem.W.Frag} {fd : FuncData} {ps : List Str} (h : ∀ us : List Value, us.length = ps.length → bindArgs fd ⟨us, []⟩ = pure (ps.zip us)) : Binds K fd ps [] := fun s us _ hl => by
  rw [List.append_nil] at hl ⊢
  exact .of_eq (h us hl)

noncomputable def Passes (CX : CXT) (X : Cx) (E : XK) : Prop := ∀ (pins : List (Addr × Obj)) (σ : St) (H : Hp) (s : Shared) (e : Value) (s' : Shared), Inv X pins σ H s → CX X.stack H s E e s' → X.xe e s'

section
variable {X : Cx} {CX : CXT} {k : Nat} {f C : Addr} {fd : FuncData} {ps : List Str} {sp : Sp} {dvs : List V} {ds : List Value} {E : XK} {x m : Str} {p pos apos : Pos} {e o : Expr} {es : List Expr} {ta : TE} {t : TA}

theorem run_fn {pins : List (Addr × Obj)} {σ : St} {H : Hp} {s : Shared} {Q : VK} {us : List Value} {vs : List V} (F : FnOk X.prog X.w X.K X.mg X.base CX k f fd ps sp) (hr : Room k X.A) (hb : Binds X.K fd ps ds) (hd : Vals dvs ds) (hx : Passes CX X E)
    (I : Inv X pins σ H s) (r : Vals vs us) (h : sp (vs ++ dvs) H Q E) : wpAny (model X.prog X.w) X.A (call (.ref f) us) (EP X pins σ Q) X.xe s := by
  have r2 : Vals (vs ++ dvs) (us ++ ds) := r.append hd
  have hl : (us ++ ds).length = ps.length := by rw [← r2.length]; exact F.len _ _ _ _ h
  refine wpAny_call (codeAny_mono (F.run X.A X.stack s H ⟨us, []⟩ (us ++ ds) (vs ++ dvs) Q E hr I.env0 (hb s us I.kIn hl) r2 h) fun r s' hq => ?_)
  cases r with
  | error e => exact hx pins σ H s e s' I hq
  | ok fl =>
    cases fl with
    | ret u => exact I.after hq
    | next => exact False.elim hq
    | brk => exact False.elim hq
    | cont => exact False.elim hq

theorem pe_call (F : FnOk X.prog X.w X.K X.mg X.base CX k f fd ps sp) (hr : Room k X.A) (hg : Gl X x) (hm : X.mg x = some (.ref f)) (hk : PySem.W.keepIn X.K (.ref f) = true) (hb : Binds X.K fd ps ds) (hd : Vals dvs ds) (hx : Passes CX X E)
    (ha : PA X (e :: es) t) (hdb : (x == ("__debug__" : Str)) = false := by decide) (he : starEach (e :: es) X.env = (false, eval e X.env) :: starEach es X.env := by rfl) (hpl : (backTo pos (starEach es X.env)).any (·.1) = false := by rfl) :
    PE X (.Call (.Name x p) (e :: es) [] pos) (tCall sp dvs E t) := by
  intro pins s σ H Q I h
  refine wpAny_Call_Name_kw (ld_glob I hg hm ?_ hdb)
  refine PySem.W.callWith_K (h₀ := X.base) I.ok.mod.kin hk (thn (ha pos pins s σ H _ I h) fun us s1 ⟨vs, H1, I1, r, q⟩ => ⟨I1.kIn, ?_⟩) he hpl
  exact run_fn F hr hb hd hx I1 r q
structure Mk (K : PySem.W.Frag) (C f : Addr) : Prop where
  makes : PySem.W.makesIn K C = true
  init : PySem.W.findIn K (.ref C) "__init__" = some (some (.ref f))
  fn : PySem.W.isFn K (.ref f) = true
  kp : PySem.W.keepIn K (.ref C) = true

end

noncomputable def PK (X : Cx) (kws : List Keyword) (t : TA) : Prop :=
  ∀ (pos : Pos) (pins : List (Addr × Obj)) (s : Shared) (σ : St) (H : Hp) (Q : List V → Hp → Prop), Inv X pins σ H s → t σ H Q → wpAny (model X.prog X.w) X.A (evalAll ((backToKw pos (keywordEach kws X.env)).map (·.2))) (AP X pins σ Q) X.xe s
section
variable {X : Cx} {CX : CXT} {k : Nat} {f C : Addr} {fd : FuncData} {ps ks : List Str} {sp : Sp} {E : XK} {x m : Str} {p pos apos kpos : Pos} {e o : Expr} {es : List Expr} {kws : List Keyword} {te ta : TE} {t tk : TA} {nm : Option Str}
structure KBinds (K : PySem.W.Frag) (fd : FuncData) (ps ks : List Str) (g : List Value → List Value → List Value) (gV : List V → List V → List V) : Prop where
  to : ∀ (s : Shared) (us ws : List Value), K.In s.heap → (g us ws).length = ps.length → BindsTo s fd ⟨us, ks.zip ws⟩ (ps.zip (g us ws))
  rel : ∀ {vs : List V} {us : List Value} {zs : List V} {ws : List Value}, Vals vs us → Vals zs ws → Vals (gV vs zs) (g us ws)
noncomputable def tCallK (sp : Sp) (gV : List V → List V → List V) (E : XK) (t tk : TA) : TE := fun σ H Q => t σ H fun vs H1 => tk σ H1 fun zs H2 => sp (gV vs zs) H2 Q E
variable {g : List Value → List Value → List Value} {gV : List V → List V → List V}
end

structure FnScope (N P : List Str) (sc : Scope) : Prop where
  kind : sc.kind = .function
  co : sc.isCoroutine = false
  gen : sc.isGenerator = false
  nd : N.Nodup
  pre : N.take P.length = P
  par : ∀ x ∈ P, sc.names.lookup x = some .local ∨ sc.names.lookup x = some .cell
  nofree : ∀ y ∈ sc.names, y.2 ≠ .free

theorem bindL_out {kindOf : Str → Option NameKind} {x : Str} : ∀ {binds : List (Str × Value)} {m : Str → Option Value}, (∀ v, (x, v) ∉ binds) → bindL kindOf binds m x = m x
  | [], _, _ => rfl
  | (n, v) :: r, m, h => by
    unfold bindL
    rw [bindL_out fun w hw => h w (List.mem_cons_of_mem _ hw)]
    split
    · have : x ≠ n := by rintro rfl; exact h v List.mem_cons_self
      simp [this]
    · rfl
theorem bindC_out {kindOf : Str → Option NameKind} {x : Str} : ∀ {binds : List (Str × Value)} {m : Str → Option Value}, (∀ v, (x, v) ∉ binds) → bindC kindOf binds m x = m x
  | [], _, _ => rfl
  | (n, v) :: r, m, h => by
    unfold bindC
    rw [bindC_out fun w hw => h w (List.mem_cons_of_mem _ hw)]
    split
    · rfl
    · have : x ≠ n := by rintro rfl; exact h v List.mem_cons_self
      simp [this]
theorem bindL_get {kindOf : Str → Option NameKind} {x : Str} {v : Value} : ∀ {P : List Str} {vs : List Value} {i : Nat} {m : Str → Option Value}, P.Nodup → P[i]? = some x → vs[i]? = some v → kindOf x = some .local →
    bindL kindOf (P.zip vs) m x = some v
  | [], _, _, _, _, h, _, _ => by simp at h
  | _ :: _, [], _, _, _, _, h, _ => by simp at h
  | p :: P, w :: vs, 0, m, nd, h1, h2, hk => by
    simp at h1 h2; subst h1; subst h2
    show bindL kindOf ((p, w) :: P.zip vs) m p = _
    unfold bindL
    rw [bindL_out fun v hv => (List.nodup_cons.mp nd).1 (List.of_mem_zip hv).1, if_pos hk]
    simp
  | p :: P, w :: vs, i + 1, m, nd, h1, h2, hk => by
    show bindL kindOf ((p, w) :: P.zip vs) m x = _
    unfold bindL
    exact bindL_get (i := i) (List.nodup_cons.mp nd).2 (by simpa using h1) (by simpa using h2) hk
theorem bindC_get {kindOf : Str → Option NameKind} {x : Str} {v : Value} : ∀ {P : List Str} {vs : List Value} {i : Nat} {m : Str → Option Value}, P.Nodup → P[i]? = some x → vs[i]? = some v → kindOf x ≠ some .local →
    bindC kindOf (P.zip vs) m x = some v
  | [], _, _, _, _, h, _, _ => by simp at h
  | _ :: _, [], _, _, _, _, h, _ => by simp at h
  | p :: P, w :: vs, 0, m, nd, h1, h2, hk => by
    simp at h1 h2; subst h1; subst h2
    show bindC kindOf ((p, w) :: P.zip vs) m p = _
    unfold bindC
    rw [bindC_out fun v hv => (List.nodup_cons.mp nd).1 (List.of_mem_zip hv).1, if_neg hk]
    simp
  | p :: P, w :: vs, i + 1, m, nd, h1, h2, hk => by
    show bindC kindOf ((p, w) :: P.zip vs) m x = _
    unfold bindC
    exact bindC_get (i := i) (List.nodup_cons.mp nd).2 (by simpa using h1) (by simpa using h2) hk

noncomputable def start (N : List Str) (vs : List V) : St := vs.map some ++ List.replicate (N.length - vs.length) none

noncomputable def cxOf (CX : CXT) (P : Program) (w : World) (K : PySem.W.Frag) (mg : Str → Option Value) (base : Heap) (N : List Str) (qual : Str) (scope : Scope) (f : Addr) (cd : Value) (A : Around) (outer : List Env) (s : Shared) (H : Hp) (E : XK) : Cx where
  prog := P
  w := w
  K := K
  mg := mg
  base := base
  A := A.deeper (envOfC qual scope s.heap.objs.size f cd)
  N := N
  s₀ := s
  H₀ := H
  env := envOfC qual scope s.heap.objs.size f cd
  outer := outer
  stack := envOfC qual scope s.heap.objs.size f cd :: outer
  ex := []
  calm := true
  fn := fun _ => true
  pn := []
  xe := fun e s' => wpAny (model P w) (A.deeper (envOfC qual scope s.heap.objs.size f cd)) (leaving (envOfC qual scope s.heap.objs.size f cd) e) (fun _ s'' => CX outer H s E e s'') (fun e' s'' => CX outer H s E e' s'') s'

theorem cell_has {sc : Scope} {n : Nat} {x : Str} (h : sc.names.lookup x = some .cell) : ∃ c, (cellsFrom n sc.names []).lookup x = some c := by
  have q := PySem.W.cellsFrom_some sc.names n [] (.inl h)
  exact Option.isSome_iff_exists.mp q

theorem inv_start {CX : CXT} {P : Program} {w : World} {K : PySem.W.Frag} {mg : Str → Option Value} {base : Heap} {N ps : List Str} {qual : Str} {scope : Scope} {f : Addr} {cd : Value} {A : Around} {outer : List Env} {s s1 : Shared} {H : Hp} {E : XK} {us : List Value} {vs : List V}
    (S : FnScope N ps scope) (hd : A.handled = none) (e0 : Env0 P w K mg base A outer s H) (hl : vs.length = ps.length) (r : Vals vs us)
    (x : InCallC s s.heap.objs.size (bindL (envOfC qual scope s.heap.objs.size f cd).kindOf (ps.zip us) fun _ => none) (cellsFrom (s.heap.objs.size + 1) scope.names []) (bindC (envOfC qual scope s.heap.objs.size f cd).kindOf (ps.zip us) fun _ => none) s1) :
    Inv (cxOf CX P w K mg base N qual scope f cd A outer s H E) [] (start N vs) H s1 := by
  have hpl : ps.length ≤ N.length := by have := congrArg List.length S.pre; rw [List.length_take] at this; omega
  obtain ⟨h1, tk, rfl, hk⟩ := x.done
  have noA : ∀ b : Addr, b ∉ (cxOf CX P w K mg base N qual scope f cd A outer s H E).ex := fun b z => absurd (show b ∈ ([] : List Addr) from z) (by simp)
  refine ⟨⟨e0.mod, S.kind, rfl, rfl, Nat.le_refl _, fun y z c h1 h2 => ?_, fun y hy => ?_, fun y c _ h => ?_, fun _ => hd, Around.frames_deeper e0.frames, .inr ⟨rfl, rfl⟩, fun b z => absurd z (noA b), e0.bs, e0.bsz, fun b _ _ => noA b, fun b z => absurd z (noA b), e0.funs, e0.frf⟩,
    rfl, e0.bare, Un.kept hk, ⟨_, x.toInCall.ns, fun i y v h1 h2 h3 => ?_⟩, fun y c h => ⟨_, x.cell y c h⟩, e0.hok.fresh (Nat.le_refl _), fun y c h => ?_, fun p hp => absurd (show p ∈ ([] : List (Addr × Obj)) from hp) (by simp), e0.hok.kept hk, ?_⟩
  · exact name_of_addr x.apart (PySem.mem_of_lookup h1) (PySem.mem_of_lookup h2)
  · have hy : scope.names.lookup y = some .cell ∨ scope.names.lookup y = some .free := hy
    rcases hy with hy | hy
    · exact cell_has hy
    · exact absurd rfl (S.nofree _ (PySem.mem_of_lookup hy))
  · exact Nat.le_of_lt (x.above y c (PySem.mem_of_lookup h))
  · have hi : i < vs.length := by
      unfold start at h2
      by_cases hi : i < vs.length
      · exact hi
      · rw [List.getElem?_append_right (by simpa using hi)] at h2
        rw [List.getElem?_replicate] at h2
        split at h2 <;> cases h2
    have ha : vs[i]? = some v := by
      unfold start at h2
      rw [List.getElem?_append_left (by simpa using hi), List.getElem?_map] at h2
      cases e : vs[i]? with
      | none => rw [e] at h2; cases h2
      | some a => rw [e] at h2; cases h2; rfl
    obtain ⟨u, hu, rv⟩ := r.get ha
    have hp : ps[i]? = some y := by
      rw [← S.pre, List.getElem?_take_of_lt (by omega)]; exact h1
    have ndP : ps.Nodup := by rw [← S.pre]; exact S.nd.sublist (List.take_sublist _ _)
    refine ⟨u, rv, ?_⟩
    rcases S.par y (List.mem_of_getElem? hp) with k | k
    · exact .inl ⟨k, bindL_get ndP hp hu k⟩
    · obtain ⟨c, e⟩ := cell_has (n := s.heap.objs.size + 1) k
      refine .inr ⟨.inl k, c, e, ?_⟩
      have q := x.cell y c e
      rw [bindC_get ndP hp hu (by show scope.names.lookup y ≠ _; rw [k]; decide)] at q
      exact q
  · exact e0.hok.fresh (Nat.le_of_lt (x.above y c (PySem.mem_of_lookup h)))
  · unfold start
    show _ = N.length
    rw [List.length_append, List.length_map, List.length_replicate]
    omega

theorem fn_of {CX : CXT} {P : Program} {w : World} {K : PySem.W.Frag} {mg : Str → Option Value} {base : Heap} {k : Nat} {f : Addr} {name qual : Str} {params : Arguments} {body : List Stmt} {scope : Scope} {dV kV doc pm cdv ct oc : Value} {an od : Option Addr}
    {osl : Array (Option Value)} {N ps : List Str} {sp : Sp} (lk : K.lookup f = some ⟨oc, od, .func (PySem.W.fnOf name qual params body scope dV kV doc pm an cdv ct), osl⟩) (hcd : PySem.W.codeIn K cdv qual = true) (S : FnScope N ps scope)
    (len : ∀ vs H Q E, sp vs H Q E → vs.length = ps.length)
    (hbody : ∀ (A : Around) (outer : List Env) (s : Shared) (H : Hp) (vs : List V) (Q : VK) (E : XK), Room k (A.deeper (envOfC qual scope s.heap.objs.size f cdv)) → sp vs H Q E →
      ∃ t, PSs (cxOf CX P w K mg base N qual scope f cdv A outer s H E) body t ∧ t { nx := fun _ H' => Q .non H', rt := Q } (start N vs) H) :
    FnOk P w K mg base CX (k + 1) f (PySem.W.fnOf name qual params body scope dV kV doc pm an cdv ct) ps sp := by
  refine ⟨len, fun A outer s H args us vs Q E hr e0 hb r hsp => ?_⟩
  have hl := len _ _ _ _ hsp
  have KX : K.In s.heap := e0.mod.kin.keeps fun b o e => (e0.bs b o e).1
  have lim : s.heap.NoLimit := e0.mod.nolimit.keeps fun b o e => (e0.bs b o e).1
  have hkind : ∀ y ∈ ps.zip us, scope.names.lookup y.1 = some .local ∨ (scope.names.lookup y.1 = some .cell ∧ ((cellsFrom (s.heap.objs.size + 1) scope.names []).lookup y.1).isSome = true) := fun ⟨n, v⟩ hy => by
    rcases S.par n (List.of_mem_zip hy).1 with q | q
    · exact .inl q
    · exact .inr ⟨q, PySem.W.cellsFrom_some _ _ _ (.inl q)⟩
  refine codeAny_call_function hr.depth (KX _ _ lk) rfl S.co S.gen rfl (PySem.W.codeRec_of KX hcd) (hb _ _ _ _ ?_)
  refine wpAny_newFunctionEnv_cells S.kind hkind fun env he s1 x => ?_
  subst he
  refine ⟨lim.keeps x.toInCall.keep, codeAny_func ?_⟩
  obtain ⟨t, ht, hq⟩ := hbody A outer s H vs Q E (hr.deeper _) hsp
  have I : Inv (cxOf CX P w K mg base N qual scope f cdv A outer s H E) [] (start N vs) H s1 := inv_start S hr.hd e0 hl r x
  refine wpAny_mono (ht [] s1 (start N vs) H _ I hq) (fun fl s' hs => ?_) fun e s' hs => hs
  have fin : ∀ {σ' : St} {H' : Hp} {v : V} {u : Value}, Inv (cxOf CX P w K mg base N qual scope f cdv A outer s H E) [] σ' H' s' → RelV v u → Q v H' → CE outer P w H s Q u s' :=
    fun {σ' H' v u} J rv q => ⟨v, H', J.os, J.bare, J.base, J.hok, rv, q⟩
  cases fl with
  | ret u =>
    obtain ⟨v, σ', H', J, rv, q⟩ := hs
    exact fin J rv q
  | next =>
    obtain ⟨σ', H', J, q⟩ := hs
    exact fin (v := V.non) (u := Value.none) J rfl q
  | brk =>
    obtain ⟨_, _, _, q⟩ := hs
    exact False.elim q
  | cont =>
    obtain ⟨_, _, _, q⟩ := hs
    exact False.elim q
section
variable {X : Cx} {x : Str} {p pos : Pos} {e : Expr} {es : List Expr} {t : TA} {id T : String} {r : List V → Hp → VK → Prop}

noncomputable def tCB (r : List V → Hp → VK → Prop) (t : TA) : TE := fun σ H Q => t σ H fun vs H1 => r vs H1 Q
theorem pe_callB (hc : CallR X (.builtin id) r) (hg : Gl X x) (hm : X.mg x = none) (hv : bootBuiltins x = some (.builtin id)) (ha : PA X (e :: es) t) (hn : x ≠ "__name__" := by decide) (hdb : (x == ("__debug__" : Str)) = false := by decide)
    (he : starEach (e :: es) X.env = (false, eval e X.env) :: starEach es X.env := by rfl) (hpl : (backTo pos (starEach es X.env)).any (·.1) = false := by rfl) : PE X (.Call (.Name x p) (e :: es) [] pos) (tCB r t) := by
  intro pins s σ H Q I h
  refine wpAny_Call_Name_kw (ld_blt I hg hm hv ?_ hn hdb)
  exact PyProof.Rows.callWith_builtin1 (thn (ha pos pins s σ H _ I h) fun us s1 ⟨vs, H1, I1, r1, q1⟩ => hc pins s1 σ H1 vs us Q I1 r1 q1) he hpl
theorem pe_callTy (hc : CallR X (.type T) r) (hg : Gl X x) (hm : X.mg x = none) (hv : bootBuiltins x = some (.type T)) (ha : PA X (e :: es) t) (hn : x ≠ "__name__" := by decide) (hdb : (x == ("__debug__" : Str)) = false := by decide)
    (he : starEach (e :: es) X.env = (false, eval e X.env) :: starEach es X.env := by rfl) (hpl : (backTo pos (starEach es X.env)).any (·.1) = false := by rfl) : PE X (.Call (.Name x p) (e :: es) [] pos) (tCB r t) := by
  intro pins s σ H Q I h
  refine wpAny_Call_Name_kw (ld_blt I hg hm hv ?_ hn hdb)
  exact PyProof.Rows.callWith_type1 (thn (ha pos pins s σ H _ I h) fun us s1 ⟨vs, H1, I1, r1, q1⟩ => hc pins s1 σ H1 vs us Q I1 r1 q1) he hpl
end
end L2

namespace HT
open PySem PyProof.Rows

section
open PySem.SeqAt
open PySem.AutoSeq1 (wpAny_loadPart')
open PySem.MeetsSeq PySem.MeetsSeq2 PySem.MeetsSeq3

end

section
variable {prog : Program} {w : World} {A : Around} {E : Value → Shared → Prop} {s : Shared}

theorem cat_tup {t b : Addr} {vs ws : List Value} {Q : Value → Shared → Prop} (ht : IsTup s.heap t vs.toArray) (hb : IsTup s.heap b ws.toArray) (hv : vs ≠ [])
    (h1 : ws = [] → Q (.ref t) s) (h2 : ws ≠ [] → Q (.ref s.heap.objs.size) { s with heap := s.heap.push { cls := .type "tuple", data := .seq (vs ++ ws).toArray } })
    (hsz : vs.length + ws.length ≤ sizeLine) : wpAny (model prog w) A (binaryOp .Add (.ref t) (.ref b)) Q E s := by
  obtain ⟨⟨cls, dd, data, sl⟩, ho, hc, n, hd⟩ := id ht
  obtain ⟨⟨cls2, dd2, data2, sl2⟩, ho2, hc2, n2, hd2⟩ := id hb
  simp only at hc hd hc2 hd2
  subst hc hd hc2 hd2
  have e : vs.toArray ++ ws.toArray = (vs ++ ws).toArray := by simp
  by_cases hw : ws = []
  · exact concat_meets ⟨_, ho, rfl⟩ ⟨_, ho2, rfl⟩ noFill_tuple_add seq_tuple_add PySem.F.slot_tuple_add PySem.F.entry_tuple_add (PySem.F.args_tuple_add_2 _ _)
      (tuple_addW1 t b vs.toArray ws.toArray n n2 dd dd2 sl sl2 (by simpa using hv) (by simp [hw])) ⟨ho, ho2, h1 hw⟩
  · refine concat_meets ⟨_, ho, rfl⟩ ⟨_, ho2, rfl⟩ noFill_tuple_add seq_tuple_add PySem.F.slot_tuple_add PySem.F.entry_tuple_add (PySem.F.args_tuple_add_2 _ _)
      (tuple_addW2 t b vs.toArray ws.toArray n n2 dd dd2 sl sl2 (by simpa using hv) (by simpa using hw) (by rw [List.size_toArray, List.size_toArray]; exact hsz)) ⟨ho, ho2, ?_⟩
    rw [e]
    exact h2 hw

noncomputable def sIx (n d : Nat) : Option Int → Nat
  | none => d
  | some v => if v < 0 then (v + (n : Int)).toNat else min v.toNat n
theorem sIx_none (n d : Nat) : sIx n d none = d := rfl
theorem sIx_nat (n d k : Nat) : sIx n d (some (k : Int)) = min k n := by
  show (if (k : Int) < 0 then ((k : Int) + (n : Int)).toNat else min (k : Int).toNat n) = min k n
  rw [if_neg (by omega), Int.toNat_natCast]
theorem sIx_le (n d : Nat) (hd : d ≤ n) (o : Option Int) : sIx n d o ≤ n := by
  cases o with
  | none => exact hd
  | some v =>
    show (if v < 0 then (v + (n : Int)).toNat else min v.toNat n) ≤ n
    by_cases hv : v < 0
    · rw [if_pos hv]; omega
    · rw [if_neg hv]; exact Nat.min_le_right _ _
theorem clip_eq (v : Int) (n d : Nat) : (if v < 0 then max (v + (n : Int)) 0 else min v (n : Int)) = ((sIx n d (some v) : Nat) : Int) := by
  show (if v < 0 then max (v + (n : Int)) 0 else min v (n : Int)) = (((if v < 0 then (v + (n : Int)).toNat else min v.toNat n) : Nat) : Int)
  by_cases hv : v < 0
  · simp only [if_pos hv]; omega
  · simp only [if_neg hv]; omega
theorem adjust_gen (lo hi : Option Int) (n : Nat) : Builtin.Slice.sliceAdjust lo hi 1 (n : Int) = (((sIx n 0 lo : Nat) : Int), ((sIx n n hi : Nat) : Int)) := by
  have h1 : ¬ ((1 : Int) < 0) := by omega
  unfold Builtin.Slice.sliceAdjust
  simp only [h1, if_false]
  refine Prod.ext ?_ ?_
  · cases lo with
    | none => rfl
    | some v => exact clip_eq v n 0
  · cases hi with
    | none => rfl
    | some v => exact clip_eq v n n
theorem places_gen (i j : Nat) : Builtin.Slice.slicePlaces (i : Int) (j : Int) 1 = j - i := by
  unfold Builtin.Slice.slicePlaces
  have h1 : (1 : Int) > 0 := by omega
  simp only [h1, if_true, Int.ediv_one]
  split <;> omega
theorem slicePart_ {v : Value} {o : Option Int} {Q : Option Int → Shared → Prop} (p : IsPart v o) (h : Q o s) : wpAny (model prog w) A (Builtin.Slice.slicePartIndex v) Q E s := by
  cases p with
  | none => exact slicePart_none h
  | int i t => exact slicePart_int h
theorem sliceApplied_gen {sl : Addr} {vl vu : Value} {lo hi : Option Int} {n : Nat} {Q : Int × Int × Nat → Shared → Prop} (hs : s.heap.IsSliceOf sl vl vu .none) (pl : IsPart vl lo) (pu : IsPart vu hi)
    (h : Q (((sIx n 0 lo : Nat) : Int), 1, sIx n n hi - sIx n 0 lo) s) : wpAny (model prog w) A (Builtin.Slice.sliceApplied (.ref sl) (pure (n : Int))) Q E s := by
  obtain ⟨os, hos, hcs, hds⟩ := id hs
  unfold Builtin.Slice.sliceApplied Builtin.Slice.sliceFields
  refine wpAny_bind (wpAny_bind (wpAny_field hos hds (x := vl) rfl (wpAny_bind (wpAny_field hos hds (x := vu) rfl (wpAny_bind (wpAny_field hos hds (x := .none) rfl (wpAny_pure ?_)))))))
  refine wpAny_bind (slicePart_none ?_)
  show wpAny _ _ (if ((1 : Int) == 0) = true then _ else _) _ _ s
  rw [if_neg (by decide)]
  refine wpAny_bind (slicePart_ pl (wpAny_bind (slicePart_ pu (wpAny_bind (wpAny_pure ?_)))))
  show wpAny _ _ (match Builtin.Slice.sliceAdjust lo hi 1 (n : Int) with | (lo, hi) => pure (lo, (1 : Int), Builtin.Slice.slicePlaces lo hi 1)) _ _ s
  rw [adjust_gen lo hi n]
  show wpAny _ _ (pure (((sIx n 0 lo : Nat) : Int), (1 : Int), Builtin.Slice.slicePlaces ((sIx n 0 lo : Nat) : Int) ((sIx n n hi : Nat) : Int) 1)) _ _ s
  rw [places_gen]
  exact wpAny_pure h
theorem pick_gen (xs : Array Value) (i k : Nat) : ((List.range k).filterMap fun (m : Nat) => xs[((i : Int) + (m : Int) * 1).toNat]?).toArray = ((xs.toList.drop i).take k).toArray := by
  have e : (fun (m : Nat) => xs[((i : Int) + (m : Int) * 1).toNat]?) = fun m => xs[i + m]? := by
    funext m
    have : ((i : Int) + (m : Int) * 1).toNat = i + m := by omega
    rw [this]
  rw [e]
  have := pick_run xs i k
  rw [List.filterMap_map] at this
  have e2 : ((fun x => xs[x]?) ∘ fun x => i + x) = fun m => xs[i + m]? := rfl
  rw [e2] at this
  rw [this]

theorem getItem_tuple_cut {t sl : Addr} {items : Array Value} {vl vu : Value} {lo hi : Option Int} {Q : Value → Shared → Prop} (ht : IsTup s.heap t items) (hs : s.heap.IsSliceOf sl vl vu .none) (pl : IsPart vl lo) (pu : IsPart vu hi)
    (hw : ¬ (sIx items.size 0 lo = 0 ∧ sIx items.size items.size hi = items.size))
    (h : Q (.ref s.heap.objs.size) { s with heap := s.heap.push { cls := .type "tuple", data := .seq ((items.toList.drop (sIx items.size 0 lo)).take (sIx items.size items.size hi - sIx items.size 0 lo)).toArray } })
    (hsz : items.size ≤ sizeLine) : wpAny (model prog w) A (getItem (.ref t) (.ref sl)) Q E s := by
  have htake : sizeOk (.seq ((items.toList.drop (sIx items.size 0 lo)).take (sIx items.size items.size hi - sIx items.size 0 lo)).toArray) := by
    show ((items.toList.drop (sIx items.size 0 lo)).take (sIx items.size items.size hi - sIx items.size 0 lo)).toArray.size ≤ sizeLine
    rw [List.size_toArray, List.length_take, List.length_drop, Array.length_toList]
    omega
  have hj : sIx items.size items.size hi ≤ items.size := sIx_le _ _ (Nat.le_refl _) hi
  obtain ⟨os, hos, hcs, hds⟩ := id hs
  have hTs : s.TypeIs (.ref sl) "slice" := ⟨os, hos, hcs⟩
  unfold getItem
  try with_reducible refine wpAny_holding ?_
  first | refine wpAny_bind (wpAny_pure ?_) | skip
  refine wpAny_bind (wpAny_sequenceKey ht.typeIs (by decide) ?_)
  refine wpAny_bind (wpAny_callSpecial?_slot (name := Str.ofString "__getitem__") ht.typeIs PyProof.Rows.slot_tuple_getitem
    (wpAny_call_entry PyProof.Rows.slot_tuple_getitem ht.typeIs entry_tuple_getitem ?_ (args_tuple_getitem _ _)))
  show wpAny _ _ (Builtin.Tuple.tupleItemsOf (.ref t) >>= _) _ _ s
  refine wpAny_bind (tupleItemsOf_ ht ?_)
  refine wpAny_bind (wpAny_typeOf hTs ?_)
  rw [if_pos (by decide)]
  refine wpAny_bind (sliceApplied_gen hs pl pu ?_)
  have hno : ¬ ((((sIx items.size 0 lo : Nat) : Int) == 0 && (1 : Int) == 1 && (sIx items.size items.size hi - sIx items.size 0 lo) == items.size) = true) := by
    intro q
    rw [Bool.and_eq_true, Bool.and_eq_true] at q
    have q1 : ((sIx items.size 0 lo : Nat) : Int) = 0 := eq_of_beq q.1.1
    have q2 : sIx items.size items.size hi - sIx items.size 0 lo = items.size := eq_of_beq q.2
    exact hw ⟨by omega, by omega⟩
  show wpAny _ _ (if (((sIx items.size 0 lo : Nat) : Int) == 0 && (1 : Int) == 1 && (sIx items.size items.size hi - sIx items.size 0 lo) == items.size) = true then _ else _) _ _ s
  rw [if_neg hno, pick_gen]
  first
    | exact wpAny_bind (m := Builtin.Tuple.tupleExact _) (wpAny_newObj_type (wpAny_pure ⟨_, rfl, wpAny_pure h⟩) htake)
    | exact wpAny_bind (m := Builtin.Tuple.tupleExact _) (wpAny_newObj_type (wpAny_bind (wpAny_pure (wpAny_pure ⟨_, rfl, wpAny_pure h⟩))) htake)
    | exact wpAny_bind (wpAny_bind (m := Builtin.Tuple.tupleExact _) (wpAny_newObj_type (wpAny_pure (wpAny_pure ⟨_, rfl, wpAny_pure h⟩)) htake))
    | exact wpAny_bind (wpAny_bind (m := Builtin.Tuple.tupleExact _) (wpAny_newObj_type (wpAny_pure ⟨_, rfl, wpAny_pure h⟩) htake))
end
end HT

namespace L2
open PySem PySem.Spec PyProof.Rows

noncomputable abbrev TO := St → Hp → (Option Int → Hp → Prop) → Prop
noncomputable def PO (X : Cx) (e : Option Expr) (t : TO) : Prop :=
  ∀ (pins : List (Addr × Obj)) (s : Shared) (σ : St) (H : Hp) (Q : Option Int → Hp → Prop), Inv X pins σ H s → t σ H Q →
    wpAny (model X.prog X.w) X.A (evalPart e X.env) (fun u s' => ∃ o H', Inv X pins σ H' s' ∧ IsPart u o ∧ Q o H') X.xe s
noncomputable def tNoPart : TO := fun _ H Q => Q none H
noncomputable def tPart (t : TE) : TO := fun σ H Q => t σ H fun x H1 => ∃ i, x = .int i ∧ Q (some i) H1

section
variable {X : Cx} {e : Expr} {te : TE} {lo hi : Option Expr} {tl th : TO} {pos p2 : Pos}

theorem po_none : PO X none tNoPart := by
  intro pins s σ H Q I h
  rw [evalPart_none]
  exact wpAny_pure ⟨none, H, I, .none, h⟩
theorem po_some (h : PE X e te) : PO X (some e) (tPart te) := by
  intro pins s σ H Q I hw
  rw [evalPart_some]
  refine thn (h pins s σ H _ I hw) fun u s1 ⟨x, H1, I1, r1, q1⟩ => ?_
  obtain ⟨i, rfl, q⟩ := q1
  obtain ⟨t, rfl⟩ := r1
  exact ⟨some i, H1, I1, .int i t, q⟩

noncomputable def SlR (X : Cx) (r : V → Option Int → Option Int → Hp → VK → Prop) : Prop :=
  ∀ (pins : List (Addr × Obj)) (s : Shared) (σ : St) (H : Hp) (x : V) (v vl vu : Value) (lo hi : Option Int) (sl : Addr) (Q : VK), Inv X pins σ H s → RelV x v → s.heap.IsSliceOf sl vl vu .none → IsPart vl lo → IsPart vu hi → r x lo hi H Q →
    ∃ T id, typeLookup (.type T) "__getitem__" = pure (some (.builtin id)) ∧ s.TypeIs v T ∧ wpAny (model X.prog X.w) X.A (getItem v (.ref sl)) (EP X pins σ Q) X.xe s
noncomputable def tSl (r : V → Option Int → Option Int → Hp → VK → Prop) (te : TE) (tl th : TO) : TE := fun σ H Q => te σ H fun x H1 => tl σ H1 fun l H2 => th σ H2 fun u H3 => r x l u H3 Q
theorem pe_slice {r : V → Option Int → Option Int → Hp → VK → Prop} (hr : SlR X r) (he : PE X e te) (hl : PO X lo tl) (hu : PO X hi th) : PE X (.Subscript e (.Slice lo hi none p2) pos) (tSl r te tl th) := by
  intro pins s σ H Q I h
  refine Subscript_ (thn (he pins s σ H _ I h) fun v s1 ⟨x, H1, I1, r1, q1⟩ => ?_)
  refine wpAny_Slice (thn (hl pins s1 σ H1 _ I1 q1) fun vl s2 ⟨l, H2, I2, pl, q2⟩ => thn (hu pins s2 σ H2 _ I2 q2) fun vu s3 ⟨u, H3, I3, pu, q3⟩ => ?_)
  rw [evalPart_none]
  refine wpAny_pure ?_
  have I4 : Inv X pins σ H3 { s3 with heap := s3.heap.push { cls := .type "slice", data := .fields #[vl, vu, .none] } } := I3.kept (t' := s3.toks) fun b ob q => Heap.get?_push_of_some _ q
  obtain ⟨T, id, hT, ht, hg⟩ := hr pins { s3 with heap := s3.heap.push { cls := .type "slice", data := .fields #[vl, vu, .none] } } σ H3 x v vl vu l u s3.heap.objs.size Q I4 r1 (Heap.IsSliceOf.new ..) pl pu q3
  show wpAny (model X.prog X.w) X.A (subscriptTail e (.Slice lo hi none p2) v (.ref s3.heap.objs.size)) (EP X pins σ Q) X.xe { s3 with heap := s3.heap.push { cls := .type "slice", data := .fields #[vl, vu, .none] } }
  exact tail_any (ops := [.ref s3.heap.objs.size, v]) ht hT hg (by with_unfolding_all rfl)

noncomputable def cutV (xs : List V) (lo hi : Option Int) : List V := (xs.drop (HT.sIx xs.length 0 lo)).take (HT.sIx xs.length xs.length hi - HT.sIx xs.length 0 lo)
theorem cutV_length (xs : List V) (lo hi : Option Int) : (cutV xs lo hi).length ≤ xs.length := by
  unfold cutV
  rw [List.length_take, List.length_drop]
  omega
noncomputable def rSlT (K : PySem.W.Frag) : V → Option Int → Option Int → Hp → VK → Prop := fun x lo hi H Q => ∃ a xs, x = .ref a ∧ SqT K H a xs ∧
  ¬ (HT.sIx xs.length 0 lo = 0 ∧ HT.sIx xs.length xs.length hi = xs.length) ∧ ∀ p, H p = none → Q (.ref p) (upd H p (.tup (cutV xs lo hi)))
theorem sl_tup : SlR X (rSlT X.K) := by
  intro pins s σ H x v vl vu lo hi sl Q I rx hs pl pu h
  obtain ⟨a, xs, rfl, hx, hw, q⟩ := h
  cases rx
  obtain ⟨its, r, ht, hz⟩ := I.tuple hx
  have hlen : its.toArray.size = xs.length := by rw [List.size_toArray]; exact r.length.symm
  refine ⟨"tuple", _, PyProof.Rows.slot_tuple_getitem.lookup, ht.typeIs, ?_⟩
  refine HT.getItem_tuple_cut ht hs pl pu (by rw [hlen]; exact hw) ?_ (by rw [hlen]; exact hz)
  rw [hlen]
  refine ⟨.ref s.heap.objs.size, _, I.laid (t' := s.toks) (o := .tup (cutV xs lo hi)) (fun b ob q => Heap.get?_push_of_some _ q) (Nat.le_refl _) ?_, rfl, q _ (I.hok.fresh (Nat.le_refl _))⟩
  exact ⟨Nat.le_trans (cutV_length xs lo hi) hz, _, (r.drop (HT.sIx xs.length 0 lo)).take (HT.sIx xs.length xs.length hi - HT.sIx xs.length 0 lo), IsTup.new _ _⟩

noncomputable def rCatT (K : PySem.W.Frag) : R2 := fun x y H Q => ∃ a b xs ys, x = .ref a ∧ y = .ref b ∧ SqT K H a xs ∧ SqT K H b ys ∧ xs ≠ [] ∧ xs.length + ys.length ≤ sizeLine ∧
  (ys = [] → Q (.ref a) H) ∧ (ys ≠ [] → ∀ p, H p = none → Q (.ref p) (upd H p (.tup (xs ++ ys))))
theorem Vals.nil_iff {xs : List V} {us : List Value} (r : Vals xs us) : us = [] ↔ xs = [] := by
  cases r with
  | nil => simp
  | cons _ _ => simp
theorem op_catT : OpR X (binaryOp .Add) (rCatT X.K) := by
  intro pins s σ H x y v u Q I rx ry h
  obtain ⟨a, b, xs, ys, rfl, rfl, ha, hb, hx, hz, q1, q2⟩ := h
  cases rx
  cases ry
  obtain ⟨its, r1, p1, _⟩ := I.tuple ha
  obtain ⟨its2, r2, p2, _⟩ := I.tuple hb
  refine HT.cat_tup p1 p2 (fun z => hx (r1.nil_iff.mp z)) (fun z => ⟨.ref a, H, I, rfl, q1 (r2.nil_iff.mp z)⟩) (fun z => ?_) (by rw [← r1.length, ← r2.length]; exact hz)
  refine ⟨.ref s.heap.objs.size, _, I.laid (t' := s.toks) (o := .tup (xs ++ ys)) (fun b ob q => Heap.get?_push_of_some _ q) (Nat.le_refl _) ?_, rfl, q2 (fun w => z (r2.nil_iff.mpr w)) _ (I.hok.fresh (Nat.le_refl _))⟩
  exact ⟨by rw [List.length_append]; exact hz, _, r1.append r2, IsTup.new _ _⟩
end

noncomputable def ixN (n : Nat) (i : Int) : Option Nat := if 0 ≤ i then (if i < n then some i.toNat else none) else if -(n : Int) ≤ i then some (i + n).toNat else none
noncomputable def atI {α : Type} (xs : List α) (i : Int) : Option α := (ixN xs.length i).bind fun j => xs[j]?
theorem ixN_seq {n : Nat} {i : Int} {j : Nat} (h : ixN n i = some j) : seqIndex? i n = some j ∧ j < n ∧ -(n : Int) ≤ i ∧ i < n := by
  unfold ixN at h
  by_cases h0 : 0 ≤ i
  · rw [if_pos h0] at h
    by_cases h1 : i < n
    · rw [if_pos h1] at h
      have e : i.toNat = j := Option.some.inj h
      exact ⟨by rw [seqIndex_of h0 h1, e], by omega, by omega, h1⟩
    · rw [if_neg h1] at h; cases h
  · rw [if_neg h0] at h
    by_cases h1 : -(n : Int) ≤ i
    · rw [if_pos h1] at h
      have e : (i + n).toNat = j := Option.some.inj h
      exact ⟨by rw [seqIndex_neg (by omega) h1, e], by omega, h1, by omega⟩
    · rw [if_neg h1] at h; cases h
theorem atI_get {α : Type} {xs : List α} {i : Int} {v : α} (h : atI xs i = some v) : ∃ j, seqIndex? i xs.length = some j ∧ xs[j]? = some v ∧ j < xs.length ∧ -(xs.length : Int) ≤ i ∧ i < xs.length := by
  unfold atI at h
  cases e : ixN xs.length i with
  | none => rw [e] at h; cases h
  | some j =>
    rw [e] at h
    obtain ⟨h1, h2, h3, h4⟩ := ixN_seq e
    exact ⟨j, h1, h, h2, h3, h4⟩
theorem atI_nat {α : Type} {xs : List α} {j : Nat} {v : α} (h : xs[j]? = some v) : atI xs (j : Int) = some v := by
  have hj : j < xs.length := (List.getElem?_eq_some_iff.mp h).1
  have e : ixN xs.length (j : Int) = some j := by
    unfold ixN
    rw [if_pos (by omega), if_pos (by omega)]; simp
  unfold atI; rw [e]; exact h
theorem atI_last {α : Type} (xs : List α) (v : α) : atI (xs ++ [v]) (-1) = some v := by
  have hl : (xs ++ [v]).length = xs.length + 1 := by simp
  have e : ixN (xs ++ [v]).length (-1) = some xs.length := by
    unfold ixN
    rw [hl, if_neg (by decide), if_pos (by omega)]
    congr 1
    omega
  unfold atI
  rw [e]
  show (xs ++ [v])[xs.length]? = some v
  simp

noncomputable def PlainIx (b : Expr) : Prop := ∀ o i, subscripted b false o i = operate [o, i] (getItem o i)
noncomputable def IxR (X : Cx) (r : R2) : Prop :=
  ∀ (value slice : Expr) (pins : List (Addr × Obj)) (s : Shared) (σ : St) (H : Hp) (x y : V) (v u : Value) (Q : VK), Inv X pins σ H s → RelV x v → RelV y u → r x y H Q →
    subscripted slice false v u = operate [v, u] (getItem v u) → wpAny (model X.prog X.w) X.A (subscriptTail value slice v u) (EP X pins σ Q) X.xe s
noncomputable def MtR (X : Cx) (id : String) (r : V → List V → Hp → VK → Prop) : Prop :=
  ∀ (pins : List (Addr × Obj)) (s : Shared) (σ : St) (H : Hp) (x : V) (xs : List V) (v : Value) (us : List Value) (Q : VK), Inv X pins σ H s → RelV x v → Vals xs us → r x xs H Q →
    wpAny (model X.prog X.w) X.A (call (.builtin id) (v :: us)) (EP X pins σ Q) X.xe s
section
variable {X : Cx} {a b : Expr} {ta tb : TE} {pos : Pos}
theorem pe_ix {r : R2} (hr : IxR X r) (ha : PE X a ta) (hb : PE X b tb) (hs : PlainIx b) : PE X (.Subscript a b pos) (tOp r ta tb) := by
  intro pins s σ H Q I h
  exact Subscript_ (binT ha hb I h fun v u s2 x y H2 I2 rx ry q => hr a b pins s2 σ H2 x y v u Q I2 rx ry q (hs _ _))

noncomputable def rIxL (K : PySem.W.Frag) : R2 := fun x y H Q => ∃ p xs i v, x = .ref p ∧ y = .int i ∧ SqL K H p xs ∧ atI xs i = some v ∧ Q v H
noncomputable def rIxT (K : PySem.W.Frag) : R2 := fun x y H Q => ∃ p xs i v, x = .ref p ∧ y = .int i ∧ SqT K H p xs ∧ atI xs i = some v ∧ Q v H
noncomputable def rIxS : R2 := fun x y H Q => ∃ z i c, x = .str z ∧ y = .int i ∧ z.length ≤ sizeLine ∧ atI z.cps.toList i = some c ∧ Q (.str ⟨#[c]⟩) H
theorem ix_list : IxR X (rIxL X.K) := by
  intro value slice pins s σ H x y v u Q I rx ry h hs
  obtain ⟨p, xs, i, z, rfl, rfl, hq, he, q⟩ := h
  cases rx
  obtain ⟨t, rfl⟩ := ry
  obtain ⟨its, r, pl, hz⟩ := I.list hq
  obtain ⟨j, h1, h2, h3, h4, h5⟩ := atI_get he
  obtain ⟨w, ew, rw'⟩ := r.get h2
  have hl := r.length
  have hn := line63
  have fin : EP X pins σ Q w s := ⟨z, H, I, rw', q⟩
  by_cases h0 : 0 ≤ i
  · have hj : i.toNat = j := by
      rw [seqIndex_of h0 h5] at h1
      exact Option.some.inj h1
    exact item_listR pl.isList h0 (by omega) (by rw [hj]; simpa using ew) fin hs
  · have hj : (i + (its.toArray.size : Int)).toNat = j := by
      rw [seqIndex_neg (by omega) h4] at h1
      rw [List.size_toArray, ← hl]
      exact Option.some.inj h1
    exact subscriptTail_builtinR (x := w) pl.isList.typeIs slot_list_getitem.lookup
      (wpAny_getItem_list_neg (Q := fun r s' => r = w ∧ EP X pins σ Q r s') pl.isList (by omega) (by rw [List.size_toArray] <;> omega) (by omega) (by rw [hj]; simpa using ew) ⟨rfl, fin⟩) hs
theorem ix_tup : IxR X (rIxT X.K) := by
  intro value slice pins s σ H x y v u Q I rx ry h hs
  obtain ⟨p, xs, i, z, rfl, rfl, hq, he, q⟩ := h
  cases rx
  obtain ⟨t, rfl⟩ := ry
  obtain ⟨its, r, pl, hz⟩ := I.tuple hq
  obtain ⟨j, h1, h2, h3, h4, h5⟩ := atI_get he
  obtain ⟨w, ew, rw'⟩ := r.get h2
  have hl := r.length
  have hn := line63
  have fin : EP X pins σ Q w s := ⟨z, H, I, rw', q⟩
  exact subscriptTail_builtinR (x := w) pl.typeIs slot_tuple_getitem.lookup
    (getItem_tuple (j := j) (Q := fun r s' => r = w ∧ EP X pins σ Q r s') pl (by omega) (by omega) (by rw [List.size_toArray, ← hl]; exact h1) (by simpa using ew) ⟨rfl, fin⟩) hs
theorem ix_str : IxR X rIxS := by
  intro value slice pins s σ H x y v u Q I rx ry h hs
  obtain ⟨z, i, c, rfl, rfl, hz, he, q⟩ := h
  obtain ⟨t, rfl⟩ := rx
  obtain ⟨t', rfl⟩ := ry
  obtain ⟨j, h1, h2, h3, h4, h5⟩ := atI_get he
  have hl : z.cps.toList.length = z.length := by simp [Str.length]
  rw [hl] at h1 h4 h5
  have hn := line63
  exact tail_any (typeIs_str s z t) slot_str_getitem.lookup (getItem_str (c := c) (by
    have e1 : decide (i < -(2 ^ 63 : Int)) = false := decide_eq_false (by omega)
    have e2 : decide (i ≥ 2 ^ 63) = false := decide_eq_false (by omega)
    rw [e1, e2, Bool.or_false]) (by rw [h1]; simpa using h2) ⟨.str ⟨#[c]⟩, H, I.tok _, ⟨_, rfl⟩, q⟩) hs
theorem mapSeq_set (its : List Value) (n j : Nat) (u : Value) : Obj.mapSeq (·.setIfInBounds j u) { cls := .type "list", data := .seq its.toArray n } = { cls := .type "list", data := .seq (its.set j u).toArray n } := by
  simp [Obj.mapSeq]
theorem Inv.lst {pins : List (Addr × Obj)} {σ : St} {H : Hp} {s : Shared} {p : Addr} {xs : List V} (I : Inv X pins σ H s) (h : H p = some (.lst xs)) :
    ∃ (its : List Value) (n : Nat), Vals xs its ∧ s.heap.get? p = some { cls := .type "list", data := .seq its.toArray n } ∧ xs.length ≤ sizeLine := by
  obtain ⟨z, its, n, r, e⟩ := I.hok p _ h
  exact ⟨its, n, r, e, z⟩
theorem Inv.lstUpd {pins : List (Addr × Obj)} {σ : St} {H : Hp} {s : Shared} {p : Addr} {xs ys : List V} {its its' : List Value} {n n' : Nat} {f : Obj → Obj} (I : Inv X pins σ H s) (h : H p = some (.lst xs))
    (ho : s.heap.get? p = some { cls := .type "list", data := .seq its.toArray n }) (hf : f { cls := .type "list", data := .seq its.toArray n } = { cls := .type "list", data := .seq its'.toArray n' }) (r : Vals ys its') (hz : ys.length ≤ sizeLine) (t : Nat) :
    Inv X pins σ (upd H p (.lst ys)) { s with heap := s.heap.update p f, toks := t } := by
  have e : (s.heap.update p f).get? p = some { cls := .type "list", data := .seq its'.toArray n' } := by
    rw [Heap.get?_update_self f ho (by rw [hf] <;> rfl), hf]
  refine I.write (x := p) (e := p) (by rw [h]; trivial) (.inl rfl) (fun b u hb q => (Heap.get?_update_other _ _ (Ne.symm hb)).trans q) ⟨_, e⟩ ?_
  exact ⟨hz, its', n', r, e⟩
noncomputable def rSetL : V → V → V → Hp → (Hp → Prop) → Prop := fun o i v H Q => ∃ p xs k j, o = .ref p ∧ i = .int k ∧ H p = some (.lst xs) ∧ ixN xs.length k = some j ∧ Q (upd H p (.lst (xs.set j v)))
theorem set_list : PSet X rSetL := by
  intro pins s σ H o i v ov iv u Q I ro ri rv h
  obtain ⟨p, xs, k, j, rfl, rfl, hp, hj, q⟩ := h
  cases ro
  obtain ⟨t, rfl⟩ := ri
  obtain ⟨its, n, r, ho, hz⟩ := I.lst hp
  obtain ⟨h1, h2, h3, h4⟩ := ixN_seq hj
  have hl := r.length
  have hn := line63
  have I' : Inv X pins σ (upd H p (.lst (xs.set j v))) { s with heap := s.heap.update p (Obj.mapSeq (·.setIfInBounds j u)) } :=
    I.lstUpd hp ho (mapSeq_set its n j u) (r.set rv j) (by rw [List.length_set]; exact hz) s.toks
  by_cases h0 : 0 ≤ k
  · have hk : k.toNat = j := by
      rw [seqIndex_of h0 h4] at h1
      exact Option.some.inj h1
    exact PySem.W.ki_setAt ho h0 (by omega) (by rw [List.size_toArray, ← hl]; exact h4) (by rw [hk]; exact ⟨_, I', q⟩)
  · have hk : (k + (its.toArray.size : Int)).toNat = j := by
      rw [seqIndex_neg (by omega) h3] at h1
      rw [List.size_toArray, ← hl]
      exact Option.some.inj h1
    exact PySem.W.ki_setBack ho (by omega) (by rw [List.size_toArray, ← hl]; exact h3) (by omega) (by rw [hk]; exact ⟨_, I', q⟩)

theorem slice_bounds (lo hi : Option Int) (n : Nat) : (sliceBounds lo hi none n).1 = ((HT.sIx n 0 lo : Nat) : Int) ∧ (sliceBounds lo hi none n).2.1 = ((HT.sIx n n hi : Nat) : Int) ∧ (sliceBounds lo hi none n).2.2 = 1 := by
  refine ⟨?_, ?_, rfl⟩
  · cases lo with
    | none => simp [sliceBounds, HT.sIx]
    | some i =>
      simp only [sliceBounds, HT.sIx, Option.getD_none, show (1 : Int) > 0 by decide, if_true]
      by_cases h : i < 0
      · simp only [h, if_true] <;> omega
      · simp only [h, if_false] <;> omega
  · cases hi with
    | none => simp [sliceBounds, HT.sIx]
    | some i =>
      simp only [sliceBounds, HT.sIx, Option.getD_none, show (1 : Int) > 0 by decide, if_true]
      by_cases h : i < 0
      · simp only [h, if_true] <;> omega
      · simp only [h, if_false] <;> omega
theorem slicePick_cut (its : List Value) (lo hi : Option Int) : slicePick its.toArray lo hi none = ((its.drop (HT.sIx its.length 0 lo)).take (HT.sIx its.length its.length hi - HT.sIx its.length 0 lo)).toArray := by
  obtain ⟨h1, h2, h3⟩ := slice_bounds lo hi its.toArray.size
  unfold slicePick
  rw [h1, h2, h3]
  simp only [sliceRange_one, pick_run, List.size_toArray] <;> rfl
noncomputable def rSlL (K : PySem.W.Frag) : V → Option Int → Option Int → Hp → VK → Prop := fun x lo hi H Q => ∃ a xs, x = .ref a ∧ SqL K H a xs ∧ ∀ p, H p = none → Q (.ref p) (upd H p (.lst (cutV xs lo hi)))
theorem sl_list : SlR X (rSlL X.K) := by
  intro pins s σ H x v vl vu lo hi sl Q I rx hs pl pu h
  obtain ⟨a, xs, rfl, hx, q⟩ := h
  cases rx
  obtain ⟨its, r, ht, hz⟩ := I.list hx
  have hlen := r.length
  refine ⟨"list", _, slot_list_getitem.lookup, ht.isList.typeIs, ?_⟩
  refine wpAny_getItem_list_slice ht.isList hs pl pu .none (by simp) ?_ (by rw [List.size_toArray] <;> omega)
  rw [slicePick_cut, ← hlen]
  refine ⟨.ref s.heap.objs.size, _, I.laid (t' := s.toks) (o := .lst (cutV xs lo hi)) (fun b ob q => Heap.get?_push_of_some _ q) (Nat.le_refl _) ?_, rfl, q _ (I.hok.fresh (Nat.le_refl _))⟩
  exact ⟨Nat.le_trans (cutV_length xs lo hi) hz, _, 0, (r.drop (HT.sIx xs.length 0 lo)).take (HT.sIx xs.length xs.length hi - HT.sIx xs.length 0 lo), Heap.get?_push_size _ rfl⟩

theorem op_notIn_str : OpR X (compareOp .NotIn) (fun x y H Q => ∃ i j, x = .str i ∧ y = .str j ∧ Q (.bl (!(!(Builtin.Str.occurrences j i 0 j.length 1).isEmpty))) H) := by
  intro pins s σ H x y v u Q I rx ry h
  obtain ⟨i, j, rfl, rfl, q⟩ := h
  obtain ⟨t, rfl⟩ := rx
  obtain ⟨t', rfl⟩ := ry
  exact notIn_str ⟨.bl _, H, I, rfl, q⟩

theorem call_len_seq : CallR X (.builtin "len") (fun xs H Q => ∃ p ys, xs = [.ref p] ∧ (SqL X.K H p ys ∨ SqT X.K H p ys) ∧ Q (.int ys.length) H) := by
  intro pins s σ H xs us Q I r h
  obtain ⟨p, ys, rfl, hq, q⟩ := h
  obtain ⟨u, rfl, rx⟩ := vals1 r
  cases rx
  have hn := line63
  rcases hq with hq | hq
  · obtain ⟨its, r', pl, hz⟩ := I.list hq
    have hlen := r'.length
    exact Calls.call_len_list pl.isList (by simp only [List.size_toArray] <;> omega) ⟨.int ys.length, H, I.tok _, ⟨s.toks + 1, by rw [List.size_toArray, hlen]⟩, q⟩
  · obtain ⟨its, r', pl, hz⟩ := I.tuple hq
    have hlen := r'.length
    exact len_tuple pl (by simp only [List.size_toArray] <;> omega) ⟨.int ys.length, H, I.tok _, ⟨s.toks + 1, by rw [List.size_toArray, hlen]⟩, q⟩
theorem call_len_str : CallR X (.builtin "len") (fun xs H Q => ∃ z, xs = [.str z] ∧ z.length ≤ sizeLine ∧ Q (.int z.length) H) := by
  intro pins s σ H xs us Q I r h
  obtain ⟨z, rfl, hz, q⟩ := h
  obtain ⟨u, rfl, t, rfl⟩ := vals1 r
  have hn := line63
  exact len_str (by omega) ⟨.int z.length, H, I.tok _, ⟨_, rfl⟩, q⟩
theorem call_list_of : CallR X (.type "list") (fun xs H Q => ∃ p ys, xs = [.ref p] ∧ (SqL X.K H p ys ∨ SqT X.K H p ys) ∧ ∀ l, H l = none → Q (.ref l) (upd H l (.lst ys))) := by
  intro pins s σ H xs us Q I r h
  obtain ⟨p, ys, rfl, hq, q⟩ := h
  obtain ⟨u, rfl, rx⟩ := vals1 r
  cases rx
  have fin : ∀ (its : List Value), Vals ys its → ys.length ≤ sizeLine → ∀ (h' : Heap) (c' : Nat), (∀ b o', s.heap.get? b = some o' → h'.get? b = some o') →
      h'.get? s.heap.objs.size = some { cls := .type "list", dict := none, data := .seq its.toArray c', slots := #[] } → EP X pins σ Q (.ref s.heap.objs.size) { s with heap := h' } := fun its r' hz h' c' kp e =>
    ⟨.ref s.heap.objs.size, _, I.laid (t' := s.toks) kp (Nat.le_refl _) (show ObjOk X.prog X.w _ h' _ (.lst ys) from ⟨hz, its, c', r', e⟩), rfl, q _ (I.hok.fresh (Nat.le_refl _))⟩
  rcases hq with hq | hq
  · obtain ⟨its, r', pl, hz⟩ := I.list hq
    have hlen := r'.length
    obtain ⟨o, ho, hc, n, hd⟩ := pl.isList
    exact call_list_seq p (.inl rfl) ho hc hd (fun h' c' kp e => fin its r' hz h' c' kp e) (by simp only [List.size_toArray] <;> omega)
  · obtain ⟨its, r', pl, hz⟩ := I.tuple hq
    have hlen := r'.length
    obtain ⟨o, ho, hc, n, hd⟩ := pl
    exact call_list_seq p (.inr rfl) ho hc hd (fun h' c' kp e => fin its r' hz h' c' kp e) (by simp only [List.size_toArray] <;> omega)
theorem call_tuple_of : CallR X (.type "tuple") (fun xs H Q => ∃ p ys, xs = [.ref p] ∧ ((SqL X.K H p ys ∧ ∀ l, H l = none → Q (.ref l) (upd H l (.tup ys))) ∨ (SqT X.K H p ys ∧ Q (.ref p) H))) := by
  intro pins s σ H xs us Q I r h
  obtain ⟨p, ys, rfl, h⟩ := h
  obtain ⟨u, rfl, rx⟩ := vals1 r
  cases rx
  rcases h with ⟨hq, q⟩ | ⟨hq, q⟩
  · obtain ⟨its, r', pl, hz⟩ := I.list hq
    have hlen := r'.length
    refine call_tuple_list pl.isList (fun h' kp => ?_) (by simp only [List.size_toArray] <;> omega)
    have I1 : Inv X pins σ H { s with heap := h' } := I.kept (t' := s.toks) kp
    have I2 : Inv X pins σ (upd H h'.objs.size (.tup ys)) { s with heap := h'.push { cls := .type "tuple", data := .seq its.toArray } } :=
      I1.laid (t' := s.toks) (fun b o e => Heap.get?_push_of_some _ e) (Nat.le_refl _) (show ObjOk X.prog X.w _ _ _ (.tup ys) from ⟨hz, its, r', IsTup.new _ _⟩)
    exact ⟨.ref h'.objs.size, _, I2, rfl, q _ (I1.hok.fresh (Nat.le_refl _))⟩
  · obtain ⟨its, r', pl, hz⟩ := I.tuple hq
    exact call_tuple_same pl ⟨.ref p, H, I, rfl, q⟩

noncomputable def tyV (K : PySem.W.Frag) (T : String) (x : V) (H : Hp) : Prop := match x with
  | .str _ => T = "str"
  | .int _ => T = "int"
  | .ref p => (T = "list" ∧ ∃ xs, SqL K H p xs) ∨ (T = "tuple" ∧ ∃ o, K.lookup p = some o ∧ o.cls = .type "tuple" ∧ o.dict = none) ∨
      (T = "dict" ∧ ((∃ kvs, H p = some (.dK kvs)) ∨ ∃ kvs, H p = some (.dT kvs))) ∨ (T = "set" ∧ ∃ S n, H p = some (.set S n))
  | _ => False
theorem tyV_is {pins : List (Addr × Obj)} {σ : St} {H : Hp} {s : Shared} {T : String} {x : V} {v : Value} (I : Inv X pins σ H s) (r : RelV x v) (ty : tyV X.K T x H) :
    s.TypeIs v T ∧ ∀ a, v = .ref a → ∃ ob, s.heap.get? a = some ob ∧ ob.dict = none := by
  cases x with
  | str z =>
    obtain ⟨t, rfl⟩ := r
    cases (show T = "str" from ty)
    exact ⟨typeIs_str s z t, fun _ e => nomatch e⟩
  | int i =>
    obtain ⟨t, rfl⟩ := r
    cases (show T = "int" from ty)
    exact ⟨typeIs_int s i t, fun _ e => nomatch e⟩
  | ref p =>
    cases r
    rcases ty with ⟨rfl, xs, hq⟩ | ⟨rfl, o, hk, hc, hd⟩ | ⟨rfl, hk⟩ | ⟨rfl, S, n, hk⟩
    · obtain ⟨its, _, pl, _⟩ := I.list hq
      refine ⟨pl.isList.typeIs, fun a e => ?_⟩
      cases e
      obtain ⟨o, n, e, c, hd, _⟩ := pl
      exact ⟨o, e, hd⟩
    · refine ⟨⟨o, I.kIn p o hk, hc⟩, fun a e => ?_⟩
      cases e
      exact ⟨o, I.kIn _ o hk, hd⟩
    · have z : ∃ o, s.heap.get? p = some o ∧ o.ExactDict := by
        rcases hk with ⟨kvs, hk⟩ | ⟨kvs, hk⟩
        · obtain ⟨_, _, _, _, o, _, _, e, ex, _⟩ := I.hok p _ hk
          exact ⟨o, e, ex⟩
        · obtain ⟨_, _, _, _, o, _, _, e, ex, _⟩ := I.hok p _ hk
          exact ⟨o, e, ex⟩
      obtain ⟨o, e, ex⟩ := z
      refine ⟨⟨o, e, ex.1⟩, fun a e2 => ?_⟩
      cases e2
      exact ⟨o, e, ex.2.1⟩
    · obtain ⟨o, _, _, _, e, ex, _⟩ := I.hok p _ hk
      refine ⟨⟨o, e, ex.1⟩, fun a e2 => ?_⟩
      cases e2
      exact ⟨o, e, ex.2.1⟩
  | _ => exact False.elim ty
noncomputable def tBM (K : PySem.W.Frag) (T : String) (r : V → List V → Hp → VK → Prop) (to : TE) (t : TA) : TE := fun σ H Q => to σ H fun x H1 => tyV K T x H1 ∧ t σ H1 fun xs H2 => r x xs H2 Q
variable {o e : Expr} {es : List Expr} {to : TE} {t : TA} {name : Str} {apos cpos : Pos} {T id : String} {r : V → List V → Hp → VK → Prop}
theorem pe_bm (pa : PlainAttrs T) (slot : Slot T name id) (hty : typeOf (.builtin id) = pure (.type "method_descriptor")) (hm : MtR X id r) (ho : PE X o to) (ha : PA X (e :: es) t)
    (hbase : attributeBase o name X.env (eval o X.env) = eval o X.env := by rfl)
    (hfew : ((backTo cpos (starEach (e :: es) X.env)).all (fun x => !x.1) && (backToKw cpos (keywordEach [] X.env)).all (fun x => x.1.isSome)
      && decide ((e :: es).length + ([] : List Keyword).length + (if ([] : List Keyword).isEmpty then 0 else 1) < 30)) = true := by rfl)
    (hline : (apos.endLine == cpos.line) = true := by rfl) (hs : starEach (e :: es) X.env = (false, eval e X.env) :: starEach es X.env := by rfl) (hplain : (backTo cpos (starEach es X.env)).any (·.1) = false := by rfl) :
    PE X (.Call (.Attribute o name apos) (e :: es) [] cpos) (tBM X.K T r to t) := by
  intro pins s σ H Q I h
  refine wpAny_Call_method_late hbase hfew hline rfl (thn (ho pins s σ H _ I h) fun v s1 ⟨x, H1, I1, r1, ty, q1⟩ => ?_)
  obtain ⟨h1, h2⟩ := tyV_is I1 r1 ty
  refine ⟨T, id, pa, slot, hty, h1, h2, ?_⟩
  have hA := ha cpos pins s1 σ H1 _ I1 q1
  rw [hs] at hA ⊢
  refine Calls.callWith_builtin (by show (false || (backTo cpos (starEach es X.env)).any (·.1)) = false; rw [hplain] <;> rfl) (Calls.evalArgs_plain ?_)
  exact thn hA fun us s2 ⟨vs, H2, I2, r2, q2⟩ => hm pins s2 σ H2 x vs v us Q I2 r1 r2 q2
/- xs.append(e), list.index on a module's tuple .. are MtR facts of 06m -/
end

noncomputable def MtM (X : Cx) (id : String) (r : V → List V → Hp → VK → Prop) : Prop :=
  ∀ (pins : List (Addr × Obj)) (s : Shared) (σ : St) (H : Hp) (x : V) (xs : List V) (v : Value) (us : List Value) (Q : VK), Inv X pins σ H s → RelV x v → Vals xs us → r x xs H Q →
    wpAny (model X.prog X.w) X.A (call (.builtin id) (v :: us)) (EP X pins σ Q) X.xe s

theorem Vals.one : ∀ {x : V} {us : List Value}, Vals [x] us → ∃ u, us = [u] ∧ RelV x u
  | _, _, .cons r .nil => ⟨_, rfl, r⟩
theorem Vals.two : ∀ {x y : V} {us : List Value}, Vals [x, y] us → ∃ u v, us = [u, v] ∧ RelV x u ∧ RelV y v
  | _, _, _, .cons r (.cons q .nil) => ⟨_, _, rfl, r, q⟩
theorem Vals.zero : ∀ {us : List Value}, Vals [] us → us = []
  | _, .nil => rfl
theorem Vals.reverse {xs : List V} {us : List Value} (h : Vals xs us) : Vals xs.reverse us.reverse := by
  induction h with
  | nil => exact .nil
  | cons r t ih => rw [List.reverse_cons, List.reverse_cons]; exact Vals.append ih (.cons r .nil)
section
variable {X : Cx} {pins : List (Addr × Obj)} {σ : St} {H : Hp} {s : Shared} {l b : Addr} {xs ys zs : List V}

theorem Inv.lset {its its' : List Value} {n : Nat} {f : Array Value → Array Value} {t' : Nat} (I : Inv X pins σ H s) (hH : H l = some (.lst xs))
    (e : s.heap.get? l = some { cls := .type "list", data := .seq its.toArray n }) (hf : f its.toArray = its'.toArray) (hv : Vals ys its') (hz : ys.length ≤ sizeLine) :
    Inv X pins σ (upd H l (.lst ys)) { s with heap := s.heap.update l (Obj.mapSeq f), toks := t' } := by
  have q := PySem.IsL.update e f
  rw [hf] at q
  refine I.write (x := l) (e := l) (by rw [hH]; exact trivial) (.inl rfl) (fun b' u hb hu => (Heap.get?_update_other s.heap (Obj.mapSeq f) (Ne.symm hb)).trans hu) ⟨_, q⟩ ?_
  exact ⟨hz, its', _, hv, q⟩
theorem Inv.lnew {its : List Value} {t' : Nat} (I : Inv X pins σ H s) (hv : Vals ys its) (hz : ys.length ≤ sizeLine) :
    Inv X pins σ (upd H s.heap.objs.size (.lst ys)) { s with heap := s.heap.push { cls := .type "list", data := .seq its.toArray }, toks := t' } :=
  I.laid (fun _ _ q => Heap.get?_push_of_some _ q) (Nat.le_refl _) ⟨hz, its, 0, hv, Heap.get?_push_size _ rfl⟩
theorem Inv.fresh (I : Inv X pins σ H s) : H s.heap.objs.size = none := I.hok.fresh (Nat.le_refl _)
theorem Inv.lstM (I : Inv X pins σ H s) (hH : H l = some (.lst xs)) : xs.length ≤ sizeLine ∧ ∃ (its : List Value) (n : Nat), Vals xs its ∧ xs.length = its.length ∧ s.heap.get? l = some { cls := .type "list", data := .seq its.toArray n } := by
  obtain ⟨z, its, n, r, e⟩ := I.hok l _ hH
  exact ⟨z, its, n, r, r.length, e⟩

theorem notLongL {n : Nat} (h : n ≤ sizeLine) : Builtin.List.listTooLong n = false := by
  unfold Builtin.List.listTooLong
  exact decide_eq_false (by omega)
end

section
variable {X : Cx}

noncomputable def rAppend : V → List V → Hp → VK → Prop := fun x vs H Q => ∃ l xs y, x = .ref l ∧ vs = [y] ∧ H l = some (.lst xs) ∧ xs.length < sizeLine ∧ Q .non (upd H l (.lst (xs ++ [y])))
theorem mt_append : MtM X "list.append" rAppend := by
  intro pins s σ H x vs v us Q I rx rv h
  obtain ⟨l, xs, y, rfl, rfl, hH, hz, q⟩ := h
  cases rx
  obtain ⟨u, rfl, ru⟩ := rv.one
  obtain ⟨z, its, n, r, hl, e⟩ := I.lstM hH
  refine call_meets F.slot_list_append ⟨_, e, rfl⟩ F.entry_list_append (F.args_list_append_2 _ _) (PySem.list_append l its.toArray n u (by rw [List.size_toArray]; omega)) ⟨e, ?_⟩
  refine ⟨.non, _, I.lset (its' := its ++ [u]) hH e (by simp) (r.append (.cons ru .nil)) ?_, rfl, q⟩
  rw [List.length_append, List.length_singleton]
  omega

noncomputable def rCat : R2 := fun x y H Q => ∃ l b xs zs, x = .ref l ∧ y = .ref b ∧ H l = some (.lst xs) ∧ H b = some (.lst zs) ∧ xs.length + zs.length ≤ sizeLine ∧ ∀ p, H p = none → Q (.ref p) (upd H p (.lst (xs ++ zs)))
theorem op_cat : OpR X (binaryOp .Add) rCat := by
  intro pins s σ H x y v u Q I rx ry h
  obtain ⟨l, b, xs, zs, rfl, rfl, hH, hB, hz, q⟩ := h
  cases rx
  cases ry
  obtain ⟨z, its, n, r, hl, e⟩ := I.lstM hH
  obtain ⟨z2, its2, n2, r2, hl2, e2⟩ := I.lstM hB
  refine PySem.P.add_list e e2 ?_ (by rw [List.size_toArray, List.size_toArray]; omega)
  have ea : its.toArray ++ its2.toArray = (its ++ its2).toArray := by simp
  rw [ea]
  exact ⟨.ref _, _, I.lnew (t' := s.toks) (r.append r2) (by rw [List.length_append]; omega), rfl, q _ I.fresh⟩
end

section
variable {prog : Program} {w : World} {A : Around} {E : Value → Shared → Prop} {s : Shared}
theorem bounds_run {a c n : Nat} (hac : a ≤ c) (hc : c ≤ n) : sliceBounds (some (a : Int)) (some (c : Int)) none n = ((a : Int), (c : Int), 1) := by
  simp only [sliceBounds, Option.getD_none]
  have h1 : ¬ ((a : Int) < 0) := by omega
  have h2 : ¬ ((c : Int) < 0) := by omega
  simp only [h1, h2, if_false, show (1 : Int) > 0 by decide, if_true]
  congr 1
  · omega
  · congr 1; omega
set_option maxRecDepth 100000 in
theorem setItem_slice {l b sl : Addr} {items new : Array Value} {n n2 : Nat} {vl vu : Value} {a c : Nat} {Q : Unit → Shared → Prop}
    (e : s.heap.get? l = some { cls := .type "list", data := .seq items n }) (e2 : s.heap.get? b = some { cls := .type "list", data := .seq new n2 }) (hne : l ≠ b)
    (hs : s.heap.IsSliceOf sl vl vu .none) (pl : IsPart vl (some (a : Int))) (pu : IsPart vu (some (c : Int))) (hac : a ≤ c) (hc : c ≤ items.size)
    (hsz : items.size + new.size ≤ sizeLine) (h : Q () { s with heap := s.heap.update l (Obj.mapSeq fun xs => xs.extract 0 a ++ new ++ xs.extract c xs.size) }) :
    wpAny (model prog w) A (setItem (.ref l) (.ref sl) (.ref b)) Q E s := by
  have hl : s.heap.IsList l items := PySem.IsL.isList e
  have hb : s.heap.IsList b new := PySem.IsL.isList e2
  obtain ⟨os, hos, hcs, hds⟩ := id hs
  have hTs : s.TypeIs (.ref sl) "slice" := ⟨os, hos, hcs⟩
  have hstep : ¬ ((rawPart none == rawInt 0) = true) := Bool.false_ne_true
  have hsame : Builtin.List.listSameRef (.ref l) (.ref b) = false := by
    unfold Builtin.List.listSameRef
    exact beq_eq_false_iff_ne.mpr hne
  have hmax : (max (a : Int) (c : Int)).toNat = c := by omega
  have hz' : ((fun xs : Array Value => xs.extract 0 a ++ new ++ xs.extract c xs.size) items).size ≤ sizeLine + 1 := by
    simp only [Array.size_append, Array.size_extract]
    omega
  unfold setItem
  try with_reducible refine wpAny_holding ?_
  first | refine wpAny_bind (wpAny_pure ?_) | skip
  refine wpAny_bind (wpAny_sequenceKey hl.typeIs (by decide) ?_)
  refine wpAny_bind (wpAny_callSpecial?_slot (name := Str.ofString "__setitem__") hl.typeIs slot_list_setitem
    (wpAny_call_entry slot_list_setitem hl.typeIs entry_list_setitem ?_ (args_list_setitem _ _ _)))
  show wpAny _ _ (Builtin.List.listSubscript? (.ref sl) >>= _) _ _ s
  refine wpAny_bind ?_
  unfold Builtin.List.listSubscript?
  refine wpAny_bind (wpAny_specialOf hTs slice_no_index ?_)
  simp only [Option.isNone_none, if_true]
  refine wpAny_pure ?_
  show wpAny _ _ (typeOf (.ref sl) >>= _) _ _ s
  refine wpAny_bind (wpAny_typeOf hTs ?_)
  first
    | rw [if_neg (by decide)]
    | refine PySem.W.KFB.if_not (by decide) ?_
  rw [listSliceParts_eq]
  refine wpAny_bind (wpAny_bind (wpAny_field hos hds (x := .none) rfl (wpAny_bind (wpAny_listPart .none ?_))))
  rw [if_neg hstep]
  refine wpAny_bind (wpAny_field hos hds (x := vl) rfl (wpAny_bind (wpAny_listPart pl ?_)))
  refine wpAny_bind (wpAny_field hos hds (x := vu) rfl (wpAny_bind (wpAny_listPart pu (wpAny_pure ?_))))
  first
    | simp only [hsame, Bool.false_eq_true, if_false]
    | refine PySem.W.KFB.if_not hsame ?_
    | (dsimp only
       rw [if_neg (by rw [hsame]; exact Bool.false_ne_true)])
  refine wpAny_bind (m := Builtin.List.listAllItems (.ref b) "must assign iterable to extended slice") ?_
  unfold Builtin.List.listAllItems
  refine wpAny_bind (wpAny_typeOf hb.typeIs ?_)
  first
    | refine PySem.W.KFB.if_so (by decide) ?_
    | rw [if_pos (by decide)]
    | simp only [beq_self_eq_true, Bool.true_or, if_true]
  unfold Builtin.List.listItems
  refine wpAny_bind (wpAny_seqItems e2 rfl (wpAny_pure ?_))
  refine wpAny_bind (wpAny_bind (wpAny_seqItems e rfl (wpAny_pure ?_)))
  refine wpAny_bind (wpAny_of_eq ((sliceIndices_raw (some (a : Int)) (some (c : Int)) none items.size (by simp)).trans (congrArg (pure : Int × Int × Int → Sem (Int × Int × Int)) (bounds_run hac hc))) ?_)
  show wpAny _ _ (if ((1 : Int) == 1) = true then _ else _) _ _ s
  rw [if_pos (by decide)]
  refine wpAny_bind (wpAny_rule ?_)
  first
    | simp only [notLongL hsz, Bool.false_eq_true, if_false]
    | refine PySem.W.KFB.if_not (notLongL hsz) ?_
  first | refine wpAny_bind (wpAny_pure ?_) | skip
  show wpAny _ _ (updateSeq l (fun xs => xs.extract 0 ((a : Int)).toNat ++ new ++ xs.extract (max (a : Int) (c : Int)).toNat xs.size) >>= _) _ _ s
  rw [hmax, Int.toNat_natCast]
  refine wpAny_bind (wpAny_updateSeq (hz := Nat.le_trans (Nat.le_add_right _ _) hsz) (_hz' := hz') e rfl ?_)
  refine wpAny_bind (wpAny_letGo ?_)
  first
    | exact wpAny_bind (wpAny_pure (wpAny_pure ⟨.none, rfl, wpAny_pure h⟩))
    | exact wpAny_pure ⟨.none, rfl, wpAny_pure h⟩
end

section
variable {X : Cx}
end
end L2

namespace Att
open PySem PySem.W PySem.Calls PyProof.Rows

theorem ints_of_wellAll {P : Params} {h : Heap} : ∀ (ns : List Int) (vs : List Value), WellAll P h vs (ns.map WData.int) → IntsAre vs ns := by
  intro ns
  induction ns with
  | nil =>
    intro vs w
    rw [List.map_nil] at w
    cases w
    exact .nil
  | cons n ns ih =>
    intro vs w
    rw [List.map_cons] at w
    cases w with
    | cons a b =>
      cases a
      exact .cons _ _ (ih _ b)

theorem script_of {l : OpenLaw} {n : Nat} (hn : l.most = some n) {P : Params} {h : Heap} {args : List WData} {vals : List Value}
    (hpre : l.row.toRowW.claim.pre args = true) (hwl : WellAll P h vals args) :
    ∃ a vs ns, vals = [Value.ref a] ∧ args = [WData.list (ns.map WData.int)] ∧ h.get? a = some { cls := .type "list", data := .seq vs.toArray } ∧ IntsAre vs ns ∧ ns.length ≤ n := by
  have hsh : WShape.hasAll [] args [.list .int] = true := (pre_splitW hpre).1
  have hc : l.pre.holds [] { args := args } = true := (pre_splitW hpre).2
  obtain ⟨d, r, rfl, h1, h2⟩ := hasAllW_cons hsh
  obtain rfl := hasAllW_nil h2
  obtain ⟨xs, rfl, h3⟩ := hasW_list h1
  obtain ⟨ns, rfl⟩ := items_int h3
  have hlen : ns.length ≤ n := by
    unfold OpenLaw.pre at hc
    have h4 : (WTm.not (.lt (.lit (.int (n : Int))) (.len (.arg 0)))).holds [] { args := [.list (ns.map .int)] } = true := by
      have h4 := (holds_andW hc).1
      rw [hn] at h4
      exact h4
    have h5 := condW_of h4 (w_not (w_lt w_lit (w_len_list (w_arg rfl))))
    rw [List.length_map] at h5
    refine Nat.le_of_not_lt fun q => ?_
    have q' : (n : Int) < ((ns.length : Nat) : Int) := by omega
    first
      | (rw [decide_eq_true q'] at h5; exact absurd h5 (by decide))
      | (simp at h5; omega)
  cases hwl with
  | cons w1 w2 =>
    cases w2
    cases w1 with
    | list ho hall => exact ⟨_, _, ns, rfl, rfl, ho, ints_of_wellAll ns _ hall, hlen⟩

theorem post_true (l : OpenLaw) (args : List WData) : l.row.toRowW.claim.post args (.bool true) args = true :=
  postW_of (r := l.row.toRowW) (X := (true == true))
    (show WShape.has [] (.bool true) .bool = true by first | rfl | decide | simp [WShape.has, WShape.arms, WShape.armsAll])
    (show (WTm.eq .res (.lit (.bool true))).value [] { args := args, res := some (.bool true), after := args } = some (.bool (true == true)) from w_eq_bool (w_res rfl) w_lit) rfl

theorem attach_call {l : OpenLaw} {n : Nat} {q : Program} {loose : List Str} {XP : (Str → Option Value) → Heap → Prop} {YP : World → Heap → Prop} {d : DefRec}
    (hn : l.most = some n) (hdf : d.params.defaults = [])
    (call : ∀ (w : World) (s₀ s₁ : Shared) (mg mb : Str → Option Value) (fa : Addr) (o : Obj) (pm cd doc : Value) (a : Addr) (vs : List Value) (ns : List Int),
      Ground q loose [] XP w s₀ mg mb s₁.heap → YP w s₁.heap →
      s₁.heap.get? fa = some o → o.data = .func (docDef d.name d.params d.body d.scope pm cd doc) → s₁.heap.CodeRec cd d.name → mg d.name = some (.ref fa) →
      s₁.heap.get? a = some { cls := .type "list", data := .seq vs.toArray } → IntsAre vs ns → ns.length ≤ n → s₁.gens = #[] →
      codeAny (model l.prog w) callerA (.call (.ref fa) ⟨[.ref a], []⟩) (fun r s' => r = .ok (.ret (.bool true)) ∧ OldK s₁.heap s'.heap ∧ s'.os = s₁.os ∧ AllBare s'.gens) s₁) :
    WalkO q loose XP YP l.row.toRowW d [] (fun f vs => PySem.call f vs) := by
  intro w s₀ s₁ mg mb G Y fa o pm cd doc dV kV ho hd hcd hD hmg hg args vals as hpre hlay hrd hwl hlo
  obtain rfl : dV = .none := Dflts.none hD hdf
  obtain rfl : kV = .none := Dflts.noKw hD
  obtain ⟨a, vs, ns, rfl, rfl, hobj, hints, hlen⟩ := script_of hn hpre hwl
  refine enter_call (codeAny_mono (call w s₀ s₁ mg mb fa o pm cd doc a vs ns G Y ho (fd_plain hd) hcd hmg hobj hints hlen hg) fun r s' hq => ?_)
  obtain ⟨rfl, h2, h3, h4⟩ := hq
  exact ⟨.inl ⟨.bool true, .bool true, [], rfl, fun _ => rfl, .bool true, post_true l _, fun _ => ⟨List.Pairwise.nil, fun _ hm => (nomatch hm)⟩⟩, h2, h3, h4⟩

section
variable {prog : Program} {w : World} {A : Around} {E : Value → Shared → Prop} {s : Shared} {K : Frag}

end
end Att

namespace L2
open PySem PySem.Spec PyProof.Rows

theorem vals_ints : ∀ {vs : List Value} {ns : List Int}, IntsAre vs ns → Vals (ns.map V.int) vs
  | _, _, .nil => .nil
  | _, _, .cons n t h => .cons ⟨t, rfl⟩ (vals_ints h)

noncomputable def Only (H : Hp) : Prop := ∀ b, H b = none ∨ ∃ o xs, H b = some (.frz o (.lst xs))

theorem law_call {P : Program} {w : World} {K : PySem.W.Frag} {mg mb : Str → Option Value} {CX : CXT} {k : Nat} {fa a : Addr} {fd : FuncData} {x : Str} {sp : Sp} {s₁ : Shared} {vs : List Value} {ns : List Int}
    (KX : K.In s₁.heap) (hns : s₁.heap.Ns mainGlobals mg) (hb : s₁.heap.Ns builtinsNs mb) (hbb : ∀ x : Str, x ≠ "__name__" → mb x = bootBuiltins x) (hlim : s₁.heap.NoLimit) (hg : s₁.gens = #[])
    (ha : s₁.heap.get? a = some { cls := .type "list", data := .seq vs.toArray }) (hi : IntsAre vs ns) (hl : ns.length ≤ sizeLine) (hr : Room k callerA)
    (F : ∀ base : Heap, K.In base → base.Ns mainGlobals mg → FnOk P w K mg base CX k fa fd [x] sp) (hbind : ∀ (s : Shared) (u : Value), BindsTo s fd ⟨[u], []⟩ [(x, u)])
    (hsp : ∀ H : Hp, Only H → SqL K H a (ns.map V.int) → sp [.ref a] H (fun v _ => v = .bl true) fun _ _ _ => False)
    (hCX : ∀ H e s', CX [] H s₁ (fun _ _ _ => False) e s' → False) :
    codeAny (model P w) callerA (.call (.ref fa) ⟨[.ref a], []⟩) (fun r s' => r = .ok (.ret (.bool true)) ∧ OldK s₁.heap s'.heap ∧ s'.os = s₁.os ∧ AllBare s'.gens) s₁ := by
  have rv := vals_ints hi
  have lenV := hi.length
  -- from an abstract heap in which nothing but the script may be tracked
  have core : ∀ H : Hp, Only H → SqL K H a (ns.map V.int) → HOk P w H s₁.heap → (∀ b, H b ≠ none → b = a) → (H a ≠ none → K.lookup a = none) →
      codeAny (model P w) callerA (.call (.ref fa) ⟨[.ref a], []⟩) (fun r s' => r = .ok (.ret (.bool true)) ∧ OldK s₁.heap s'.heap ∧ s'.os = s₁.os ∧ AllBare s'.gens) s₁ := by
    intro H hO hS hok hA hK
    have base_of : ∀ {b : Addr} {o : Obj}, s₁.heap.get? b = some o → H b = none → (hidT s₁.heap H).get? b = some o := fun e n => hidT_get e n
    have noA : ∀ {b : Addr} {o : Obj} {es : Array DictEntry} {ep : Nat}, s₁.heap.get? b = some o → o.data = .dict es ep → H b = none := fun {b o es ep} e d => by
      cases q : H b with
      | none => rfl
      | some u =>
        have e' : b = a := hA b (by rw [q]; simp)
        subst e'
        rw [ha] at e; cases e
        have d' : Data.seq vs.toArray _ = Data.dict es ep := d
        cases d'
    have nsK : ∀ {b : Addr} {m : Str → Option Value}, s₁.heap.Ns b m → (hidT s₁.heap H).Ns b m := fun {b m} ⟨o, es, ep, e, d, r⟩ => ⟨o, es, ep, base_of e (noA e d), d, r⟩
    have hKb : K.In (hidT s₁.heap H) := fun b o e => base_of (KX b o e) (by
      cases q : H b with
      | none => rfl
      | some u =>
        have e' : b = a := hA b (by rw [q]; simp)
        subst e'
        rw [hK (by rw [q]; simp)] at e; cases e)
    have hM : Mod K mg (hidT s₁.heap H) := ⟨hKb, nsK hns, ⟨mb, nsK hb, hbb⟩, let ⟨mc, h1, h2⟩ := hlim; ⟨mc, nsK h1, h2⟩⟩
    have e0 : Env0 P w K mg (hidT s₁.heap H) callerA [] s₁ H := ⟨rfl, hM, fun b o e => of_hidT e, Nat.le_of_eq (hidT_size _ _), trivial, fun b hb => absurd (show b ∈ ([] : List Addr) from hb) (by simp), hok, .of_eq hg⟩
    refine codeAny_mono ((F _ hKb (nsK hns)).run callerA [] s₁ H ⟨[.ref a], []⟩ [.ref a] [.ref a] _ _ hr e0 (hbind s₁ (.ref a)) (.cons rfl .nil) (hsp H hO hS)) fun r s' h => ?_
    cases r with
    | error e => exact (hCX H e s' h).elim
    | ok fl =>
      cases fl with
      | next => exact False.elim h
      | brk => exact False.elim h
      | cont => exact False.elim h
      | ret u =>
        obtain ⟨v, H', os, bare, un, hok', r', q⟩ := h
        have q' : v = .bl true := q
        subst q'
        obtain rfl : u = Value.bool true := r'
        refine ⟨rfl, OldK.of_keep fun b o e => ?_, os, bare⟩
        cases q : H b with
        | none => exact un.keep b o e q (by intro z; exact absurd (show b ∈ ([] : List Addr) from z) (by simp)) (by simp)
        | some u =>
          rcases hO b with z | ⟨ob, xs, z⟩
          · rw [q] at z; cases z
          · have z2 := un.frzs b ob _ z
            obtain ⟨e1, _⟩ := hok b _ z
            obtain ⟨e2, _⟩ := hok' b _ z2
            rw [e] at e1; cases e1
            exact e2
  cases hk : K.lookup a with
  | some o =>
    -- the script is one of the module's own objects
    have e := KX a o hk
    rw [ha] at e
    cases e
    refine core (fun _ => none) (fun _ => .inl rfl) (.inr ⟨_, vs.toArray, _, hk, rfl, rfl, rfl, by rw [List.size_toArray, lenV]; exact hl, by simpa using rv⟩) (fun b u z => by have z' : (none : Option HO) = some u := z; cases z') (fun b z => absurd rfl z) fun z => absurd rfl z
  | none =>
    refine core (fun b => if b = a then some (.frz { cls := .type "list", data := .seq vs.toArray } (.lst (ns.map V.int))) else none) (fun b => ?_) (.inl (.inr ⟨{ cls := .type "list", data := .seq vs.toArray }, if_pos rfl⟩)) (fun b u z => ?_) (fun b z => ?_) fun _ => hk
    · by_cases hb : b = a
      · exact .inr ⟨_, _, if_pos hb⟩
      · exact .inl (if_neg hb)
    · by_cases hb : b = a
      · have z' := (if_pos hb).symm.trans z
        cases z'
        subst hb
        exact ⟨ha, by rw [List.length_map]; exact hl, vs, _, rv, ha⟩
      · have z' := (if_neg hb).symm.trans z
        cases z'
    · by_cases hb : b = a
      · exact hb
      · exact absurd (if_neg hb) z

noncomputable abbrev KOf {K : PySem.W.Frag} {h : Heap} (_ : K.In h) : PySem.W.Frag := K

theorem walk_of {l : PySem.W.OpenLaw} {n k : Nat} {q : Program} {loose : List Str} {XP : (Str → Option Value) → Heap → Prop} {YP : World → Heap → Prop} {d : DefRec} {K : Params → PySem.W.Frag} {CX : World → CXT} {sp : World → Sp} {x : Str}
    (hn : l.most = some n) (hn2 : n ≤ sizeLine) (hdf : d.params.defaults = []) (hr : Room k callerA)
    (hY : ∀ (w : World) (h : Heap), YP w h → (K w.params).In h)
    (F : ∀ (w : World) (mg : Str → Option Value) (fa : Addr) (h : Heap), (K w.params).In h → h.Ns mainGlobals mg → mg d.name = some (.ref fa) →
      ∃ fd : FuncData, (∀ (s : Shared) (u : Value), BindsTo s fd ⟨[u], []⟩ [(x, u)]) ∧
        ∀ base : Heap, (K w.params).In base → base.Ns mainGlobals mg → FnOk l.prog w (K w.params) mg base (CX w) k fa fd [x] (sp w))
    (hsp : ∀ (w : World) (H : Hp) (a : Addr) (ns : List Int), ns.length ≤ n → Only H → SqL (K w.params) H a (ns.map V.int) → sp w [.ref a] H (fun v _ => v = .bl true) fun _ _ _ => False)
    (hCX : ∀ (w : World) (H : Hp) (s : Shared) (e : Value) (s' : Shared), CX w [] H s (fun _ _ _ => False) e s' → False) :
    PySem.W.WalkO q loose XP YP l.row.toRowW d [] (fun f vs => PySem.call f vs) := by
  refine Att.attach_call hn hdf fun w s₀ s₁ mg mb fa o pm cd doc a vs ns G Y ho hd hcd hmg hobj hints hlen hg => ?_
  have KX := hY w _ Y
  obtain ⟨fd, hb, hF⟩ := F w mg fa _ KX G.T.g hmg
  exact law_call KX G.T.g G.T.b G.T.builtins G.T.nolimit hg hobj hints (Nat.le_trans hlen hn2) hr hF hb (fun H hO hS => hsp w H a ns hlen hO hS) fun H e s' => hCX w H s₁ e s'
theorem walk_ofK {l : PySem.W.OpenLaw} {n k : Nat} {q : Program} {loose : List Str} {XP : (Str → Option Value) → Heap → Prop} {YP : World → Heap → Prop} {d : DefRec} {K : Params → PySem.W.Frag} {CX : CXT} {sp : PySem.W.Frag → Sp} {x : Str}
    (hn : l.most = some n) (hn2 : n ≤ sizeLine) (hdf : d.params.defaults = []) (hr : Room k callerA)
    (hY : ∀ (w : World) (h : Heap), YP w h → (K w.params).In h)
    (F : ∀ (w : World) (mg : Str → Option Value) (fa : Addr) (h : Heap), (K w.params).In h → h.Ns mainGlobals mg → mg d.name = some (.ref fa) →
      ∃ fd : FuncData, (∀ (s : Shared) (u : Value), BindsTo s fd ⟨[u], []⟩ [(x, u)]) ∧
        ∀ base : Heap, (K w.params).In base → base.Ns mainGlobals mg → FnOk l.prog w (K w.params) mg base CX k fa fd [x] (sp (K w.params)))
    (hsp : ∀ (K : PySem.W.Frag) (H : Hp) (a : Addr) (ns : List Int), ns.length ≤ n → Only H → SqL K H a (ns.map V.int) → sp K [.ref a] H (fun v _ => v = .bl true) fun _ _ _ => False)
    (hCX : ∀ (H : Hp) (s : Shared) (e : Value) (s' : Shared), CX [] H s (fun _ _ _ => False) e s' → False) :
    PySem.W.WalkO q loose XP YP l.row.toRowW d [] (fun f vs => PySem.call f vs) :=
  walk_of (K := K) (CX := fun _ => CX) (sp := fun w => sp (K w.params)) hn hn2 hdf hr hY F (fun w H a ns h1 h2 h3 => hsp (K w.params) H a ns h1 h2 h3) fun _ H s e s' => hCX H s e s'

noncomputable def defArgs (s : Stmt) : Arguments := match s with
  | .FunctionDef _ a _ _ _ _ _ _ _ _ => a
  | _ => { posonlyargs := [], args := [], vararg := none, kwonlyargs := [], kw_defaults := [], kwarg := none, defaults := [] }
noncomputable def defBody (s : Stmt) : List Stmt := match s with
  | .FunctionDef _ _ b _ _ _ _ _ _ _ => b
  | _ => []
noncomputable def defScope (s : Stmt) : Scope := match s with
  | .FunctionDef _ _ _ _ _ _ sc _ _ _ => sc
  | _ => { kind := .function, names := [], isGenerator := false, isCoroutine := false }

noncomputable abbrev CX0 : CXT := fun _ _ _ _ _ _ => False
noncomputable abbrev E0 : XK := fun _ _ _ => False
theorem pass0 {X : Cx} : Passes CX0 X E0 := fun _ _ _ _ _ _ _ h => h.elim

structure Fun (K : PySem.W.Frag) (x qual : Str) (st : Stmt) (f : Addr) (fd : FuncData) : Prop where
  ex : ∃ (oc : Value) (od : Option Addr) (kV doc pm : Value) (an : Option Addr) (cdv ct : Value) (osl : Array (Option Value)),
    fd = PySem.W.fnOf x qual (defArgs st) (defBody st) (defScope st) .none kV doc pm an cdv ct ∧ K.lookup f = some ⟨oc, od, .func fd, osl⟩ ∧ PySem.W.codeIn K cdv qual = true
  kp : PySem.W.keepIn K (.ref f) = true
section
variable {P : Program} {w : World} {K : PySem.W.Frag} {mg : Str → Option Value} {base : Heap}
theorem Fun.ok {x qual : Str} {st : Stmt} {f : Addr} {fd : FuncData} {N ps : List Str} {k : Nat} {sp : Sp} (F : Fun K x qual st f fd) (S : FnScope N ps (defScope st)) (len : ∀ vs H Q E, sp vs H Q E → vs.length = ps.length)
    (hbody : ∀ (cdv : Value) (A : Around) (outer : List Env) (s : Shared) (H : Hp) (vs : List V) (Q : VK) (E : XK), Room k (A.deeper (envOfC qual (defScope st) s.heap.objs.size f cdv)) → sp vs H Q E →
      ∃ t, PSs (cxOf CX0 P w K mg base N qual (defScope st) f cdv A outer s H E).nox (defBody st) t ∧ t { nx := fun _ H' => Q .non H', rt := Q } (start N vs) H) : FnOk P w K mg base CX0 (k + 1) f fd ps sp := by
  obtain ⟨oc, od, kV, doc, pm, an, cdv, ct, osl, rfl, lk, hcd⟩ := F.ex
  refine fn_of lk hcd S len fun A outer s H vs Q E hr hsp => ?_
  obtain ⟨t, h, q⟩ := hbody cdv A outer s H vs Q E hr hsp
  exact ⟨t, h.nox, q⟩
theorem Fun.binds {x qual : Str} {st : Stmt} {f : Addr} {fd : FuncData} {ps : List Str} (F : Fun K x qual st f fd)
    (h : ∀ (kV doc pm : Value) (an : Option Addr) (cdv ct : Value) (us : List Value), us.length = ps.length → bindArgs (PySem.W.fnOf x qual (defArgs st) (defBody st) (defScope st) .none kV doc pm an cdv ct) ⟨us, []⟩ = pure (ps.zip us)) : Binds K fd ps [] := by
  obtain ⟨oc, od, kV, doc, pm, an, cdv, ct, osl, rfl, lk, hcd⟩ := F.ex
  exact .all (h kV doc pm an cdv ct)
theorem fun_mk {x qual : Str} {st : Stmt} {f : Addr} {oc : Value} {od an : Option Addr} {osl : Array (Option Value)} {kV doc pm cdv ct : Value} (l : K.lookup f = some ⟨oc, od, .func (PySem.W.fnOf x qual (defArgs st) (defBody st) (defScope st) .none kV doc pm an cdv ct), osl⟩)
    (c : PySem.W.codeIn K cdv qual = true) (k : PySem.W.keepIn K (.ref f) = true) : Fun K x qual st f (PySem.W.fnOf x qual (defArgs st) (defBody st) (defScope st) .none kV doc pm an cdv ct) := ⟨⟨oc, od, kV, doc, pm, an, cdv, ct, osl, rfl, l, c⟩, k⟩
end
section
variable {X : Cx}
theorem pv (i : Nat) {x : Str} {pos : Pos} (hN : X.N[i]? = some x := by rfl) (hv : Vis X.env.scope x := by first | exact Or.inl rfl | exact Or.inr (Or.inl rfl) | exact Or.inr (Or.inr rfl)) (hd : (x == ("__debug__" : Str)) = false := by decide)
    (hcd : (x == ("__classdict__" : Str)) = false := by decide) : PE X (.Name x pos) (tVar i) := pe_var hN hv hd hcd
end

noncomputable def Same (H H' : Hp) : Prop := ∀ b o, H b = some o → H' b = some o
theorem Same.refl (H : Hp) : Same H H := fun _ _ h => h
theorem Same.trans {H H1 H2 : Hp} (a : Same H H1) (b : Same H1 H2) : Same H H2 := fun c o h => b c o (a c o h)
theorem Same.free {H H' : Hp} (e : Same H H') {l : Addr} (h : H' l = Option.none) : H l = Option.none := by
  cases q : H l with
  | none => rfl
  | some o =>
    rw [e l o q] at h
    cases h
theorem Same.seq {K : PySem.W.Frag} {H H' : Hp} {a : Addr} {xs : List V} (e : Same H H') (h : SqL K H a xs) : SqL K H' a xs := by
  rcases h with (h | ⟨o, h⟩) | h
  · exact .inl (.inl (e _ _ h))
  · exact .inl (.inr ⟨o, e _ _ h⟩)
  · exact .inr h


section
variable {κ : Type} [DecidableEq κ]
noncomputable def valV (kvs : List (κ × V)) (k : κ) : Option V := (kvs.find? fun kv => decide (kv.1 = k)).map (·.2)
noncomputable def putK (kvs : List (κ × V)) (k : κ) (v : V) : List (κ × V) :=
  if (kvs.any fun kv => decide (kv.1 = k)) = true then kvs.map (fun kv => if kv.1 = k then (kv.1, v) else kv) else kvs ++ [(k, v)]
noncomputable def dropK (kvs : List (κ × V)) (k : κ) : List (κ × V) := kvs.filter fun kv => decide (kv.1 ≠ k)

theorem valV_pos {p : κ × V} {r : List (κ × V)} {k : κ} (e : p.1 = k) : valV (p :: r) k = some p.2 := by simp [valV, List.find?_cons, e]
theorem valV_neg {p : κ × V} {r : List (κ × V)} {k : κ} (e : ¬ p.1 = k) : valV (p :: r) k = valV r k := by simp [valV, List.find?_cons, e]
theorem KV.val {kvs : List (κ × V)} {vs : List (κ × Value)} (r : KV kvs vs) (k : κ) : RelO (valV kvs k) (valueAt vs k) := by
  unfold KV at r
  induction r with
  | nil => exact True.intro
  | @cons p q ps qs h t ih =>
    obtain ⟨h1, h2⟩ := h
    by_cases e : p.1 = k
    · have e' : q.1 = k := h1.symm.trans e
      have b : valueAt (q :: qs) k = some q.2 := by simp [valueAt, List.find?_cons, e']
      rw [valV_pos e, b]; exact h2
    · have e' : ¬ q.1 = k := fun z => e (h1.trans z)
      have b : valueAt (q :: qs) k = valueAt qs k := by simp [valueAt, List.find?_cons, e']
      rw [valV_neg e, b]; exact ih
theorem KV.drop {kvs : List (κ × V)} {vs : List (κ × Value)} (r : KV kvs vs) (k : κ) : KV (dropK kvs k) (without vs k) := by
  unfold KV at r ⊢
  unfold dropK without
  induction r with
  | nil => exact .nil
  | @cons p q ps qs h t ih =>
    obtain ⟨h1, h2⟩ := h
    rw [List.filter_cons, List.filter_cons]
    by_cases e : p.1 = k
    · have a : ¬ decide (p.1 ≠ k) = true := by simp [e]
      have b : ¬ decide (q.1 ≠ k) = true := by simp [h1.symm.trans e]
      rw [if_neg a, if_neg b]; exact ih
    · have e' : ¬ q.1 = k := fun z => e (h1.trans z)
      have a : decide (p.1 ≠ k) = true := by simp [e]
      have b : decide (q.1 ≠ k) = true := by simp [e']
      rw [if_pos a, if_pos b]; exact .cons ⟨h1, h2⟩ ih
theorem KV.keys {kvs : List (κ × V)} {vs : List (κ × Value)} (r : KV kvs vs) : kvs.map (·.1) = vs.map (·.1) := by
  unfold KV at r
  induction r with
  | nil => rfl
  | cons h t ih => rw [List.map_cons, List.map_cons, ih, h.1]
end


theorem kV_is {P : Program} {w : World} {k : Key} {u : Value} (r : RelV (kV k) u) : (mixKind P w).is k u = true := by
  cases k with
  | inl i => obtain ⟨t, e⟩ := (show ∃ t, u = Value.int i t from r); subst e; exact mixKind_int P w i t
  | inr x => obtain ⟨t, e⟩ := (show ∃ t, u = Value.str x t from r); subst e; exact mixKind_str P w x t
noncomputable abbrev KT (H : Hp) : List (List Key × V) → List (List Key × Addr × Value) → Prop := Paired fun p q => p.1 = q.1 ∧ H q.2.1 = some (.tup (p.1.map kV)) ∧ RelV p.2 q.2.2
theorem KT.val {H : Hp} {kvs : List (List Key × V)} {xs : List (List Key × Addr × Value)} (r : KT H kvs xs) (k : List Key) : RelO (valV kvs k) ((atKey xs k).map (·.2)) := by
  induction r with
  | nil => exact True.intro
  | @cons p q ps qs h t ih =>
    obtain ⟨h1, _, h2⟩ := h
    by_cases e : p.1 = k
    · have e' : q.1 = k := h1.symm.trans e
      have b : atKey (q :: qs) k = some q.2 := by simp [atKey, List.find?_cons, e']
      rw [valV_pos e, b]; exact h2
    · have e' : ¬ q.1 = k := fun z => e (h1.trans z)
      have b : atKey (q :: qs) k = atKey qs k := by simp [atKey, List.find?_cons, e']
      rw [valV_neg e, b]; exact ih
theorem KT.keeps {H H' : Hp} {kvs : List (List Key × V)} {xs : List (List Key × Addr × Value)} (r : KT H kvs xs) (ht : ∀ b ys, H b = some (.tup ys) → H' b = some (.tup ys)) : KT H' kvs xs :=
  Paired.mapP r fun _ _ z => ⟨z.1, ht _ _ z.2.1, z.2.2⟩

section
variable {P : Program} {w : World} {H : Hp} {h : Heap} {a : Addr}
theorem rd_of {u : HO} (ok : HOk P w H h) (e : Rd H a u) : ObjOk P w H h a u := e.ok ok
theorem dk_rd {kvs : List (Key × V)} (ok : HOk P w H h) (e : Rd H a (.dK kvs)) : kvs.length ≤ sizeLine ∧ (a == sysModules) = false ∧ ∃ vs, KV kvs vs ∧ h.DictOf (mixKind P w) a vs :=
  show ObjOk P w H h a (.dK kvs) from rd_of ok e
theorem dk_of {kvs : List (Key × V)} (ok : HOk P w H h) (e : H a = some (.dK kvs)) : kvs.length ≤ sizeLine ∧ (a == sysModules) = false ∧ ∃ vs, KV kvs vs ∧ h.DictOf (mixKind P w) a vs := dk_rd ok (.inl e)
end

noncomputable def DGet (H : Hp) (a : Addr) (y : V) (r : Option V) : Prop :=
  (∃ kvs k, Rd H a (.dK kvs) ∧ y = kV k ∧ r = valV kvs k) ∨ ∃ kvs k b, Rd H a (.dT kvs) ∧ y = .ref b ∧ H b = some (.tup (k.map kV)) ∧ r = valV kvs k
noncomputable def DPut (H : Hp) (a : Addr) (y v : V) (H' : Hp) : Prop :=
  (∃ kvs k, H a = some (.dK kvs) ∧ y = kV k ∧ kvs.length < sizeLine ∧ H' = upd H a (.dK (putK kvs k v))) ∨
  ∃ kvs k b, H a = some (.dT kvs) ∧ y = .ref b ∧ H b = some (.tup (k.map kV)) ∧ kvs.length < sizeLine ∧ H' = upd H a (.dT (putK kvs k v))
theorem DGet.k {H : Hp} {a : Addr} {kvs : List (Key × V)} {k : Key} (e : H a = some (.dK kvs)) : DGet H a (kV k) (valV kvs k) := .inl ⟨kvs, k, .inl e, rfl, rfl⟩
theorem DGet.t {H : Hp} {a b : Addr} {kvs : List (List Key × V)} {k : List Key} (e : H a = some (.dT kvs)) (eb : H b = some (.tup (k.map kV))) : DGet H a (.ref b) (valV kvs k) := .inr ⟨kvs, k, b, .inl e, rfl, eb, rfl⟩
theorem DPut.k {H : Hp} {a : Addr} {kvs : List (Key × V)} {k : Key} {v : V} (e : H a = some (.dK kvs)) (hl : kvs.length < sizeLine) : DPut H a (kV k) v (upd H a (.dK (putK kvs k v))) := .inl ⟨kvs, k, e, rfl, hl, rfl⟩
theorem DPut.t {H : Hp} {a b : Addr} {kvs : List (List Key × V)} {k : List Key} {v : V} (e : H a = some (.dT kvs)) (eb : H b = some (.tup (k.map kV))) (hl : kvs.length < sizeLine) :
    DPut H a (.ref b) v (upd H a (.dT (putK kvs k v))) := .inr ⟨kvs, k, b, e, rfl, eb, hl, rfl⟩


section
variable {X : Cx} {pins : List (Addr × Obj)} {σ : St} {H : Hp} {s : Shared} {a : Addr} {y v : V} {u r : Value} {o : Option V} {A : Around} {E : Value → Shared → Prop}

theorem Inv.big (I : Inv X pins σ H s) : sysModules < s.heap.objs.size := by
  have h : mainGlobals < s.heap.objs.size := (I.mod.glob.keeps I.bk).lt
  exact Nat.lt_trans (by decide) h

theorem d_write {h' : Heap} {t' : Nat} {ob : HO} (I : Inv X pins σ H s) (mu : Mut (H a)) (hs : Heap.SameBut a s.heap h') (he : ∃ q, h'.get? a = some q) (new : ObjOk X.prog X.w (upd H a ob) h' a ob) :
    Inv X pins σ (upd H a ob) { s with heap := h', toks := t' } :=
  I.write (x := a) (e := a) mu (.inl rfl) (fun b q hb z => (hs.2 b hb).trans z) he new
theorem dk_new {P : Program} {w : World} {H' : Hp} {h' : Heap} {kvs : List (Key × V)} {vs : List (Key × Value)} (z : kvs.length ≤ sizeLine) (hd : (a == sysModules) = false) (rel : KV kvs vs) (dd : h'.DictOf (mixKind P w) a vs) :
    ObjOk P w H' h' a (.dK kvs) := ⟨z, hd, vs, rel, dd⟩
end

section
variable {X : Cx} {pins : List (Addr × Obj)} {σ : St} {H : Hp} {s : Shared} {a : Addr} {kvs : List (Key × V)} {k : Key} {u : Value} {A : Around} {E : Value → Shared → Prop}
end


noncomputable def tDGet (td ty : TE) : TE := fun σ H Q => td σ H fun x H1 => ty σ H1 fun y H2 => ∃ a v, x = .ref a ∧ DGet H2 a y (some v) ∧ Q v H2
noncomputable def tDIn (ty td : TE) : TE := fun σ H Q => ty σ H fun y H1 => td σ H1 fun x H2 => ∃ a o, x = .ref a ∧ DGet H2 a y o ∧ Q (.bl o.isSome) H2
noncomputable def tDNotIn (ty td : TE) : TE := fun σ H Q => ty σ H fun y H1 => td σ H1 fun x H2 => ∃ a o, x = .ref a ∧ DGet H2 a y o ∧ Q (.bl (!o.isSome)) H2
noncomputable def sDPut (td ty tv : TE) : TS := fun D σ H => tv σ H fun v H1 => td σ H1 fun x H2 => ty σ H2 fun y H3 => ∃ a H4, x = .ref a ∧ DPut H3 a y v H4 ∧ D.nx σ H4
noncomputable def sDDel (td ty : TE) : TS := fun D σ H => td σ H fun x H1 => ty σ H1 fun y H2 => ∃ a kvs k, x = .ref a ∧ H2 a = some (.dK kvs) ∧ y = kV k ∧ (valV kvs k).isSome = true ∧ D.nx σ (upd H2 a (.dK (dropK kvs k)))

section
variable {X : Cx} {o i e value : Expr} {pos pos' tpos : Pos} {td ty tv : TE}
end


theorem dk_empty {P : Program} {w : World} {H : Hp} (h : Heap) (hb : sysModules < h.objs.size) : ObjOk P w H (h.push { cls := .type "dict", data := .dict #[] }) h.objs.size (.dK []) :=
  ⟨Nat.zero_le _, beq_eq_false_iff_ne.mpr (Ne.symm (Nat.ne_of_lt hb)), [], .nil, Heap.DictOf.new h⟩
noncomputable def tDNewK : TE := fun _ H Q => ∀ p, H p = none → Q (.ref p) (upd H p (.dK []))
section
variable {X : Cx} {pos : Pos}
theorem pe_dnewK : PE X (.Dict [] [] pos) tDNewK := fun pins s σ H Q I h =>
  wpAny_Dict_empty ⟨.ref s.heap.objs.size, _, I.laid (a := s.heap.objs.size) (o := .dK []) (t' := s.toks) (fun _ _ q => Heap.get?_push_of_some _ q) (Nat.le_refl _) (dk_empty s.heap I.big), rfl, h _ (I.hok.fresh (Nat.le_refl _))⟩
end

structure M1 (X : Cx) (o : Expr) (m : Str) (apos : Pos) (e : Expr) (cpos : Pos) : Prop where
  base : attributeBase o m X.env (eval o X.env) = eval o X.env
  few : ((backTo cpos (starEach [e] X.env)).all (fun x => !x.1) && (backToKw cpos (keywordEach [] X.env)).all (fun x => x.1.isSome)
    && decide (([e] : List Expr).length + ([] : List Keyword).length + (if ([] : List Keyword).isEmpty then 0 else 1) < 30)) = true
  line : (apos.endLine == cpos.line) = true
  trees : backTo cpos (starEach [e] X.env) = [(false, eval e X.env)]
structure M2 (X : Cx) (o : Expr) (m : Str) (apos : Pos) (e f : Expr) (cpos : Pos) : Prop where
  base : attributeBase o m X.env (eval o X.env) = eval o X.env
  few : ((backTo cpos (starEach [e, f] X.env)).all (fun x => !x.1) && (backToKw cpos (keywordEach [] X.env)).all (fun x => x.1.isSome)
    && decide (([e, f] : List Expr).length + ([] : List Keyword).length + (if ([] : List Keyword).isEmpty then 0 else 1) < 30)) = true
  line : (apos.endLine == cpos.line) = true
  trees : backTo cpos (starEach [e, f] X.env) = [(false, eval e X.env), (false, eval f X.env)]

noncomputable def IsD (H : Hp) (a : Addr) : Prop := (∃ kvs, Rd H a (.dK kvs)) ∨ ∃ kvs, Rd H a (.dT kvs)
section
variable {X : Cx} {pins : List (Addr × Obj)} {σ : St} {H : Hp} {s : Shared} {a : Addr} {y d : V} {u r : Value} {o : Option V} {A : Around} {E : Value → Shared → Prop}
end

noncomputable def tDGet1 (td ty : TE) : TE := fun σ H Q => td σ H fun x H1 => ∃ a, x = .ref a ∧ IsD H1 a ∧ ty σ H1 fun y H2 => ∃ o, DGet H2 a y o ∧ Q (o.getD .non) H2
noncomputable def tDGet2 (td ty tx : TE) : TE := fun σ H Q => td σ H fun x H1 => ∃ a, x = .ref a ∧ IsD H1 a ∧ ty σ H1 fun y H2 => tx σ H2 fun z H3 => ∃ o, DGet H3 a y o ∧ Q (o.getD z) H3
section
variable {X : Cx} {o e f : Expr} {apos cpos : Pos} {td ty tx : TE}
end

section
variable {X : Cx} {pins : List (Addr × Obj)} {σ : St} {H : Hp} {s : Shared} {a : Addr} {kvs : List (Key × V)} {A : Around} {E : Value → Shared → Prop}
end


section
variable {X : Cx} {pins : List (Addr × Obj)} {σ : St} {H : Hp} {s : Shared} {a : Addr} {y : V} {u : Value} {A : Around} {E : Value → Shared → Prop}
end
section
variable {X : Cx}
end
section
variable {κ : Type} [DecidableEq κ]
end
end L2

namespace Zt
open PySem PySem.Spec

structure Src (i : Addr) (fp : List Addr) (S : Nat → Heap → Prop) (nth : Nat → Option Value) : Prop where
  mem : i ∈ fp
  stay : ∀ k h h', S k h → (∀ b ∈ fp, ∀ o, h.get? b = some o → h'.get? b = some o) → S k h'
  obj : ∀ k h, S k h → ∃ o, h.get? i = some o ∧ ∀ v, o.data ≠ .cell v
  item : ∀ {prog : Program} {w : World} {A : Around} {E : Value → Shared → Prop} {s : Shared} {Q : Value → Shared → Prop} {k : Nat} {x : Value}, S k s.heap → nth k = some x →
    (∀ h', S (k + 1) h' → Heap.SameBut i s.heap h' → Q x { s with heap := h' }) → wpAny (model prog w) A (Builtin.SmallTypes.nextOf (.ref i)) Q E s
  fin : ∀ {prog : Program} {w : World} {A : Around} {E : Value → Shared → Prop} {s : Shared} {Q : Value → Shared → Prop} {k : Nat}, A.handled = none → S k s.heap → nth k = none →
    (∀ h' e, Heap.ExtBut i s.heap h' → (∃ o, h'.get? e = some o ∧ o.cls = .type "StopIteration") → E (.ref e) { s with heap := h' }) → wpAny (model prog w) A (Builtin.SmallTypes.nextOf (.ref i)) Q E s

theorem srcT (i t : Addr) (hne : t ≠ i) (its : Array Value) : Src i [i, t] (fun k h => h.IsTupleIter i t k ∧ h.IsTuple t its) (fun k => its[k]?) where
  mem := List.mem_cons_self
  stay := by
    rintro k h h' ⟨⟨o, e, r⟩, ⟨o2, e2, r2⟩⟩ hk
    exact ⟨⟨o, hk i (by simp) o e, r⟩, ⟨o2, hk t (by simp) o2 e2, r2⟩⟩
  obj := by
    rintro k h ⟨⟨o, e, c, d⟩, _⟩
    exact ⟨o, e, fun v z => by rw [d] at z; cases z⟩
  item := by
    rintro prog w A E s Q k x ⟨hit, ht⟩ hx hQ
    obtain ⟨o, ho, hc, hd⟩ := id hit; obtain ⟨ol, hol, hlc, nl, hdl⟩ := id ht
    unfold Builtin.SmallTypes.nextOf
    refine wpAny_bind (wpAny_callSpecial?_slot (name := Str.ofString "__next__") hit.typeIs F.slot_tuple_iterator_next (wpAny_call_entry F.slot_tuple_iterator_next hit.typeIs F.entry_tuple_iterator_next ?_ (F.args_tuple_iterator_next_1 _)))
    show wpAny _ _ (field (.ref i) 0 >>= _) _ _ s; refine wpAny_bind (wpAny_field ho hd (x := .ref t) rfl ?_)
    show wpAny _ _ (if (Value.ref t == Value.none) = true then _ else _) _ _ s; rw [if_neg (show ¬ ((Value.ref t == Value.none) = true) from Bool.false_ne_true)]
    show wpAny _ _ (field (.ref i) 1 >>= _) _ _ s; refine wpAny_bind (wpAny_field ho hd (x := .int k 0) rfl ?_)
    show wpAny _ _ (seqItems? (.ref t) >>= _) _ _ s; refine wpAny_bind (wpAny_seqItems hol hdl ?_)
    simp only [Int.toNat_natCast, hx]
    refine wpAny_bind (wpAny_setField ho hd (by simp) (wpAny_pure ⟨x, rfl, wpAny_pure (hQ _ ⟨?_, ht.extBut (Heap.SameBut.update ..).extBut hne⟩ (Heap.SameBut.update ..))⟩))
    refine ⟨_, Heap.get?_update_self _ ho (Obj.isFreed_of_fields (Obj.data_mapFields hd _)), (Obj.cls_mapFields ..).trans hc, ?_⟩
    rw [Obj.data_mapFields hd]; simp [rawInt]
  fin := by
    rintro prog w A E s Q k hh ⟨hit, ht⟩ hx hE
    obtain ⟨o, ho, hc, hd⟩ := id hit; obtain ⟨ol, hol, hlc, nl, hdl⟩ := id ht
    unfold Builtin.SmallTypes.nextOf
    refine wpAny_bind (wpAny_callSpecial?_slot (name := Str.ofString "__next__") hit.typeIs F.slot_tuple_iterator_next (wpAny_call_entry F.slot_tuple_iterator_next hit.typeIs F.entry_tuple_iterator_next ?_ (F.args_tuple_iterator_next_1 _)))
    show wpAny _ _ (field (.ref i) 0 >>= _) _ _ s; refine wpAny_bind (wpAny_field ho hd (x := .ref t) rfl ?_)
    show wpAny _ _ (if (Value.ref t == Value.none) = true then _ else _) _ _ s; rw [if_neg (show ¬ ((Value.ref t == Value.none) = true) from Bool.false_ne_true)]
    show wpAny _ _ (field (.ref i) 1 >>= _) _ _ s; refine wpAny_bind (wpAny_field ho hd (x := .int k 0) rfl ?_)
    show wpAny _ _ (seqItems? (.ref t) >>= _) _ _ s; refine wpAny_bind (wpAny_seqItems hol hdl ?_)
    simp only [Int.toNat_natCast, hx]
    refine wpAny_bind (wpAny_rule (wpAny_bind (wpAny_setField ho hd (by simp) ?_))); show wpAny _ _ (newExc (.type "StopIteration") [] >>= _) _ _ _
    refine wpAny_bind ?_; simp only [newExc, newTuple]; refine wpAny_bind (wpAny_newObj_type ?_ (by size_fits))
    refine wpAny_bind (m := firstArgMember _ _) (wpAny_of_eq (a := Value.none) (by first | rfl | (simp only [firstArgMember]; rfl)) ?_); refine wpAny_newObj_type ?_ (by size_fits)
    simp only [raiseNew]; refine wpAny_bind (wpAny_handled ?_); first | rw [show A.in1.handled = none from hh] | rw [hh]
    refine wpAny_bind (wpAny_pure (wpAny_throw ?_)); exact hE _ _ (((Heap.SameBut.update ..).extBut.push _).push _) ⟨_, Heap.get?_push_size _ rfl, rfl⟩

structure Apart (z TI TO i1 i2 : Addr) (f1 f2 : List Addr) : Prop where
  TIz : TI ≠ z
  TOz : TO ≠ z
  i1z : i1 ≠ z
  i2z : i2 ≠ z
  TITO : TI ≠ TO
  TIi1 : TI ≠ i1
  TIi2 : TI ≠ i2
  TOi1 : TO ≠ i1
  TOi2 : TO ≠ i2
  i12 : i1 ≠ i2
  z1 : z ∉ f1
  z2 : z ∉ f2
  o1 : TO ∉ f1
  o2 : TO ∉ f2
  c12 : i1 ∉ f2
  c21 : i2 ∉ f1

section
variable {prog : Program} {w : World} {A : Around} {E : Value → Shared → Prop} {s : Shared} {z TI TO i1 i2 : Addr} {f1 f2 : List Addr} {S1 S2 : Nat → Heap → Prop} {n1 n2 : Nat → Option Value} {k1 k2 : Nat} {a b : Value}
theorem Src.but {i : Addr} {fp : List Addr} {S : Nat → Heap → Prop} {nth : Nat → Option Value} (R : Src i fp S nth) {k : Nat} {h h' : Heap} {c : Addr} (st : S k h) (e : Heap.ExtBut c h h') (hc : c ∉ fp) : S k h' :=
  R.stay k h h' st fun b hb o q => e b o (fun z => hc (z ▸ hb)) q

theorem next_item {x y : Value} {Q : Value → Shared → Prop} (R1 : Src i1 f1 S1 n1) (R2 : Src i2 f2 S2 n2) (D : Apart z TI TO i1 i2 f1 f2)
    (hz : IsZip s.heap z TI TO .none) (hTI : IsPair s.heap TI (.ref i1) (.ref i2)) (hTO : IsPair s.heap TO a b) (h1 : S1 k1 s.heap) (h2 : S2 k2 s.heap) (hx : n1 k1 = some x) (hy : n2 k2 = some y)
    (hQ : ∀ h', IsZip h' z TI TO (rawInt s.heap.objs.size) → IsPair h' TO x y → S1 (k1 + 1) h' → S2 (k2 + 1) h' → IsPair h' s.heap.objs.size x y →
      (∀ c o, c ≠ z → c ≠ TO → c ≠ i1 → c ≠ i2 → s.heap.get? c = some o → h'.get? c = some o) → Q (.ref s.heap.objs.size) { s with heap := h' }) :
    wpAny (model prog w) A (Builtin.«zip.__next__» ⟨[.ref z], []⟩) (fun fin s' => ∃ v, fin = .done (.ret v) ∧ Q v s') E s := by
  show wpAny _ _ (field (.ref z) 2 >>= _) _ _ _; refine wpAny_bind (wpAny_field hz rfl (x := .bool false) rfl ?_)
  show wpAny _ _ (field (.ref z) 3 >>= _) _ _ _; refine wpAny_bind (wpAny_field hz rfl (x := .ref TI) rfl ?_); refine wpAny_bind (wpAny_seqItems hTI rfl ?_)
  show wpAny _ _ (Builtin.SmallTypes.ownedTupleIsFree (.ref z) >>= _) _ _ _; refine wpAny_bind ?_; unfold Builtin.SmallTypes.ownedTupleIsFree
  refine wpAny_bind (wpAny_field hz rfl (x := .none) rfl (wpAny_pure ?_)); simp only [if_true]; refine wpAny_bind (wpAny_rule ?_)
  refine wpAny_bind (wpAny_field hz rfl (x := .ref TO) rfl ?_); refine wpAny_bind (wpAny_setField_rec hz (by simp) fun h₁ hz₁ hs₁ => ?_)
  replace hz₁ : IsZip h₁ z TI TO .ellipsis := hz₁
  refine wpAny_bind ?_; simp only [List.zipIdx_cons, List.zipIdx_nil, List.forIn_cons, List.forIn_nil]
  refine wpAny_bind (wpAny_bind (wpAny_onRaise ?_)); show wpAny _ _ (Builtin.SmallTypes.nextOf (.ref i1) >>= _) _ _ _
  refine wpAny_bind (R1.item (R1.but h1 hs₁.extBut D.z1) hx fun h₂ g1 hs₂ => wpAny_pure ?_)
  have t2 : IsPair h₂ TO a b := hs₂.extBut _ _ D.TOi1 (hs₁.extBut _ _ D.TOz hTO)
  refine wpAny_bind (wpAny_seqItems t2 rfl ?_); refine wpAny_bind (wpAny_updateSeq_pair t2 fun h₃ t3 hs₃ => ?_)
  replace t3 : IsPair h₃ TO x b := t3
  refine wpAny_bind (wpAny_letGo (wpAny_pure ?_)); refine wpAny_bind (wpAny_bind (wpAny_onRaise ?_)); show wpAny _ _ (Builtin.SmallTypes.nextOf (.ref i2) >>= _) _ _ _
  refine wpAny_bind (R2.item (R2.but (R2.but (R2.but h2 hs₁.extBut D.z2) hs₂.extBut D.c12) hs₃.extBut D.o2) hy fun h₄ g2 hs₄ => wpAny_pure ?_)
  have t4 : IsPair h₄ TO x b := hs₄.extBut _ _ D.TOi2 t3
  refine wpAny_bind (wpAny_seqItems t4 rfl ?_); refine wpAny_bind (wpAny_updateSeq_pair t4 fun h₅ t5 hs₅ => ?_)
  replace t5 : IsPair h₅ TO x y := t5
  refine wpAny_bind (wpAny_letGo (wpAny_pure (wpAny_pure ?_))); refine wpAny_bind (wpAny_seqItems t5 rfl ?_); refine wpAny_bind (wpAny_newTuple ?_)
  have hsz : h₅.objs.size = s.heap.objs.size := by rw [hs₅.1, hs₄.1, hs₃.1, hs₂.1, hs₁.1]
  have z5 : IsZip h₅ z TI TO .ellipsis := hs₅.extBut _ _ D.TOz.symm (hs₄.extBut _ _ D.i2z.symm (hs₃.extBut _ _ D.TOz.symm (hs₂.extBut _ _ D.i1z.symm hz₁)))
  have k5 : ∀ c o, c ≠ z → c ≠ TO → c ≠ i1 → c ≠ i2 → s.heap.get? c = some o → h₅.get? c = some o := fun c o c1 c2 c3 c4 e =>
    hs₅.extBut _ _ c2 (hs₄.extBut _ _ c4 (hs₃.extBut _ _ c2 (hs₂.extBut _ _ c3 (hs₁.extBut _ _ c1 e))))
  have e1 : S1 (k1 + 1) h₅ := R1.but (R1.but (R1.but g1 hs₃.extBut D.o1) hs₄.extBut D.c21) hs₅.extBut D.o1
  have e2 : S2 (k2 + 1) h₅ := R2.but g2 hs₅.extBut D.o2
  have lz : z < h₅.objs.size := Heap.lt_size z5
  show wpAny _ _ (Builtin.SmallTypes.ownedTupleHandOut (.ref z) (.ref h₅.objs.size) >>= _) _ _ _; refine wpAny_bind ?_; unfold Builtin.SmallTypes.ownedTupleHandOut
  have z6 : IsZip (h₅.push { cls := .type "tuple", data := .seq #[x, y] }) z TI TO .ellipsis := Heap.get?_push_of_some _ z5
  refine wpAny_bind (wpAny_setField_rec z6 (by simp) fun h₇ z7 hs₇ => ?_)
  replace z7 : IsZip h₇ z TI TO (rawInt h₅.objs.size) := z7
  refine wpAny_setField_rec z7 (by simp) fun h₈ z8 hs₈ => ?_
  replace z8 : IsZip h₈ z TI TO (rawInt h₅.objs.size) := z8
  have up : ∀ c o, c ≠ z → h₅.get? c = some o → h₈.get? c = some o := fun c o c1 e => hs₈.extBut _ _ c1 (hs₇.extBut _ _ c1 (Heap.get?_push_of_some _ e))
  have t8 : IsPair h₈ h₅.objs.size x y := hs₈.extBut _ _ (Nat.ne_of_gt lz) (hs₇.extBut _ _ (Nat.ne_of_gt lz) (Heap.get?_push_size _ rfl))
  rw [hsz] at z8 t8
  refine wpAny_pure ⟨_, rfl, ?_⟩; show Q (.ref h₅.objs.size) _; rw [hsz]
  exact hQ h₈ z8 (up _ _ D.TOz t5) (R1.stay _ _ _ e1 fun c hc o e => up c o (fun q => D.z1 (q ▸ hc)) e) (R2.stay _ _ _ e2 fun c hc o e => up c o (fun q => D.z2 (q ▸ hc)) e) t8 fun c o c1 c2 c3 c4 e => up c o c1 (k5 c o c1 c2 c3 c4 e)

theorem next_end {Q : Fin → Shared → Prop} (hh : A.handled = none) (R1 : Src i1 f1 S1 n1) (R2 : Src i2 f2 S2 n2) (D : Apart z TI TO i1 i2 f1 f2)
    (hz : IsZip s.heap z TI TO .none) (hTI : IsPair s.heap TI (.ref i1) (.ref i2)) (hTO : IsPair s.heap TO a b) (h1 : S1 k1 s.heap) (h2 : S2 k2 s.heap) (hend : n1 k1 = none ∨ n2 k2 = none)
    (hE : ∀ h' e, (∀ c o, c ≠ z → c ≠ TO → c ≠ i1 → c ≠ i2 → s.heap.get? c = some o → h'.get? c = some o) → (∃ o, h'.get? e = some o ∧ o.cls = .type "StopIteration") → E (.ref e) { s with heap := h' }) :
    wpAny (model prog w) A (Builtin.«zip.__next__» ⟨[.ref z], []⟩) Q E s := by
  show wpAny _ _ (field (.ref z) 2 >>= _) _ _ _; refine wpAny_bind (wpAny_field hz rfl (x := .bool false) rfl ?_)
  show wpAny _ _ (field (.ref z) 3 >>= _) _ _ _; refine wpAny_bind (wpAny_field hz rfl (x := .ref TI) rfl ?_); refine wpAny_bind (wpAny_seqItems hTI rfl ?_)
  show wpAny _ _ (Builtin.SmallTypes.ownedTupleIsFree (.ref z) >>= _) _ _ _; refine wpAny_bind ?_; unfold Builtin.SmallTypes.ownedTupleIsFree
  refine wpAny_bind (wpAny_field hz rfl (x := .none) rfl (wpAny_pure ?_)); simp only [if_true]; refine wpAny_bind (wpAny_rule ?_)
  refine wpAny_bind (wpAny_field hz rfl (x := .ref TO) rfl ?_); refine wpAny_bind (wpAny_setField_rec hz (by simp) fun h₁ hz₁ hs₁ => ?_)
  replace hz₁ : IsZip h₁ z TI TO .ellipsis := hz₁
  refine wpAny_bind ?_; simp only [List.zipIdx_cons, List.zipIdx_nil, List.forIn_cons, List.forIn_nil]
  refine wpAny_bind (wpAny_bind (wpAny_onRaise ?_)); show wpAny _ _ (Builtin.SmallTypes.nextOf (.ref i1) >>= _) _ _ _
  cases hx : n1 k1 with
  | none =>
    refine wpAny_bind (R1.fin hh (R1.but h1 hs₁.extBut D.z1) hx fun h₂ e hs₂ he => ?_)
    obtain ⟨oe, hoe, hce⟩ := he
    have hz₂ : IsZip h₂ z TI TO .ellipsis := hs₂ _ _ D.i1z.symm hz₁
    have hez : e ≠ z := fun x => by subst x; rw [hz₂] at hoe; cases hoe; simp at hce
    exact wpAny_setField_rec hz₂ (by simp) fun h₃ _ hs₃ => hE h₃ e (fun c o c1 _ c3 _ x => hs₃.extBut _ _ c1 (hs₂ _ _ c3 (hs₁.extBut _ _ c1 x))) ⟨oe, hs₃.extBut _ _ hez hoe, hce⟩
  | some x =>
    have hy : n2 k2 = none := by
      rcases hend with h | h
      · rw [hx] at h; cases h
      · exact h
    refine wpAny_bind (R1.item (R1.but h1 hs₁.extBut D.z1) hx fun h₂ g1 hs₂ => wpAny_pure ?_)
    have t2 : IsPair h₂ TO a b := hs₂.extBut _ _ D.TOi1 (hs₁.extBut _ _ D.TOz hTO)
    refine wpAny_bind (wpAny_seqItems t2 rfl ?_); refine wpAny_bind (wpAny_updateSeq_pair t2 fun h₃ t3 hs₃ => ?_)
    refine wpAny_bind (wpAny_letGo (wpAny_pure ?_)); refine wpAny_bind (wpAny_bind (wpAny_onRaise ?_)); show wpAny _ _ (Builtin.SmallTypes.nextOf (.ref i2) >>= _) _ _ _
    refine wpAny_bind (R2.fin hh (R2.but (R2.but (R2.but h2 hs₁.extBut D.z2) hs₂.extBut D.c12) hs₃.extBut D.o2) hy fun h₄ e hs₄ he => ?_)
    obtain ⟨oe, hoe, hce⟩ := he
    have hz₄ : IsZip h₄ z TI TO .ellipsis := hs₄ _ _ D.i2z.symm (hs₃.extBut _ _ D.TOz.symm (hs₂.extBut _ _ D.i1z.symm hz₁))
    have hez : e ≠ z := fun x => by subst x; rw [hz₄] at hoe; cases hoe; simp at hce
    exact wpAny_setField_rec hz₄ (by simp) fun h₅ _ hs₅ => hE h₅ e (fun c o c1 c2 c3 c4 x => hs₅.extBut _ _ c1 (hs₄ _ _ c4 (hs₃.extBut _ _ c2 (hs₂.extBut _ _ c3 (hs₁.extBut _ _ c1 x))))) ⟨oe, hs₅.extBut _ _ hez hoe, hce⟩

theorem py_item {x y : Value} {Q : Option Value → Shared → Prop} (R1 : Src i1 f1 S1 n1) (R2 : Src i2 f2 S2 n2) (D : Apart z TI TO i1 i2 f1 f2)
    (hz : IsZip s.heap z TI TO .none) (hTI : IsPair s.heap TI (.ref i1) (.ref i2)) (hTO : IsPair s.heap TO a b) (h1 : S1 k1 s.heap) (h2 : S2 k2 s.heap) (hx : n1 k1 = some x) (hy : n2 k2 = some y)
    (hQ : ∀ h', IsZip h' z TI TO (rawInt s.heap.objs.size) → IsPair h' TO x y → S1 (k1 + 1) h' → S2 (k2 + 1) h' → IsPair h' s.heap.objs.size x y →
      (∀ c o, c ≠ z → c ≠ TO → c ≠ i1 → c ≠ i2 → s.heap.get? c = some o → h'.get? c = some o) → Q (some (.ref s.heap.objs.size)) { s with heap := h' }) :
    wpAny (model prog w) A (pyNext (.ref z)) Q E s := by
  have hT : s.TypeIs (.ref z) "zip" := ⟨_, hz, rfl⟩
  unfold pyNext
  exact wpAny_bind (wpAny_attempt (wpAny_callSpecial?_slot (name := Str.ofString "__next__") hT F.slot_zip_next (wpAny_call_entry F.slot_zip_next hT F.entry_zip_next
      (next_item R1 R2 D hz hTI hTO h1 h2 hx hy fun h' a1 a2 a3 a4 a5 a7 => wpAny_pure (hQ h' a1 a2 a3 a4 a5 a7)) (F.args_zip_next_1 _))))
theorem py_end {Q : Option Value → Shared → Prop} (hh : A.handled = none) (R1 : Src i1 f1 S1 n1) (R2 : Src i2 f2 S2 n2) (D : Apart z TI TO i1 i2 f1 f2)
    (hz : IsZip s.heap z TI TO .none) (hTI : IsPair s.heap TI (.ref i1) (.ref i2)) (hTO : IsPair s.heap TO a b) (h1 : S1 k1 s.heap) (h2 : S2 k2 s.heap) (hend : n1 k1 = none ∨ n2 k2 = none)
    (hQ : ∀ h', (∀ c o, c ≠ z → c ≠ TO → c ≠ i1 → c ≠ i2 → s.heap.get? c = some o → h'.get? c = some o) → Q none { s with heap := h' }) : wpAny (model prog w) A (pyNext (.ref z)) Q E s := by
  have hT : s.TypeIs (.ref z) "zip" := ⟨_, hz, rfl⟩
  unfold pyNext
  refine wpAny_bind (wpAny_attempt (wpAny_callSpecial?_slot (name := Str.ofString "__next__") hT F.slot_zip_next
    (wpAny_call_entry F.slot_zip_next hT F.entry_zip_next (next_end hh R1 R2 D hz hTI hTO h1 h2 hend fun h' e hk he => ?_) (F.args_zip_next_1 _))))
  obtain ⟨o, ho, hc⟩ := he
  exact wpAny_bind (wpAny_isInstance (T := "StopIteration") (b := true) ⟨o, ho, hc⟩ isSubtype_stop (wpAny_pure (hQ _ hk)))
end

noncomputable abbrev g1 (h : Heap) (l1 : Addr) : Heap := h.push { cls := .type "tuple_iterator", data := .fields #[.ref l1, .int 0 0] }
noncomputable abbrev g2 (h : Heap) (l1 l2 : Addr) : Heap := (g1 h l1).push { cls := .type "tuple_iterator", data := .fields #[.ref l2, .int 0 0] }
noncomputable abbrev g3 (h : Heap) (l1 l2 : Addr) : Heap := (g2 h l1 l2).push { cls := .type "tuple", data := .seq #[.ref h.objs.size, .ref (g1 h l1).objs.size] }
noncomputable abbrev g4 (h : Heap) (l1 l2 : Addr) : Heap := (g3 h l1 l2).push { cls := .type "tuple", data := .seq #[.none, .none] }
noncomputable abbrev g5 (h : Heap) (l1 l2 : Addr) : Heap := (g4 h l1 l2).push { cls := .type "zip", data := .fields #[.none, .bool false, .bool false, .ref (g2 h l1 l2).objs.size, .ref (g3 h l1 l2).objs.size] }

theorem meets_new (l1 l2 : Addr) (xs ys : Array Value) :
    Meets (Builtin.«zip.__new__» ⟨[.type "zip", .ref l1, .ref l2], []⟩) (fun _ R s => s.heap.IsTuple l1 xs ∧ s.heap.IsTuple l2 ys ∧
      R (.ok (.ret (.ref (g4 s.heap l1 l2).objs.size))) { s with heap := g5 s.heap l1 l2 }) :=
  .of_wp fun prog w A R s h => by
    obtain ⟨hp, g, d, tk, os⟩ := s; obtain ⟨hl1, hl2, h⟩ := h
    have hsub := sub_zip
    have hL1 : Heap.IsTuple (Shared.heap ⟨hp, g, d, tk, os⟩) l1 xs := hl1
    have hL2 : Heap.IsTuple (Shared.heap ⟨hp.push { cls := .type "tuple_iterator", data := .fields #[.ref l1, .int 0 0] }, g, d, tk, os⟩) l2 ys := Heap.IsTuple.push hl2 _
    wp_walk using wpAny_pyIter_tuple hL1, wpAny_pyIter_tuple hL2
    exact ⟨_, rfl, h⟩

theorem call_zip {prog : Program} {w : World} {A : Around} {E : Value → Shared → Prop} {s : Shared} {l1 l2 : Addr} {xs ys : Array Value} {Q : Value → Shared → Prop} (hl1 : s.heap.IsTuple l1 xs) (hl2 : s.heap.IsTuple l2 ys)
    (h : ∀ h', IsZip h' (s.heap.objs.size + 4) (s.heap.objs.size + 2) (s.heap.objs.size + 3) .none → IsPair h' (s.heap.objs.size + 2) (.ref s.heap.objs.size) (.ref (s.heap.objs.size + 1)) →
      IsPair h' (s.heap.objs.size + 3) .none .none → h'.IsTupleIter s.heap.objs.size l1 0 → h'.IsTupleIter (s.heap.objs.size + 1) l2 0 →
      (∀ c o, s.heap.get? c = some o → h'.get? c = some o) → Q (.ref (s.heap.objs.size + 4)) { s with heap := h' }) :
    wpAny (model prog w) A (call (.type "zip") [.ref l1, .ref l2]) Q E s := by
  refine callType_new F.called_zip (by decide) (F.typeCall_zip_2 _ _) (F.newCall_zip_2 _ _) (fun obj => F.args_object_init_3 obj _ _) F.entry_zip_new (meets_new l1 l2 xs ys) ⟨hl1, hl2, ?_⟩
  have z1 : (g1 s.heap l1).objs.size = s.heap.objs.size + 1 := Heap.size_push ..
  have z2 : (g2 s.heap l1 l2).objs.size = s.heap.objs.size + 2 := by rw [Heap.size_push, z1]
  have z3 : (g3 s.heap l1 l2).objs.size = s.heap.objs.size + 3 := by rw [Heap.size_push, z2]
  have z4 : (g4 s.heap l1 l2).objs.size = s.heap.objs.size + 4 := by rw [Heap.size_push, z3]
  have q5 : (g5 s.heap l1 l2).get? (g4 s.heap l1 l2).objs.size = some _ := Heap.get?_push_size _ rfl
  have q4 : (g5 s.heap l1 l2).get? (g3 s.heap l1 l2).objs.size = some _ := Heap.get?_push_of_some _ (Heap.get?_push_size _ rfl)
  have q3 : (g5 s.heap l1 l2).get? (g2 s.heap l1 l2).objs.size = some _ := Heap.get?_push_of_some _ (Heap.get?_push_of_some _ (Heap.get?_push_size _ rfl))
  have q2 : (g5 s.heap l1 l2).get? (g1 s.heap l1).objs.size = some _ := Heap.get?_push_of_some _ (Heap.get?_push_of_some _ (Heap.get?_push_of_some _ (Heap.get?_push_size _ rfl)))
  have q1 : (g5 s.heap l1 l2).get? s.heap.objs.size = some _ := Heap.get?_push_of_some _ (Heap.get?_push_of_some _ (Heap.get?_push_of_some _ (Heap.get?_push_of_some _ (Heap.get?_push_size _ rfl))))
  show _ ∧ _
  rw [z2, z3, z4] at q5; rw [z1, z2] at q3; rw [z3] at q4; rw [z1] at q2; rw [z4]
  exact ⟨⟨_, q5, rfl⟩, h _ q5 q3 q4 ⟨_, q1, rfl, rfl⟩ ⟨_, q2, rfl, rfl⟩ fun c o x =>
    Heap.get?_push_of_some _ (Heap.get?_push_of_some _ (Heap.get?_push_of_some _ (Heap.get?_push_of_some _ (Heap.get?_push_of_some _ x))))⟩
end Zt

namespace L2
open PySem PySem.Spec PyProof.Rows
theorem Inv.spun {X : Cx} {pins : List (Addr × Obj)} {σ : St} {H : Hp} {s : Shared} {h' : Heap} {t' : Nat} {ch : List Addr} (I : Inv X pins σ H s) (hch : ∀ b ∈ ch, FpOk X pins H b)
    (k : ∀ b o, b ∉ ch → s.heap.get? b = some o → h'.get? b = some o) : Inv X pins σ H { s with heap := h', toks := t' } := by
  have nit : ∀ b u, H b = some u → b ∉ ch := fun b u e z => by rw [(hch b z).1] at e; cases e
  refine I.step (g' := s.gens) (d' := s.drawn) (ch := ch) (fun b hb => ?_) (fun b o _ _ hc e _ => k b o hc e) (fun b o _ _ hc e _ => ⟨o.slots, k b o hc e⟩) (fun _ _ _ _ n => n)
    (fun b o hc e => ⟨o, k b o hc e⟩) (fun _ _ e => e) (fun _ _ _ e => e) (fun b ps e => ⟨#[], by rw [e]; simp⟩) (fun m hm => ?_) (fun b u e => ?_) I.bare
  · obtain ⟨f0, f1, f2, f3, f4, f5⟩ := hch b hb
    exact ⟨f3, f1, f4, f5⟩
  · obtain ⟨o, es, ep, ho, r⟩ := hm
    exact ⟨o, es, ep, k _ o (fun z => (hch _ z).2.1 rfl) ho, r⟩
  · refine (I.hok b u e).stay (fun c v hc q => k c v ?_ q) (fun _ q => q) fun _ _ q => q
    rcases hc with z | z
    · rw [z]; exact nit b u e
    · exact nit c _ z
theorem Inv.track {X : Cx} {pins : List (Addr × Obj)} {σ : St} {H : Hp} {s s1 : Shared} {a : Addr} {o : HO} (I : Inv X pins σ H s) (J : Inv X pins σ H s1) (ha : s.heap.objs.size ≤ a) (new : ObjOk X.prog X.w (upd H a o) s1.heap a o) :
    Inv X pins σ (upd H a o) s1 := by
  have hn : H a = none := I.hok.fresh ha
  have ne : ∀ b u, s.heap.get? b = some u → b ≠ a := fun b u e => Nat.ne_of_lt (Nat.lt_of_lt_of_le (Heap.lt_size e) ha)
  have h0 : X.s₀.heap.objs.size ≤ a := Nat.le_trans I.sz ha
  have ne0 : ∀ b u, X.s₀.heap.get? b = some u → b ≠ a := fun b u e => Nat.ne_of_lt (Nat.lt_of_lt_of_le (Heap.lt_size e) h0)
  refine ⟨J.ok, J.os, J.bare, ⟨J.base.keep, J.base.slot, fun b u e n hx => ?_, J.base.there, fun b xs e => ?_, fun b u v e => ?_, fun b ps e => ?_⟩, J.loc, J.cell, ?_, fun x c e => ?_, fun p hp => ?_, fun b u e => ?_, J.len⟩
  · rw [upd_ne (ne0 b u e)]; exact J.base.free b u e n hx
  · have q := J.base.tups b xs e
    rw [upd_ne (ne_of_none q hn)]; exact q
  · have q := J.base.frzs b u v e
    rw [upd_ne (ne_of_none q hn)]; exact q
  · obtain ⟨m, q⟩ := J.base.tbls b ps e
    exact ⟨m, by rw [upd_ne (ne_of_none q hn)]; exact q⟩
  · obtain ⟨m, ⟨ob, _, _, e, _⟩, _⟩ := I.loc
    rw [upd_ne (ne _ _ e)]; exact J.free
  · obtain ⟨v, ob, e1, _⟩ := I.cell x c e
    rw [upd_ne (ne _ _ e1)]; exact J.freeC x c e
  · obtain ⟨q1, q2, q3, q4, q5⟩ := J.pin p hp
    exact ⟨q1, by rw [upd_ne (ne _ _ (I.pin p hp).1)]; exact q2, q3, q4, q5⟩
  · by_cases hb : b = a
    · subst hb; rw [upd_same] at e; cases e; exact new
    · rw [upd_ne hb] at e
      exact (J.hok b u e).stay (fun c v _ q => q) (fun c q => by rw [upd_ne (ne_of_none q hn)]; exact q) fun c xs q => by rw [upd_ne (ne_of_none q hn)]; exact q

noncomputable def Itz (K : PySem.W.Frag) (a b : Addr) : It :=
  ⟨fun i H => ∃ xs ys x y, SqT K H a xs ∧ SqT K H b ys ∧ xs[i]? = some x ∧ ys[i]? = some y,
   fun i H v H' => ∃ p x y, H p = none ∧ (∀ xs, SqT K H a xs → xs[i]? = some x) ∧ (∀ ys, SqT K H b ys → ys[i]? = some y) ∧ v = .ref p ∧ H' = upd H p (.tup [x, y]),
   fun i H => ∃ xs ys, SqT K H a xs ∧ SqT K H b ys ∧ (xs.length ≤ i ∨ ys.length ≤ i)⟩
theorem turn_zip {P : Program} {w : World} {K : PySem.W.Frag} {es : List Expr} {k : Nat} {ps : Pos} {z TI TO i1 i2 a b : Addr}
    (na : a ≠ i1) (nb : b ≠ i2) (D : Zt.Apart z TI TO i1 i2 [i1, a] [i2, b]) :
    Turn P w K (.Tuple es k ps) (Itz K a b) [z, TI, TO, i1, i2] z (fun n h => IsZip h z TI TO .none ∧ IsPair h TI (.ref i1) (.ref i2) ∧ (∃ u v, IsPair h TO u v) ∧ h.IsTupleIter i1 a n ∧ h.IsTupleIter i2 b n) where
  mem := by simp
  obj := by
    rintro n h ⟨hz, hTI, ⟨u, v, hTO⟩, ⟨o1, e1, c1, d1⟩, ⟨o2, e2, c2, d2⟩⟩ c hc
    simp only [List.mem_cons, List.not_mem_nil, or_false] at hc
    rcases hc with rfl | rfl | rfl | rfl | rfl
    · exact ⟨_, hz, fun v q => nomatch q⟩
    · exact ⟨_, hTI, fun v q => nomatch q⟩
    · exact ⟨_, hTO, fun v q => nomatch q⟩
    · exact ⟨o1, e1, fun v q => by rw [d1] at q; cases q⟩
    · exact ⟨o2, e2, fun v q => by rw [d2] at q; cases q⟩
  keep := by
    rintro n h h' ⟨hz, hTI, ⟨u, v, hTO⟩, ⟨o1, e1, r1⟩, ⟨o2, e2, r2⟩⟩ kp
    exact ⟨kp z (by simp) _ hz, kp TI (by simp) _ hTI, ⟨u, v, kp TO (by simp) _ hTO⟩, ⟨o1, kp i1 (by simp) _ e1, r1⟩, ⟨o2, kp i2 (by simp) _ e2, r2⟩⟩
  item := by
    intro X hP hw hK hc i pins s σ H E I hf st hg
    subst hP hw hK
    obtain ⟨hz, hTI, ⟨u, v, hTO⟩, hi1, hi2⟩ := st
    obtain ⟨xs, ys, x, y, qx, qy, hx, hy⟩ := hg
    obtain ⟨us, rx, px, zx⟩ := I.tuple qx
    obtain ⟨ws, ry, py, zy⟩ := I.tuple qy
    obtain ⟨ux, hux, rux⟩ := rx.get hx
    obtain ⟨uy, huy, ruy⟩ := ry.get hy
    refine Zt.py_item (Zt.srcT i1 a na us.toArray) (Zt.srcT i2 b nb ws.toArray) D hz hTI hTO ⟨hi1, px⟩ ⟨hi2, py⟩ (x := ux) (y := uy) (by simpa using hux) (by simpa using huy) fun h' z1 t1 s1 s2 t2 kp => ⟨_, rfl, ?_⟩
    refine wpAny_letOwnedTupleGo_zip (s := { s with heap := h' }) z1 fun h'' z2 sb => ?_
    have kp2 : ∀ c o, c ∉ [z, TI, TO, i1, i2] → s.heap.get? c = some o → h''.get? c = some o := fun c o hc e => by
      simp only [List.mem_cons, List.not_mem_nil, or_false, not_or] at hc
      exact sb.extBut _ _ hc.1 (kp c o hc.1 hc.2.2.1 hc.2.2.2.1 hc.2.2.2.2 e)
    have nz : s.heap.objs.size ≠ z := Nat.ne_of_gt (Heap.lt_size hz)
    have J : Inv X pins σ H { s with heap := h'' } := I.spun (t' := s.toks) hf kp2
    have t3 : IsPair h'' s.heap.objs.size ux uy := sb.extBut _ _ nz t2
    refine ⟨.ref s.heap.objs.size, upd H s.heap.objs.size (.tup [x, y]), I.track J (Nat.le_refl _) ⟨by show 2 ≤ sizeLine; decide, [ux, uy], .cons rux (.cons ruy .nil), ⟨_, t3, rfl, _, rfl⟩⟩, rfl, ⟨_, x, y, I.hok.fresh (Nat.le_refl _), fun zs h => ?_, fun zs h => ?_, rfl, rfl⟩, ?_, fun c hc => ?_⟩
    · rw [I.tuple_inj h qx]; exact hx
    · rw [I.tuple_inj h qy]; exact hy
    · exact ⟨z2, sb.extBut _ _ D.TIz (kp TI _ D.TIz D.TITO D.TIi1 D.TIi2 hTI), ⟨ux, uy, sb.extBut _ _ D.TOz t1⟩, s1.1.extBut sb.extBut D.i1z, s2.1.extBut sb.extBut D.i2z⟩
    · have e : c ≠ s.heap.objs.size := by
        simp only [List.mem_cons, List.not_mem_nil, or_false] at hc
        obtain ⟨o1, e1, _⟩ := hi1; obtain ⟨o2, e2, _⟩ := hi2
        rcases hc with rfl | rfl | rfl | rfl | rfl
        · exact Nat.ne_of_lt (Heap.lt_size hz)
        · exact Nat.ne_of_lt (Heap.lt_size hTI)
        · exact Nat.ne_of_lt (Heap.lt_size hTO)
        · exact Nat.ne_of_lt (Heap.lt_size e1)
        · exact Nat.ne_of_lt (Heap.lt_size e2)
      rw [upd_ne e]; exact (hf c hc).1
  done := by
    intro X hP hw hK hc i pins s σ H E I hf st hg
    subst hP hw hK
    obtain ⟨hz, hTI, ⟨u, v, hTO⟩, hi1, hi2⟩ := st
    obtain ⟨xs, ys, qx, qy, hend⟩ := hg
    obtain ⟨us, rx, px, zx⟩ := I.tuple qx
    obtain ⟨ws, ry, py, zy⟩ := I.tuple qy
    have lx := rx.length
    have ly := ry.length
    refine Zt.py_end (I.ok.hd hc) (Zt.srcT i1 a na us.toArray) (Zt.srcT i2 b nb ws.toArray) D hz hTI hTO ⟨hi1, px⟩ ⟨hi2, py⟩ (k1 := i) (k2 := i) (hend.imp (fun h => by simp; omega) (fun h => by simp; omega)) fun h' kp => ⟨rfl, ?_⟩
    refine I.spun (t' := s.toks) hf fun c o hc e => ?_
    simp only [List.mem_cons, List.not_mem_nil, or_false, not_or] at hc
    exact kp c o hc.1 hc.2.2.1 hc.2.2.2.1 hc.2.2.2.2 e
  self := by
    rintro A n s Q E ⟨hz, _⟩ h
    exact wpAny_pyIter_zip hz h
noncomputable def iZip (K : PySem.W.Frag) (ta : TA) : TI := fun σ H R => ta σ H fun vs H1 => ∃ a b, vs = [.ref a, .ref b] ∧ (∃ xs, SqT K H1 a xs) ∧ (∃ ys, SqT K H1 b ys) ∧ R (Itz K a b) H1
theorem pi_zip {X : Cx} {es : List Expr} {k : Nat} {ps p pos : Pos} {e1 e2 : Expr} {ta : TA} (hg : Gl X "zip") (hm : X.mg "zip" = none) (ha : PA X [e1, e2] ta)
    (hs : starEach [e1, e2] X.env = [(false, eval e1 X.env), (false, eval e2 X.env)] := by rfl) (hs2 : starEach [e2] X.env = [(false, eval e2 X.env)] := by rfl) (hv : bootBuiltins "zip" = some (.type "zip") := by decide +kernel) :
    PI X (.Tuple es k ps) (.Call (.Name "zip" p) [e1, e2] [] pos) (iZip X.K ta) := by
  intro pins s σ H R I h
  refine Call_ (ld_blt I hg hm hv (PyProof.Rows.callWith_type1 (thn (ha pos pins s σ H _ I h) fun us s1 ⟨vs, H1, I1, r1, q1⟩ => ?_) (by rw [hs, hs2]) (by rw [hs2]; rfl)))
  obtain ⟨a, b, e, ⟨xs, qx⟩, ⟨ys, qy⟩, q⟩ := q1
  subst e
  obtain ⟨u, v, rfl, ra, rb⟩ := vals2 r1
  cases ra
  cases rb
  obtain ⟨us, rx, px, zx⟩ := I1.tuple qx
  obtain ⟨ws, ry, py, zy⟩ := I1.tuple qy
  refine Zt.call_zip (xs := us.toArray) (ys := ws.toArray) px py fun h' hz hTI hTO h1 h2 kp => ?_
  refine wpAny_pyIter_zip (s := { s1 with heap := h' }) hz ?_
  have la : a < s1.heap.objs.size := by obtain ⟨o, e, _⟩ := px; exact Heap.lt_size e
  have lb : b < s1.heap.objs.size := by obtain ⟨o, e, _⟩ := py; exact Heap.lt_size e
  have J : Inv X pins σ H1 { s1 with heap := h' } := I1.kept (t' := s1.toks) kp
  refine ⟨_, [s1.heap.objs.size + 4, s1.heap.objs.size + 2, s1.heap.objs.size + 3, s1.heap.objs.size, s1.heap.objs.size + 1], _, Itz X.K a b, H1, rfl, J, turn_zip (a := a) (b := b) (Nat.ne_of_lt la) (Nat.ne_of_lt (Nat.lt_succ_of_lt lb)) ?_, ⟨hz, hTI, ⟨_, _, hTO⟩, h1, h2⟩, fun c hc => ?_, q⟩
  · generalize s1.heap.objs.size = n at la lb
    constructor <;> (try simp only [List.mem_cons, List.not_mem_nil, or_false, not_or, ne_eq]) <;> (unfold Addr at *; omega)
  · have le : s1.heap.objs.size ≤ c := by
      simp only [List.mem_cons, List.not_mem_nil, or_false] at hc
      rcases hc with rfl | rfl | rfl | rfl | rfl
      · exact Nat.le_add_right _ _
      · exact Nat.le_add_right _ _
      · exact Nat.le_add_right _ _
      · exact Nat.le_refl _
      · exact Nat.le_add_right _ _
    exact I1.fpOk le (I1.hok.fresh le)

noncomputable def clsOf (cells : List (Str × Addr)) : List (Str × NameKind) → List (Str × Addr) → Option (List (Str × Addr))
  | [], acc => some acc
  | (n, k) :: r, acc => if (k == .free) = true then (match cells.lookup n with | some a => clsOf cells r ((n, a) :: acc) | none => none) else clsOf cells r acc

theorem clsOf_loop {env : Env} : ∀ (ns : List (Str × NameKind)) (acc cl : List (Str × Addr)), clsOf env.cells ns acc = some cl →
    (forIn ns acc fun (x : Str × NameKind) (cs : List (Str × Addr)) => (if (x.2 == .free) = true then (do let a ← cellOf env x.1; pure (ForInStep.yield ((x.1, a) :: cs))) else pure (ForInStep.yield cs) : Sem _)) = pure cl
  | [], acc, cl, h => by
    simp only [clsOf, Option.some.injEq] at h
    subst h; rfl
  | (n, k) :: r, acc, cl, h => by
    rw [List.forIn_cons]
    unfold clsOf at h
    by_cases hk : (k == NameKind.free) = true
    · rw [if_pos hk] at h
      simp only [hk, if_true]
      cases e : env.cells.lookup n with
      | none => rw [e] at h; cases h
      | some a =>
        rw [e] at h
        have ih := clsOf_loop r ((n, a) :: acc) cl h
        simp only [cellOf, e, pure_bind]
        exact ih
    · rw [if_neg hk] at h
      simp only [hk, if_false, pure_bind]
      exact clsOf_loop r acc cl h
theorem closure_of {env : Env} {sc : Scope} {cl : List (Str × Addr)} (h : clsOf env.cells sc.names [] = some cl) : closureFor sc env = pure cl := by
  have e := clsOf_loop (env := env) sc.names [] cl h
  unfold closureFor
  have e2 := congrArg (fun m : Sem (List (Str × Addr)) => m >>= fun r => (pure r : Sem (List (Str × Addr)))) e
  simp only [pure_bind] at e2
  refine Eq.trans ?_ e2
  rfl
theorem clsOf_sub {cells : List (Str × Addr)} : ∀ (ns : List (Str × NameKind)) (acc cl : List (Str × Addr)), clsOf cells ns acc = some cl → (∀ x c, acc.lookup x = some c → cells.lookup x = some c) → ∀ x c, cl.lookup x = some c → cells.lookup x = some c
  | [], acc, cl, h, ha => by
    simp only [clsOf, Option.some.injEq] at h
    subst h; exact ha
  | (n, k) :: r, acc, cl, h, ha => by
    unfold clsOf at h
    by_cases hk : (k == NameKind.free) = true
    · rw [if_pos hk] at h
      cases e : cells.lookup n with
      | none => rw [e] at h; cases h
      | some a =>
        rw [e] at h
        refine clsOf_sub r ((n, a) :: acc) cl h fun x c q => ?_
        rw [List.lookup_cons] at q
        cases hx : x == n with
        | true =>
          rw [hx] at q
          have e' : x = n := by simpa using hx
          subst e'
          cases q; exact e
        | false => rw [hx] at q; exact ha x c q
    · rw [if_neg hk] at h
      exact clsOf_sub r acc cl h ha
theorem clsOf_has {cells : List (Str × Addr)} : ∀ (ns : List (Str × NameKind)) (acc cl : List (Str × Addr)), clsOf cells ns acc = some cl → (∀ x, (∃ c, acc.lookup x = some c) → ∃ c, cl.lookup x = some c) ∧ ∀ y ∈ ns, y.2 = .free → ∃ c, cl.lookup y.1 = some c
  | [], acc, cl, h => by
    simp only [clsOf, Option.some.injEq] at h
    subst h; exact ⟨fun x q => q, fun y hy => by simp at hy⟩
  | (n, k) :: r, acc, cl, h => by
    unfold clsOf at h
    by_cases hk : (k == NameKind.free) = true
    · rw [if_pos hk] at h
      cases e : cells.lookup n with
      | none => rw [e] at h; cases h
      | some a =>
        rw [e] at h
        obtain ⟨h1, h2⟩ := clsOf_has r ((n, a) :: acc) cl h
        have up : ∀ x, (∃ c, acc.lookup x = some c) → ∃ c, ((n, a) :: acc).lookup x = some c := fun x ⟨c, q⟩ => by
          rw [List.lookup_cons]
          cases hx : x == n with
          | true => exact ⟨a, rfl⟩
          | false => exact ⟨c, q⟩
        refine ⟨fun x q => h1 x (up x q), fun y hy hf => ?_⟩
        rcases List.mem_cons.mp hy with rfl | hy
        · exact h1 n ⟨a, by simp [List.lookup_cons]⟩
        · exact h2 y hy hf
    · rw [if_neg hk] at h
      obtain ⟨h1, h2⟩ := clsOf_has r acc cl h
      refine ⟨h1, fun y hy hf => ?_⟩
      rcases List.mem_cons.mp hy with rfl | hy
      · exact absurd (show (k == NameKind.free) = true by have : k = .free := hf; subst this; rfl) hk
      · exact h2 y hy hf

theorem relabel_free {env : Env} : ∀ {names : List (Str × NameKind)} {x : Str}, names.lookup x = some .free →
    (names.map fun (n, k) => if (k == NameKind.free && env.scope.kind == .function && env.kindOf n == some .cell) then (n, NameKind.cell) else (n, k)).lookup x = some .cell ∨
    (names.map fun (n, k) => if (k == NameKind.free && env.scope.kind == .function && env.kindOf n == some .cell) then (n, NameKind.cell) else (n, k)).lookup x = some .free
  | [], _, h => by simp at h
  | (n, k) :: r, x, h => by
    have ih := @relabel_free env r x
    rw [List.map_cons]
    dsimp only
    cases hx : x == n with
    | true =>
      simp only [List.lookup_cons, hx] at h
      cases h
      by_cases hc : (NameKind.free == NameKind.free && env.scope.kind == .function && env.kindOf n == some .cell) = true
      · refine .inl ?_
        rw [if_pos hc, List.lookup_cons, hx]
      · refine .inr ?_
        rw [if_neg hc, List.lookup_cons, hx]
    | false =>
      simp only [List.lookup_cons, hx] at h
      by_cases hc : (k == NameKind.free && env.scope.kind == .function && env.kindOf n == some .cell) = true
      · rw [if_pos hc]; simp only [List.lookup_cons, hx]; exact ih h
      · rw [if_neg hc]; simp only [List.lookup_cons, hx]; exact ih h
theorem relabel_back {env : Env} : ∀ {names : List (Str × NameKind)} {x : Str} {kd : NameKind}, (kd = .cell ∨ kd = .free) →
    (names.map fun (n, k) => if (k == NameKind.free && env.scope.kind == .function && env.kindOf n == some .cell) then (n, NameKind.cell) else (n, k)).lookup x = some kd → ∃ y ∈ names, y.1 = x ∧ (y.2 = .free ∨ y.2 = .cell)
  | [], _, _, _, h => by simp at h
  | (n, k) :: r, x, kd, hkd, h => by
    have ih := @relabel_back env r x kd hkd
    rw [List.map_cons] at h
    dsimp only at h
    cases hx : x == n with
    | true =>
      have e : x = n := by simpa using hx
      subst e
      refine ⟨(x, k), by simp, rfl, ?_⟩
      by_cases hc : (k == NameKind.free && env.scope.kind == .function && env.kindOf x == some .cell) = true
      · refine .inl ?_
        simp only [Bool.and_eq_true] at hc
        simpa using hc.1.1
      · rw [if_neg hc] at h
        simp only [List.lookup_cons, beq_self_eq_true, Option.some.injEq] at h
        subst h
        exact hkd.symm
    | false =>
      have h' : (r.map fun (n, k) => if (k == NameKind.free && env.scope.kind == .function && env.kindOf n == some .cell) then (n, NameKind.cell) else (n, k)).lookup x = some kd := by
        by_cases hc : (k == NameKind.free && env.scope.kind == .function && env.kindOf n == some .cell) = true
        · rw [if_pos hc] at h; simp only [List.lookup_cons, hx] at h; exact h
        · rw [if_neg hc] at h; simp only [List.lookup_cons, hx] at h; exact h
      obtain ⟨y, hy, q⟩ := ih h'
      exact ⟨y, List.mem_cons_of_mem _ hy, q⟩

noncomputable def cxC (X : Cx) (sc : Scope) (cl : List (Str × Addr)) (NC : List Str) (fp : List Addr) (s : Shared) (H : Hp) : Cx where
  prog := X.prog
  w := X.w
  K := X.K
  mg := X.mg
  base := X.base
  A := X.A
  N := NC
  s₀ := s
  H₀ := H
  env := compEnvC sc cl s.heap.objs.size X.env
  outer := X.stack
  stack := X.stack
  ex := fp
  fn := fun _ => false
  calm := X.calm
  pn := []
  xe := fun _ _ => False
noncomputable def OutOk (X : Cx) (sc : Scope) : List Str → List (Option Nat) → Prop
  | x :: xs, o :: os => (match o with | none => True | some j => X.N[j]? = some x ∧ sc.names.lookup x = some .free ∧ (X.env.scope.names.lookup x = some .cell ∨ X.env.scope.names.lookup x = some .free)) ∧ OutOk X sc xs os
  | _, _ => True
theorem OutOk.at {X : Cx} {sc : Scope} : ∀ {NC : List Str} {fr : List (Option Nat)}, OutOk X sc NC fr → ∀ (i : Nat) (x : Str) (j : Nat), NC[i]? = some x → fr[i]? = some (some j) →
    X.N[j]? = some x ∧ sc.names.lookup x = some .free ∧ (X.env.scope.names.lookup x = some .cell ∨ X.env.scope.names.lookup x = some .free)
  | [], _, _, i, x, j, h1, _ => by simp at h1
  | _ :: _, [], _, i, x, j, _, h2 => by simp at h2
  | y :: ys, o :: os, h, 0, x, j, h1, h2 => by
    simp only [List.getElem?_cons_zero, Option.some.injEq] at h1 h2
    subst h1 h2
    exact h.1
  | y :: ys, o :: os, h, i + 1, x, j, h1, h2 => OutOk.at h.2 i x j (by simpa using h1) (by simpa using h2)
structure Blk (X : Cx) (sc : Scope) (cl : List (Str × Addr)) (NC : List Str) (fr : List (Option Nat)) : Prop where
  kind : sc.kind = .function
  cls : clsOf X.env.cells sc.names [] = some cl
  nocell : ∀ y ∈ sc.names, y.2 ≠ .cell
  names : ∀ y ∈ sc.names, y.2 = .local → sc.names.lookup y.1 = some .local
  len : fr.length = NC.length
  out : OutOk X sc NC fr
noncomputable def stC (fr : List (Option Nat)) (σ : St) : St := fr.map fun o => o.bind fun j => (σ[j]?).join
theorem blk_start {X : Cx} {sc : Scope} {cl : List (Str × Addr)} {NC : List Str} {fr : List (Option Nat)} {pins : List (Addr × Obj)} {σ : St} {H : Hp} {s s4 : Shared} {fp : List Addr} (B : Blk X sc cl NC fr)
    (I : Inv X pins σ H s) (hf : ∀ b ∈ fp, FpOk X pins H b) (hlt : ∀ b ∈ fp, b < s.heap.objs.size) (hns : ∃ m, s4.heap.Ns s.heap.objs.size m) (hk : ∀ b o, s.heap.get? b = some o → s4.heap.get? b = some o) (hos : s4.os = s.os) (hg : s4.gens = s.gens) :
    Inv (cxC X sc cl NC fp s H) [] (stC fr σ) H s4 := by
  have sub := clsOf_sub sc.names [] cl B.cls (fun x c q => by simp at q)
  have has := (clsOf_has sc.names [] cl B.cls).2
  have nloc : ∀ x c, cl.lookup x = some c → c < s.heap.objs.size := fun x c e => by
    obtain ⟨v, o, q, _⟩ := I.cell x c (sub x c e)
    exact Heap.lt_size q
  refine ⟨⟨I.ok.mod, B.kind, I.ok.glob, I.ok.blt, Nat.le_refl _, fun x y c h1 h2 => I.ok.inj x y c (sub x c h1) (sub y c h2), fun x hx => ?_, fun x c hx _ => (nomatch hx), I.ok.hd, I.ok.frames, .inl rfl, fun b hb => ⟨?_, fun x c e => ?_⟩, I.bs, Nat.le_trans I.ok.bsz I.sz, fun b o e hb => ?_, fun b hb => ?_, I.stack, I.stkFree⟩,
    hos, by rw [hg]; exact I.bare, Un.kept hk, ?_, fun x c e => ?_, I.hok.fresh (Nat.le_refl _), fun x c e => I.freeC x c (sub x c e), fun p hp => absurd (show p ∈ ([] : List (Addr × Obj)) from hp) (by simp), I.hok.kept hk, ?_⟩
  · have h' : ∃ y ∈ sc.names, y.1 = x ∧ (y.2 = .free ∨ y.2 = .cell) := by
      rcases hx with q | q
      · exact relabel_back (.inl rfl) q
      · exact relabel_back (.inr rfl) q
    obtain ⟨y, hy, rfl, q⟩ := h'
    rcases q with q | q
    · exact has y hy q
    · exact absurd q (B.nocell y hy)
  · exact Nat.ne_of_lt (hlt b hb)
  · intro z
    obtain ⟨f0, f1, f2, f3, f4, f5⟩ := hf b hb
    exact f4 x c (sub x c e) z
  · obtain ⟨f0, f1, f2, f3, f4, f5⟩ := hf b hb
    rcases f3 with q | q
    · exact I.ok.noex b o e q
    · exact absurd (Nat.lt_of_lt_of_le (Heap.lt_size e) I.ok.bsz) (Nat.not_lt.mpr q)
  · intro z
    obtain ⟨f0, f1, f2, f3, f4, f5⟩ := hf b hb
    rcases List.mem_cons.mp (I.stkSub b z) with q | q
    · exact f1 q
    · exact f2 q
  · obtain ⟨m, hm⟩ := hns
    refine ⟨m, hm, fun i x v h1 h2 h3 => ?_⟩
    unfold stC at h2
    rw [List.getElem?_map] at h2
    cases e : fr[i]? with
    | none => rw [e] at h2; cases h2
    | some oj =>
      rw [e] at h2
      cases oj with
      | none => cases h2
      | some j =>
        have h2' : (σ[j]?).join = some v := Option.some.inj h2
        have h4 : σ[j]? = some (some v) := by
          cases q : σ[j]? with
          | none => rw [q] at h2'; cases h2'
          | some o => rw [q] at h2'; exact congrArg some h2'
        obtain ⟨n1, n2, n3⟩ := B.out.at i x j h1 e
        obtain ⟨m0, hm0, hl⟩ := I.loc
        obtain ⟨u, r, l⟩ := hl j x v n1 h4 (n3.elim (fun q => .inr (.inl q)) fun q => .inr (.inr q))
        refine ⟨u, r, .inr ⟨relabel_free n2, ?_⟩⟩
        rcases l with ⟨k1, _⟩ | ⟨_, c, c1, c2⟩
        · have k1' : X.env.scope.names.lookup x = some .local := k1
          rcases n3 with q | q <;> (rw [q] at k1'; cases k1')
        · obtain ⟨c', e'⟩ := has (x, .free) (PySem.mem_of_lookup n2) rfl
          have q := sub x c' e'
          rw [c1] at q; cases q
          obtain ⟨o, ho, hd⟩ := c2
          exact ⟨c, e', o, hk _ _ ho, hd⟩
  · obtain ⟨v, o, q, d⟩ := I.cell x c (sub x c e)
    exact ⟨v, o, hk _ _ q, d⟩
  · show (stC fr σ).length = NC.length
    unfold stC
    rw [List.length_map]; exact B.len

theorem comp_turns {prog : Program} {w : World} {A : Around} {R : Result → Shared → Prop} {s : Shared} {elt target iter : Expr} {ifs : List Expr} {scope : Scope} {pos : Pos} {it acc : Value} {env : Env} (J : Nat → Shared → Prop)
    (turn : ∀ n s, J n s → wpAny (model prog w) A (pyNext it) (fun r s1 => match r with
      | none => R (.ok .next) s1
      | some v => wpAny (model prog w) A (letOwnedTupleGo target it v) (fun _ s2 => wpAny (model prog w) A (assign target env v) (fun _ s3 =>
          wpAny (model prog w) A (compTests ifs env) (fun ok s4 => if ok = true then wpAny (model prog w) A (eval elt env) (fun x s5 =>
              wpAny (model prog w) A (call (.builtin "list.append") [acc, x]) (fun _ s6 => ∃ m, m < n ∧ J m s6) (fun _ _ => False) s5) (fun _ _ => False) s4
            else ∃ m, m < n ∧ J m s4) (fun _ _ => False) s3) (fun _ _ => False) s2) (fun _ _ => False) s1) (fun _ _ => False) s)
    (n : Nat) (h : J n s) : codeAny (model prog w) A (.compLoop (.ListComp elt [⟨target, iter, ifs, 0⟩] scope pos) 0 it acc env) R s := by
  refine codeAny_loop rfl J (fun n s hJ => ?_) n h
  show wpAny _ A ((compTurn (.ListComp elt [⟨target, iter, ifs, 0⟩] scope pos) 0 it acc env).onRaise (fun x => do noteFrame x env; theTreesLotGoes x)) _ _ s
  refine wpAny_noted ?_
  have wk : ∀ {α : Type} {t : Sem α} {Q Q' : α → Shared → Prop} {E : Value → Shared → Prop} {s : Shared}, wpAny (model prog w) A t Q (fun _ _ => False) s → (∀ a s, Q a s → Q' a s) → wpAny (model prog w) A t Q' E s := fun h q => wpAny_mono h q fun _ _ f => f.elim
  rw [compTurn_list]
  refine wpAny_bind (wpAny_standAt (wpAny_bind (wk (turn n s hJ) fun r s1 h1 => ?_)))
  cases r with
  | none => exact wpAny_pure h1
  | some v =>
    refine wpAny_bind (wk h1 fun _ s2 h2 => wpAny_bind (wk h2 fun _ s3 h3 => ?_))
    have h3' : wpAny (model prog w) A (forIn ifs true fun c r => if r = true then do let ok ← isTrue c env (eval c env); pure (ForInStep.yield ok) else pure (ForInStep.yield r)) (fun ok s4 => if ok = true then wpAny (model prog w) A (eval elt env) (fun x s5 =>
              wpAny (model prog w) A (call (.builtin "list.append") [acc, x]) (fun _ s6 => ∃ m, m < n ∧ J m s6) (fun _ _ => False) s5) (fun _ _ => False) s4
            else ∃ m, m < n ∧ J m s4) (fun _ _ => False) s3 := by
      have e : compTests ifs env = (forIn ifs true fun c r => if r = true then do let ok ← isTrue c env (eval c env); pure (ForInStep.yield ok) else pure (ForInStep.yield r)) >>= pure := by rfl
      rw [e, bind_pure] at h3
      exact h3
    refine wpAny_bind (wk h3' fun ok s4 h4 => ?_)
    cases ok with
    | false => exact wpAny_pure ⟨rfl, h4⟩
    | true => exact wpAny_bind (wpAny_bind (wk h4 fun x s5 h5 => wpAny_bind (wk h5 fun _ s6 h6 => wpAny_pure (wpAny_pure ⟨rfl, h6⟩))))

noncomputable def PF (X : Cx) (ifs : List Expr) (t : TT) : Prop :=
  ∀ (pins : List (Addr × Obj)) (s : Shared) (σ : St) (H : Hp) (Q : Bool → Hp → Prop), Inv X pins σ H s → t σ H Q → wpAny (model X.prog X.w) X.A (compTests ifs X.env) (TP X pins σ Q) X.xe s
noncomputable def tYes : TT := fun _ H Q => Q true H
theorem pf_nil {X : Cx} : PF X [] tYes := fun _ _ _ H _ I h => wpAny_pure ⟨H, I, h⟩
theorem pf_one {X : Cx} {c : Expr} {t : TT} (h : PT X c t) : PF X [c] t := fun pins s σ H Q I hw => by
  have e : compTests [c] X.env = (forIn [c] true fun c r => if r = true then do let ok ← isTrue c X.env (eval c X.env); pure (ForInStep.yield ok) else pure (ForInStep.yield r)) >>= pure := by rfl
  rw [e, bind_pure]
  exact wpAny_tests_one (h pins s σ H Q I hw)

noncomputable def tComp (K : PySem.W.Frag) (fr : List (Option Nat)) (wi : TI) (g : TG) (tt : TT) (te : TE) : TE := fun σ H Q => wi σ H fun J H1 => ∀ acc, H1 acc = none → K.lookup acc = none →
  ∃ W : Nat → Nat → St → Hp → Prop, (∃ m, W 0 m (stC fr σ) (upd H1 acc (.lst []))) ∧ ∀ i m σc H, W i m σc H →
    (J.stop i H ∧ Q (.ref acc) H) ∨ (J.go i H ∧ ∃ N : St → Hp → Prop, (∀ σ' H', N σ' H' → ∃ m', m' < m ∧ W (i + 1) m' σ' H') ∧ ∀ x H', J.yld i H x H' → g x σc H' fun σ2 H2 => tt σ2 H2 fun b H3 =>
      if b = true then te σ2 H3 fun v H4 => ∃ xs, H4 acc = some (.lst xs) ∧ xs.length < sizeLine ∧ N σ2 (upd H4 acc (.lst (xs ++ [v]))) else N σ2 H3)

section
variable {X : Cx} {sc : Scope} {cl : List (Str × Addr)} {NC : List Str} {fr : List (Option Nat)} {elt target iter : Expr} {ifs : List Expr} {pos : Pos} {wi : TI} {g : TG} {tt : TT} {te : TE}
theorem comp_core {pins : List (Addr × Obj)} {s : Shared} {σ : St} {H : Hp} {Q : VK} {RR : Value → Addr → Result → Shared → Prop} (B : Blk X sc cl NC fr) (hc : X.calm = true) (hi : PI X target iter wi)
    (hg : ∀ fp s H, PG (cxC X sc cl NC fp s H) target g) (ht : ∀ fp s H, PF (cxC X sc cl NC fp s H) ifs tt) (he : ∀ fp s H, PE (cxC X sc cl NC fp s H) elt te)
    (I : Inv X pins σ H s) (h : tComp X.K fr wi g tt te σ H Q)
    (hRR : ∀ acc C s' H', Q (.ref acc) H' → (∃ m, s'.heap.Ns C m) → Inv X pins σ H' s' → FpOk X pins H' C → RR (.ref acc) C (.ok .next) s') :
    wpAny (model X.prog X.w) X.A (eval iter X.env) (fun x s1 => wpAny (model X.prog X.w) X.A (pyIter x) (fun it s2 => wpAny (model X.prog X.w) X.A (newList []) (fun acc s3 =>
      wpAny (model X.prog X.w) X.A (newFunctionEnv sc X.env.globals cl [] X.env.qual none .none (some X.env)) (fun cenv s4 =>
        codeAny (model X.prog X.w) X.A (.compStart (.ListComp elt [⟨target, iter, ifs, 0⟩] sc pos) 0 it acc { cenv with scope := relabel sc X.env }) (RR acc cenv.locals) s4) X.xe s3) X.xe s2) X.xe s1) X.xe s := by
  refine thn (hi pins s σ H _ I h) fun v s1 h1 => thn h1 fun itv s2 h2 => ?_
  obtain ⟨it, fp, tn, J, H2, e, I2, T, st2, f2, K⟩ := h2
  subst e
  have nk : X.K.lookup s2.heap.objs.size = none := by
    cases q : X.K.lookup s2.heap.objs.size with
    | none => rfl
    | some o => exact absurd (Heap.lt_size (I2.kIn _ o q)) (Nat.lt_irrefl _)
  obtain ⟨W, ⟨m0, w0⟩, turn⟩ := K s2.heap.objs.size (I2.hok.fresh (Nat.le_refl _)) nk
  have I3 : Inv X pins σ (upd H2 s2.heap.objs.size (.lst [])) { s2 with heap := s2.heap.push { cls := .type "list", dict := none, data := .seq ([] : List Value).toArray } } :=
    I2.laid (t' := s2.toks) (fun b u e => Heap.get?_push_of_some _ e) (Nat.le_refl _) ⟨Nat.zero_le _, [], 0, .nil, Heap.get?_push_size _ rfl⟩
  have lt2 : ∀ b ∈ fp, b < s2.heap.objs.size := fun b hb => by
    obtain ⟨o, e, _⟩ := T.obj _ _ st2 b hb
    exact Heap.lt_size e
  have f3 : ∀ b ∈ fp, FpOk X pins (upd H2 s2.heap.objs.size (.lst [])) b := fun b hb => ⟨by rw [upd_ne (Nat.ne_of_lt (lt2 b hb))]; exact (f2 b hb).1, (f2 b hb).2⟩
  refine wpAny_newObj_type (wpAny_newFunctionEnv B.nocell (by intro y hy; simp at hy) (fun h4 hns4 hsb4 => ?_) B.kind)
  dsimp only at hns4 hsb4 ⊢
  generalize hs3 : ({ s2 with heap := s2.heap.push { cls := .type "list", dict := none, data := .seq ([] : List Value).toArray } } : Shared) = s3 at I3 ⊢
  have hh3 : s3.heap = s2.heap.push { cls := .type "list", dict := none, data := .seq ([] : List Value).toArray } := by rw [← hs3]
  have z3 : s3.heap.objs.size = s2.heap.objs.size + 1 := by rw [hh3, Heap.size_push]
  rw [← hh3] at hns4 hsb4 ⊢
  have k4 : ∀ b o, s3.heap.get? b = some o → h4.get? b = some o := fun b o e => hsb4.extBut b o (Nat.ne_of_lt (Heap.lt_size e)) (Heap.get?_push_of_some _ e)
  have lt3 : ∀ b ∈ fp, b < s3.heap.objs.size := fun b hb => by rw [z3]; exact Nat.lt_succ_of_lt (lt2 b hb)
  have start : ∀ s4 : Shared, s4 = { s2 with heap := h4, toks := s2.toks + ([] : List (Str × Value)).length } → codeAny (model X.prog X.w) X.A (.compLoop (.ListComp elt [⟨target, iter, ifs, 0⟩] sc pos) 0 (.ref it) (.ref s2.heap.objs.size) (compEnvC sc cl s3.heap.objs.size X.env)) (RR (.ref s2.heap.objs.size) s3.heap.objs.size) s4 := by
    rintro s4 rfl
    have I4 : Inv (cxC X sc cl NC fp s3 (upd H2 s2.heap.objs.size (.lst []))) [] (stC fr σ) (upd H2 s2.heap.objs.size (.lst [])) { s2 with heap := h4, toks := s2.toks + ([] : List (Str × Value)).length } :=
      blk_start B I3 f3 lt3 ⟨_, hns4⟩ k4 (by rw [← hs3]) (by rw [← hs3])
    have st4 : tn 0 h4 := T.keep _ _ _ st2 fun b hb o e => k4 b o (by rw [hh3]; exact Heap.get?_push_of_some _ e)
    have stat : ∀ {H' : Hp}, (∀ b ∈ fp, H' b = none) → ∀ b ∈ fp, FpOk (cxC X sc cl NC fp s3 (upd H2 s2.heap.objs.size (.lst []))) [] H' b := fun hn b hb =>
      ⟨hn b hb, (I4.ok.exf b hb).1, I4.ok.exfs b hb, .inl hb, (I4.ok.exf b hb).2, fun p hp => absurd (show p ∈ ([] : List (Addr × Obj)) from hp) (by simp)⟩
    refine comp_turns (fun n s' => ∃ i σ' H', Inv (cxC X sc cl NC fp s3 (upd H2 s2.heap.objs.size (.lst []))) [] σ' H' s' ∧ tn i s'.heap ∧ (∀ b ∈ fp, H' b = none) ∧ W i n σ' H') ?_ m0 ⟨0, _, _, I4, st4, fun b hb => (f3 b hb).1, w0⟩
    rintro n s5 ⟨i, σ5, H5, I5, st5, fr5, w5⟩
    rcases turn i n σ5 H5 w5 with ⟨stop, qn⟩ | ⟨go, N, hN, step⟩
    · refine thn (T.done (cxC X sc cl NC fp s3 (upd H2 s2.heap.objs.size (.lst []))) rfl rfl rfl hc i [] s5 σ5 H5 _ I5 (stat fr5) st5 stop) fun r s6 ⟨hr, I6⟩ => ?_
      subst hr
      have hC : H5 s3.heap.objs.size = none := I6.free
      refine hRR _ _ s6 H5 qn (let ⟨m, hm, _⟩ := I6.loc; ⟨m, hm⟩) ?_ (I3.fpOk (Nat.le_refl _) hC)
      have un : Un (frs X.stack) fp (upd H2 s2.heap.objs.size (.lst [])) H5 s3.heap s6.heap := I6.base
      have eo : s6.os = s3.os := I6.os
      have hb6 := I6.bare
      have hk6 : HOk X.prog X.w H5 s6.heap := I6.hok
      obtain ⟨hh6, g6, d6, t6, os6⟩ := s6
      dsimp only at eo
      subst eo
      exact I3.call (h' := hh6) (g' := g6) (d' := d6) (t' := t6) (ch := fp) un hk6 hb6 fun b hb => ⟨(f3 b hb).2.2.2.1, (f3 b hb).2.1, (f3 b hb).2.2.2.2.1, (f3 b hb).2.2.2.2.2⟩
    · refine thn (T.item (cxC X sc cl NC fp s3 (upd H2 s2.heap.objs.size (.lst []))) rfl rfl rfl hc i [] s5 σ5 H5 _ I5 (stat fr5) st5 go) fun r s6 ⟨u, hr, h6⟩ => ?_
      subst hr
      refine thn h6 fun _ s7 ⟨x, H7, I7, r7, y7, st7, fr7⟩ => ?_
      have I7' := I7.pinned (stat fr7) (T.obj _ _ st7)
      refine thn (hg fp s3 _ _ s7 σ5 H7 x u _ I7' r7 (step x H7 y7)) fun _ s8 ⟨σ8, H8, I8, q8⟩ => ?_
      refine thn (ht fp s3 _ _ s8 σ8 H8 _ I8 q8) fun b s9 ⟨H9, I9, q9⟩ => ?_
      have again : ∀ {s10 : Shared} {σ7 : St} {H10 : Hp}, Inv (cxC X sc cl NC fp s3 (upd H2 s2.heap.objs.size (.lst []))) ([] ++ pinsAt fp s7.heap) σ7 H10 s10 → N σ7 H10 →
          ∃ m, m < n ∧ ∃ i σ' H', Inv (cxC X sc cl NC fp s3 (upd H2 s2.heap.objs.size (.lst []))) [] σ' H' s10 ∧ tn i s10.heap ∧ (∀ b ∈ fp, H' b = none) ∧ W i m σ' H' := fun {s10 σ7 H10} I10 n7 => by
        obtain ⟨m', hm, w7⟩ := hN σ7 H10 n7
        refine ⟨m', hm, i + 1, σ7, H10, I10.unpinned, T.keep _ _ _ st7 fun b hb o e => (I10.pin (b, o) (List.mem_append_right _ (List.mem_append_right _ (mem_pinsAt hb e)))).1, fun b hb => ?_, w7⟩
        obtain ⟨o, e, d⟩ := T.obj _ _ st7 b hb
        exact (I10.pin (b, o) (List.mem_append_right _ (List.mem_append_right _ (mem_pinsAt hb e)))).2.1
      cases b with
      | false => exact again I9 q9
      | true =>
        refine thn (he fp s3 _ _ s9 σ8 H9 _ I9 q9) fun y s10 ⟨v, H10, I10, r10, xs, q1, q2, q3⟩ => ?_
        refine thn (mt_append (X := cxC X sc cl NC fp s3 (upd H2 s2.heap.objs.size (.lst []))) _ s10 σ8 H10 (.ref s2.heap.objs.size) [v] (.ref s2.heap.objs.size) [y] (fun z H' => N σ8 H') I10 rfl (.cons r10 .nil) ⟨_, xs, v, rfl, rfl, q1, q2, q3⟩) fun z s11 ⟨_, H11, I11, _, q11⟩ => ?_
        exact again I11 q11
  exact codeAny_compStart_list (start _ rfl) (T.self _ _ _ _ _ (T.keep _ _ _ st2 fun b hb o e => k4 b o (by rw [hh3]; exact Heap.get?_push_of_some _ e)) (start _ rfl))
theorem pe_comp (B : Blk X sc cl NC fr) (hc : X.calm = true) (hi : PI X target iter wi) (hg : ∀ fp s H, PG (cxC X sc cl NC fp s H) target g) (ht : ∀ fp s H, PF (cxC X sc cl NC fp s H) ifs tt) (he : ∀ fp s H, PE (cxC X sc cl NC fp s H) elt te)
    (hs : ∀ x, foldedSetIterable iter X.env x = pure x := by intro _; rfl) : PE X (.ListComp elt [⟨target, iter, ifs, 0⟩] sc pos) (tComp X.K fr wi g tt te) := by
  intro pins s σ H Q I h
  rw [eval_ListComp]
  refine wpAny_comprehension_free (use := none) rfl hs (closure_of B.cls) B.kind B.names ?_
  refine comp_core (RR := fun acc C => compPost (model X.prog X.w) X.A X.xe none (EP X pins σ Q) acc C) B hc hi hg ht he I h ?_
  rintro acc C s' H' q ⟨m, hn⟩ I' ⟨f0, f1, f2, f3, f4, f5⟩
  exact ⟨m, hn, fun h' sb => ⟨.ref acc, H', I'.turned (t' := s'.toks) (fun b o hb e => sb.extBut b o hb e) f0 f1 f3 f4 f5, rfl, q⟩⟩
end

theorem Same.upd {H : Hp} {p : Addr} {o : HO} (h : H p = none) : Same H (upd H p o) := fun b u e => by rw [upd_ne (ne_of_none e h)]; exact e
theorem Same.tupS {K : PySem.W.Frag} {H H' : Hp} {a : Addr} {xs : List V} (e : Same H H') (h : SqT K H a xs) : SqT K H' a xs := by
  rcases h with (h | ⟨o, h⟩) | h
  · exact .inl (.inl (e _ _ h))
  · exact .inl (.inr ⟨o, e _ _ h⟩)
  · exact .inr h

theorem tup_whole {prog : Program} {w : World} {A : Around} {E : Value → Shared → Prop} {s : Shared} {t sl : Addr} {items : Array Value} {vl vu : Value} {lo hi : Option Int} {Q : Value → Shared → Prop} (ht : IsTup s.heap t items) (hs : s.heap.IsSliceOf sl vl vu .none) (pl : IsPart vl lo) (pu : IsPart vu hi)
    (hw : HT.sIx items.size 0 lo = 0 ∧ HT.sIx items.size items.size hi = items.size) (h : Q (.ref t) s) : wpAny (model prog w) A (getItem (.ref t) (.ref sl)) Q E s := by
  obtain ⟨os, hos, hcs, hds⟩ := id hs
  have hTs : s.TypeIs (.ref sl) "slice" := ⟨os, hos, hcs⟩
  unfold getItem
  try with_reducible refine wpAny_holding ?_
  first | refine wpAny_bind (wpAny_pure ?_) | skip
  refine wpAny_bind (wpAny_sequenceKey ht.typeIs (by decide) ?_)
  refine wpAny_bind (wpAny_callSpecial?_slot (name := Str.ofString "__getitem__") ht.typeIs PyProof.Rows.slot_tuple_getitem (wpAny_call_entry PyProof.Rows.slot_tuple_getitem ht.typeIs entry_tuple_getitem ?_ (args_tuple_getitem _ _)))
  show wpAny _ _ (Builtin.Tuple.tupleItemsOf (.ref t) >>= _) _ _ s
  refine wpAny_bind (tupleItemsOf_ ht ?_)
  refine wpAny_bind (wpAny_typeOf hTs ?_)
  rw [if_pos (by decide)]
  refine wpAny_bind (HT.sliceApplied_gen hs pl pu ?_)
  show wpAny _ _ (if (((HT.sIx items.size 0 lo : Nat) : Int) == 0 && (1 : Int) == 1 && (HT.sIx items.size items.size hi - HT.sIx items.size 0 lo) == items.size) = true then _ else _) _ _ s
  rw [if_pos (by rw [hw.1, hw.2]; simp)]
  refine wpAny_bind ?_
  unfold Builtin.Tuple.tupleIsExact
  refine wpAny_bind (wpAny_typeOf ht.typeIs (wpAny_pure ?_))
  rw [if_pos (by decide)]
  exact wpAny_bind (wpAny_rule (wpAny_pure ⟨_, rfl, wpAny_pure h⟩))
theorem cutV_whole {xs : List V} {lo hi : Option Int} (hw : HT.sIx xs.length 0 lo = 0 ∧ HT.sIx xs.length xs.length hi = xs.length) : cutV xs lo hi = xs := by
  unfold cutV
  rw [hw.1, hw.2]; simp
noncomputable def rSlG (K : PySem.W.Frag) : V → Option Int → Option Int → Hp → VK → Prop := fun x lo hi H Q => ∃ a xs, x = .ref a ∧ SqT K H a xs ∧ ∀ p H', (p = a ∨ H p = none) → Same H H' → SqT K H' p (cutV xs lo hi) → Q (.ref p) H'
section
variable {X : Cx}
theorem sl_tupG : SlR X (rSlG X.K) := by
  intro pins s σ H x v vl vu lo hi sl Q I rx hs pl pu h
  obtain ⟨a, xs, rfl, hx, q⟩ := h
  by_cases hw : HT.sIx xs.length 0 lo = 0 ∧ HT.sIx xs.length xs.length hi = xs.length
  · cases rx
    obtain ⟨its, r, ht, hz⟩ := I.tuple hx
    have hlen : its.toArray.size = xs.length := by rw [List.size_toArray]; exact r.length.symm
    refine ⟨"tuple", _, PyProof.Rows.slot_tuple_getitem.lookup, ht.typeIs, ?_⟩
    refine tup_whole ht hs pl pu (by rw [hlen]; exact hw) ⟨.ref a, H, I, rfl, q a H (.inl rfl) (Same.refl H) ?_⟩
    rw [cutV_whole hw]; exact hx
  · exact sl_tup pins s σ H _ v vl vu lo hi sl Q I rx hs pl pu ⟨a, xs, rfl, hx, hw, fun p hp => q p _ (.inr hp) (Same.upd hp) (SqT.of upd_same)⟩

noncomputable def rCatG (K : PySem.W.Frag) : R2 := fun x y H Q => ∃ a b xs ys, x = .ref a ∧ y = .ref b ∧ SqT K H a xs ∧ SqT K H b ys ∧ xs.length + ys.length ≤ sizeLine ∧ ∀ p H', (p = a ∨ p = b ∨ H p = none) → Same H H' → SqT K H' p (xs ++ ys) → Q (.ref p) H'
theorem op_catG : OpR X (binaryOp .Add) (rCatG X.K) := by
  intro pins s σ H x y v u Q I rx ry h
  obtain ⟨a, b, xs, ys, rfl, rfl, ha, hb, hz, q⟩ := h
  by_cases hx : xs = []
  · subst hx
    cases rx
    cases ry
    obtain ⟨its, r1, p1, _⟩ := I.tuple ha
    obtain ⟨its2, r2, p2, _⟩ := I.tuple hb
    have e1 := r1.nil_iff.mpr rfl
    subst e1
    obtain ⟨⟨cls, dd, data, sl⟩, ho, hc, n, hd⟩ := id p1
    obtain ⟨⟨cls2, dd2, data2, sl2⟩, ho2, hc2, n2, hd2⟩ := id p2
    simp only at hc hd hc2 hd2
    subst hc hd hc2 hd2
    exact concat_meets ⟨_, ho, rfl⟩ ⟨_, ho2, rfl⟩ noFill_tuple_add seq_tuple_add PySem.F.slot_tuple_add PySem.F.entry_tuple_add (PySem.F.args_tuple_add_2 _ _)
      (tuple_addW0 a b _ _ n n2 dd dd2 sl sl2 (by simp)) ⟨ho, ho2, ⟨.ref b, H, I, rfl, q b H (.inr (.inl rfl)) (Same.refl H) hb⟩⟩
  · exact op_catT pins s σ H _ _ v u Q I rx ry ⟨a, b, xs, ys, rfl, rfl, ha, hb, hx, hz, fun e => q a H (.inl rfl) (Same.refl H) (by rw [e, List.append_nil]; exact ha), fun _ p hp => q p _ (.inr (.inr hp)) (Same.upd hp) (SqT.of upd_same)⟩

theorem all_range_map (bs : List Bool) (f : Nat → Bool) (hf : ∀ i b, bs[i]? = some b → f i = b) : (List.range bs.length).all f = bs.all id := by
  induction bs generalizing f with
  | nil => rfl
  | cons b bs ih =>
    rw [List.length_cons, List.range_succ_eq_map, List.all_cons, List.all_map, List.all_cons, hf 0 b rfl]
    have := ih (fun i => f (i + 1)) fun i b' h => hf (i + 1) b' (by simpa using h)
    rw [← this]; rfl
theorem call_all (hc : X.calm = true) : CallR X (.builtin "all") (fun xs H Q => ∃ (p : Addr) (bs : List Bool), xs = [.ref p] ∧ SqL X.K H p (bs.map V.bl) ∧ Q (.bl (bs.all id)) H) := by
  intro pins s σ H xs us Q I r h
  obtain ⟨p, bs, rfl, hq, q⟩ := h
  obtain ⟨u, rfl, ru⟩ := vals1 r
  cases ru
  obtain ⟨its, rv, pl, hz⟩ := I.list hq
  have hl := rv.length
  rw [List.length_map] at hl
  refine call_all_walk (wpAny_pyIter_list pl.isList ?_)
  have hne : p ≠ s.heap.objs.size := by
    obtain ⟨o, n, e, _⟩ := pl
    exact Nat.ne_of_lt (Heap.lt_size e)
  refine ⟨_, _, _, _, _, _, fun i => (bs[i]?).getD true, rfl, Walks.list (A := X.A.in1) (show X.A.in1.handled = none from I.ok.hd hc) s.heap.objs.size p hne its.toArray, ⟨⟨_, Heap.get?_push_size _ rfl, rfl, rfl⟩, pl.isList.push _⟩, fun i v s' Q' E' hP hQ => ?_, fun h' tk hk => ?_⟩
  · have hb : ∃ b, bs[i]? = some b ∧ v = .bool b := by
      have hi : i < its.length := by
        have := (Array.getElem?_eq_some_iff.mp hP).1
        simpa using this
      have e1 : (bs.map V.bl)[i]? = some (.bl bs[i]) := by simp
      obtain ⟨u, hu, ru⟩ := rv.get e1
      have : its.toArray[i]? = some u := by simpa using hu
      rw [hP] at this; cases this
      exact ⟨bs[i], by simp, ru⟩
    obtain ⟨b, hb, rfl⟩ := hb
    dsimp only at hQ
    rw [hb] at hQ
    exact wpAny_truthy_bool hQ
  · have e : (List.range its.toArray.size).all (fun i => (bs[i]?).getD true) = bs.all id := by
      rw [List.size_toArray, ← hl]
      exact all_range_map bs _ fun i b h => by rw [h]; rfl
    rw [e]
    refine ⟨.bl (bs.all id), H, ?_, rfl, q⟩
    refine Inv.spun (s := s) (t' := tk) (ch := [s.heap.objs.size]) I (fun b hb => ?_) fun b o hb e => hk b o hb (Heap.get?_push_of_some _ e)
    have eb : b = s.heap.objs.size := by simpa using hb
    subst eb
    exact I.fpOk (Nat.le_refl _) (I.hok.fresh (Nat.le_refl _))

noncomputable def subT (T n : String) : Option Bool := if (Value.type T == Value.type n) = true then some true else if PySem.W.kitMeta n = true then (PySem.fastBuiltinMro T).map (·.contains (.type n)) else none
inductive TyS (K : PySem.W.Frag) (H : Hp) : V → String → Prop
  | non : TyS K H .non "NoneType"
  | bl (b : Bool) : TyS K H (.bl b) "bool"
  | int (i : Int) : TyS K H (.int i) "int"
  | str (x : Str) : TyS K H (.str x) "str"
  | lst {a : Addr} {xs : List V} (h : SqL K H a xs) : TyS K H (.ref a) "list"
  | tup {a : Addr} {xs : List V} (h : SqT K H a xs) : TyS K H (.ref a) "tuple"
  | dk {a : Addr} {kvs : List (Key × V)} (h : H a = some (.dK kvs)) : TyS K H (.ref a) "dict"
theorem call_isi : CallR X (.builtin "isinstance") (fun xs H Q => ∃ x T n b, xs = [x, .ty n] ∧ TyS X.K H x T ∧ subT T n = some b ∧ Q (.bl b) H) := by
  intro pins s σ H xs us Q I r h
  obtain ⟨x, T, n, b, rfl, ty, hs, q⟩ := h
  obtain ⟨u, w, rfl, ru, rw_⟩ := vals2 r
  cases rw_
  have e : PySem.W.kitOne X.K (.type T) (.type n) = some b := hs
  have fin : ∀ tk, EP X pins σ Q (.bool b) { s with toks := tk } := fun tk => ⟨.bl b, H, I.tok tk, rfl, q⟩
  cases ty with
  | non => cases ru; exact PySem.W.kia_one PySem.W.kitx_none I.kIn True.intro e (fun z => nomatch z) fin
  | bl y => cases ru; exact PySem.W.kia_one PySem.W.kitx_bool I.kIn True.intro e (fun z => nomatch z) fin
  | int i => obtain ⟨t, rfl⟩ := ru; exact PySem.W.kia_one PySem.W.kitx_int I.kIn True.intro e (fun z => nomatch z) fin
  | str y => obtain ⟨t, rfl⟩ := ru; exact PySem.W.kia_one PySem.W.kitx_str I.kIn True.intro e (fun z => nomatch z) fin
  | lst hq =>
    cases ru
    obtain ⟨its, _, ⟨o, nn, e1, e2, _⟩, _⟩ := I.list hq
    exact PySem.W.kia_one PySem.W.kitx_list I.kIn ⟨o, e1, e2⟩ e (fun z => nomatch z) fin
  | tup hq =>
    cases ru
    obtain ⟨its, _, ⟨o, e1, e2, _⟩, _⟩ := I.tuple hq
    exact PySem.W.kia_one PySem.W.kitx_tuple I.kIn ⟨o, e1, e2⟩ e (fun z => nomatch z) fin
  | @dk a kvs hq =>
    cases ru
    obtain ⟨_, _, vs, _, o, es, ep, h1, h2, _⟩ := (show ObjOk X.prog X.w H s.heap a (.dK kvs) from I.hok a _ hq)
    exact PySem.W.kia_one PySem.W.kitx_dict I.kIn ⟨o, h1, h2.1⟩ e (fun z => nomatch z) fin
noncomputable def isB (T n : String) : Bool := T == n || (T == "bool" && n == "int")
theorem subT_tab : ∀ T ∈ ["NoneType", "bool", "int", "str", "list", "tuple", "dict"], ∀ n ∈ ["int", "bool", "str", "tuple", "list", "dict"], subT T n = some (isB T n) := by decide +kernel
end

noncomputable def Ext (N : List Addr) (H H' : Hp) : Prop := ∀ b o, H b = some o → b ∉ N → H' b = some o
theorem Ext.trans {N : List Addr} {H H1 H2 : Hp} (a : Ext N H H1) (b : Ext N H1 H2) : Ext N H H2 := fun c o h n => b c o (a c o h n) n
theorem Ext.same {N : List Addr} {H H' : Hp} (a : Same H H') : Ext N H H' := fun c o h _ => a c o h
theorem Ext.new {N : List Addr} {H : Hp} {p : Addr} {o : HO} (h : H p = none) : Ext N H (upd H p o) := Ext.same (Same.upd h)
theorem Ext.at {N : List Addr} {H : Hp} {p : Addr} {o : HO} (h : p ∈ N) : Ext N H (L2.upd H p o) := fun c u e n => by rw [upd_ne (show c ≠ p from fun z => n (by rw [z]; exact h))]; exact e
theorem Ext.tup {N : List Addr} {K : PySem.W.Frag} {H H' : Hp} {a : Addr} {xs : List V} (e : Ext N H H') (h : SqT K H a xs) (n : a ∉ N) : SqT K H' a xs := by
  rcases h with (h | ⟨o, h⟩) | h
  · exact .inl (.inl (e _ _ h n))
  · exact .inl (.inr ⟨o, e _ _ h n⟩)
  · exact .inr h
theorem Ext.lst {N : List Addr} {K : PySem.W.Frag} {H H' : Hp} {a : Addr} {xs : List V} (e : Ext N H H') (h : SqL K H a xs) (n : a ∉ N) : SqL K H' a xs := by
  rcases h with (h | ⟨o, h⟩) | h
  · exact .inl (.inl (e _ _ h n))
  · exact .inl (.inr ⟨o, e _ _ h n⟩)
  · exact .inr h
theorem Ext.free {N : List Addr} {H H' : Hp} (e : Ext N H H') {p : Addr} (h : H' p = none) (n : p ∉ N) : H p = none := by
  cases q : H p with
  | none => rfl
  | some o => rw [e p o q n] at h; cases h

noncomputable def kD : Key → PyData
  | .inl i => .int i
  | .inr x => .str x
mutual
inductive Dt (K : PySem.W.Frag) (N : List Addr) (H : Hp) : V → PyData → Prop
  | non : Dt K N H .non .none
  | bl (b : Bool) : Dt K N H (.bl b) (.bool b)
  | int (i : Int) : Dt K N H (.int i) (.int i)
  | str (x : Str) : Dt K N H (.str x) (.str x)
  | tup {a : Addr} {xs : List V} {ds : List PyData} (h : SqT K H a xs) (n : a ∉ N) (r : DtAll K N H xs ds) : Dt K N H (.ref a) (.tuple ds)
  | lst {a : Addr} {xs : List V} {ds : List PyData} (h : SqL K H a xs) (n : a ∉ N) (r : DtAll K N H xs ds) : Dt K N H (.ref a) (.list ds)
  | dk0 {a : Addr} (h : H a = some (.dK [])) (n : a ∉ N) : Dt K N H (.ref a) (.dict [])
  | dk1 {a : Addr} {k : Key} {v : V} {d : PyData} (h : H a = some (.dK [(k, v)])) (n : a ∉ N) (r : Dt K N H v d) : Dt K N H (.ref a) (.dict [(kD k, d)])
inductive DtAll (K : PySem.W.Frag) (N : List Addr) (H : Hp) : List V → List PyData → Prop
  | nil : DtAll K N H [] []
  | cons {v : V} {d : PyData} {vs : List V} {ds : List PyData} (h : Dt K N H v d) (r : DtAll K N H vs ds) : DtAll K N H (v :: vs) (d :: ds)
end
section
variable {K : PySem.W.Frag} {N : List Addr} {H H' : Hp}
mutual
theorem Dt.ext (e : Ext N H H') : ∀ {v : V} {d : PyData}, Dt K N H v d → Dt K N H' v d
  | _, _, .non => .non
  | _, _, .bl b => .bl b
  | _, _, .int i => .int i
  | _, _, .str x => .str x
  | _, _, .tup h n r => .tup (e.tup h n) n (DtAll.ext e r)
  | _, _, .lst h n r => .lst (e.lst h n) n (DtAll.ext e r)
  | _, _, .dk0 h n => .dk0 (e _ _ h n) n
  | _, _, .dk1 h n r => .dk1 (e _ _ h n) n (Dt.ext e r)
theorem DtAll.ext (e : Ext N H H') : ∀ {vs : List V} {ds : List PyData}, DtAll K N H vs ds → DtAll K N H' vs ds
  | _, _, .nil => .nil
  | _, _, .cons h r => .cons (Dt.ext e h) (DtAll.ext e r)
end
theorem DtAll.length : ∀ {vs : List V} {ds : List PyData}, DtAll K N H vs ds → vs.length = ds.length
  | _, _, .nil => rfl
  | _, _, .cons _ r => by rw [List.length_cons, List.length_cons, DtAll.length r]
theorem DtAll.get : ∀ {vs : List V} {ds : List PyData} {i : Nat} {v : V}, DtAll K N H vs ds → vs[i]? = some v → ∃ d, ds[i]? = some d ∧ Dt K N H v d
  | _, _, _, _, .nil, e => by simp at e
  | _, _, 0, _, .cons h _, e => by simp at e; subst e; exact ⟨_, rfl, h⟩
  | _, _, i + 1, v, .cons _ r, e => by
    obtain ⟨d, h1, h2⟩ := DtAll.get (i := i) (v := v) r (by simpa using e)
    exact ⟨d, by simpa using h1, h2⟩
theorem DtAll.getD : ∀ {vs : List V} {ds : List PyData} {i : Nat} {d : PyData}, DtAll K N H vs ds → ds[i]? = some d → ∃ v, vs[i]? = some v ∧ Dt K N H v d
  | _, _, _, _, .nil, e => by simp at e
  | _, _, 0, _, .cons h _, e => by simp at e; subst e; exact ⟨_, rfl, h⟩
  | _, _, i + 1, d, .cons _ r, e => by
    obtain ⟨v, h1, h2⟩ := DtAll.getD (i := i) (d := d) r (by simpa using e)
    exact ⟨v, by simpa using h1, h2⟩
theorem DtAll.append : ∀ {vs ws : List V} {ds es : List PyData}, DtAll K N H vs ds → DtAll K N H ws es → DtAll K N H (vs ++ ws) (ds ++ es)
  | _, _, _, _, .nil, s => s
  | _, _, _, _, .cons h r, s => .cons h (DtAll.append r s)
theorem DtAll.take : ∀ {vs : List V} {ds : List PyData} (n : Nat), DtAll K N H vs ds → DtAll K N H (vs.take n) (ds.take n)
  | _, _, 0, _ => .nil
  | _, _, _ + 1, .nil => .nil
  | _, _, n + 1, .cons h r => .cons h (DtAll.take n r)
theorem DtAll.drop : ∀ {vs : List V} {ds : List PyData} (n : Nat), DtAll K N H vs ds → DtAll K N H (vs.drop n) (ds.drop n)
  | _, _, 0, r => r
  | _, _, _ + 1, .nil => .nil
  | _, _, n + 1, .cons _ r => DtAll.drop n r
noncomputable def cutD (ds : List PyData) (lo hi : Option Int) : List PyData := (ds.drop (HT.sIx ds.length 0 lo)).take (HT.sIx ds.length ds.length hi - HT.sIx ds.length 0 lo)
theorem DtAll.cut {vs : List V} {ds : List PyData} (lo hi : Option Int) (r : DtAll K N H vs ds) : DtAll K N H (cutV vs lo hi) (cutD ds lo hi) := by
  unfold cutV cutD
  rw [r.length]
  exact (r.drop _).take _
end
section
variable {X : Cx} {pins : List (Addr × Obj)} {σ : St} {H : Hp} {s : Shared} {N : List Addr}
mutual
theorem Dt.reads (I : Inv X pins σ H s) : ∀ {v : V} {d : PyData} {u : Value}, Dt X.K N H v d → RelV v u → ∃ as, Reads s.heap u d as ∧ (sysModules ∈ N ∨ d = .dict [] → sysModules ∉ as)
  | _, _, _, .non, r => by cases r; exact ⟨_, .none, fun _ => by simp⟩
  | _, _, _, .bl b, r => by cases r; exact ⟨_, .bool b, fun _ => by simp⟩
  | _, _, _, .int i, r => by obtain ⟨t, rfl⟩ := r; exact ⟨_, .int i t, fun _ => by simp⟩
  | _, _, _, .str x, r => by obtain ⟨t, rfl⟩ := r; exact ⟨_, .str x t, fun _ => by simp⟩
  | _, _, _, .tup h n q, r => by
    cases r
    obtain ⟨its, rv, ⟨o, e1, e2, m, e3⟩, _⟩ := I.tuple h
    obtain ⟨as, ra, sm⟩ := DtAll.reads I q rv
    refine ⟨as, .tuple e1 e2 e3 (by simpa using ra), fun z => ?_⟩
    rcases z with z | z
    · exact sm z
    · cases z
  | _, _, _, .lst h n q, r => by
    cases r
    obtain ⟨its, rv, ⟨o, m, e1, e2, e3, e4⟩, _⟩ := I.list h
    obtain ⟨as, ra, sm⟩ := DtAll.reads I q rv
    refine ⟨_, .list e1 e2 e4 (by simpa using ra), fun z => ?_⟩
    rcases z with z | z
    · intro y
      rcases List.mem_cons.mp y with y | y
      · exact n (y ▸ z)
      · exact sm z y
    · cases z
  | _, _, _, .dk0 (a := a) h n, r => by
    cases r
    obtain ⟨_, hsm, vs, kv, o, es, ep, e1, e2, e3, e4, e5, e6⟩ := (show ObjOk X.prog X.w H s.heap a (.dK []) from I.hok a _ h)
    have ev : vs = [] := by cases kv; rfl
    subst ev
    have ee : es.toList = [] := by
      cases q : es.toList with
      | nil => rfl
      | cons x r => rw [q] at e5; cases e5
    refine ⟨[a], ?_, fun _ => ?_⟩
    · have := Reads.dict (h := s.heap) (a := a) (o := o) (es := es) (n := ep) (kvs := []) (as := []) (bs := []) e1 e2.1 e3 (by rw [ee]; exact .nil) (by rw [ee]; exact .nil)
      simpa using this
    · intro z
      have z' : sysModules = a := by simpa using z
      rw [z'] at hsm
      simp at hsm
  | _, _, _, .dk1 (a := a) (k := k) (v := v) (d := d) h n q, r => by
    cases r
    obtain ⟨_, hsm, vs, kv, o, es, ep, e1, e2, e3, e4, e5, e6⟩ := (show ObjOk X.prog X.w H s.heap a (.dK [(k, v)]) from I.hok a _ h)
    obtain ⟨u, rfl, ru⟩ : ∃ u, vs = [(k, u)] ∧ RelV v u := by
      cases kv with
      | @cons p q ps qs h1 h2 =>
        cases h2
        obtain ⟨q1, q2⟩ := q
        obtain ⟨h3, h4⟩ := h1
        dsimp only at h3 h4
        subst h3
        exact ⟨q2, rfl, h4⟩
    obtain ⟨en, ee, ek, ev⟩ : ∃ en, es.toList = [en] ∧ keyIs k en.key = true ∧ en.val = u := by
      generalize es.toList = el at e5
      cases e5 with
      | cons h1 h2 h3 => cases h3; exact ⟨_, rfl, h1, h2⟩
    obtain ⟨as, ra, sm⟩ := Dt.reads I q ru
    obtain ⟨ks, rk, hk⟩ : ∃ ks, Reads s.heap en.key (kD k) ks ∧ ks = [] := by
      rcases keyIs_shape ek with ⟨i, t, rfl, e⟩ | ⟨x, t, rfl, e⟩
      · exact ⟨[], by rw [e]; exact .int i t, rfl⟩
      · exact ⟨[], by rw [e]; exact .str x t, rfl⟩
    subst hk
    have rv : Reads s.heap en.val d as := by rw [ev]; exact ra
    refine ⟨_, Reads.dict (h := s.heap) (a := a) (o := o) (es := es) (n := ep) (kvs := [(kD k, d)]) e1 e2.1 e3 (by rw [ee]; exact .cons rk .nil) (by rw [ee]; exact .cons rv .nil), fun z => ?_⟩
    rcases z with z | z
    · intro y
      simp only [List.append_nil, List.nil_append, List.cons_append] at y
      rcases List.mem_cons.mp y with y | y
      · rw [← y] at hsm; simp at hsm
      · exact sm (.inl z) y
    · cases z
theorem DtAll.reads (I : Inv X pins σ H s) : ∀ {vs : List V} {ds : List PyData} {us : List Value}, DtAll X.K N H vs ds → Vals vs us → ∃ as, ReadsAll s.heap us ds as ∧ (sysModules ∈ N → sysModules ∉ as)
  | _, _, _, .nil, .nil => ⟨_, .nil, fun _ => by simp⟩
  | _, _, _, .cons h q, .cons r t => by
    obtain ⟨as, ra, sa⟩ := Dt.reads I h r
    obtain ⟨bs, rb, sb⟩ := DtAll.reads I q t
    refine ⟨_, .cons ra rb, fun z y => ?_⟩
    rcases List.mem_append.mp y with y | y
    · exact sa (.inl z) y
    · exact sb z y
end
end

structure Shw (d : PyData) : Prop where
  sh : d.showable = true
  dp : d.depth ≤ 30
  ln : d.shown.length ≤ sizeLine
  nd : d.hasDict = false ∨ d = .dict []
section
variable {X : Cx} {N : List Addr}
theorem call_reprD {k : Nat} (hr : Room k X.A) : CallR X (.builtin "repr") (fun xs H Q => ∃ x d, xs = [x] ∧ Dt X.K N H x d ∧ (sysModules ∈ N ∨ d.hasDict = false) ∧ d.showable = true ∧ d.depth ≤ 30 ∧ d.shown.length ≤ sizeLine ∧ Q (.str d.shown) H) := by
  intro pins s σ H xs us Q I r h
  obtain ⟨x, d, rfl, hd, hn, h1, h2, h3, q⟩ := h
  obtain ⟨u, rfl, ru⟩ := vals1 r
  have fin : ∀ t tk, EP X pins σ Q (.str d.shown t) { s with toks := tk } := fun t tk => ⟨.str d.shown, H, I.tok tk, ⟨t, rfl⟩, q⟩
  have big : ∀ a, u = .ref a → wpAny (model X.prog X.w) X.A (call (.builtin "repr") [u]) (EP X pins σ Q) X.xe s := fun a e => by
    subst e
    obtain ⟨as, rd, sm⟩ := hd.reads I ru
    refine repr_of_reads' rd h1 (fun z => ?_) hr.gd (by have := hr.units; omega) (fun _ _ e => e) (fun h' t tk kp => ⟨.str d.shown, H, I.kept (t' := tk) kp, ⟨t, rfl⟩, q⟩) h3
    rcases hn with y | y
    · exact sm (.inl y)
    · rw [y] at z; cases z
  cases hd with
  | non => cases ru; exact P.repr_of_none (fin _ _)
  | bl b => cases ru; exact P.repr_of_bool (fin _ _)
  | int i => obtain ⟨t, rfl⟩ := ru; exact P.repr_of_int (by have := h1; simpa only [PyData.showable, decide_eq_true_eq] using this) (fin _ _)
  | str x => obtain ⟨t, rfl⟩ := ru; exact P.repr_of_str (fin _ _) (hsz := h3)
  | tup h n r => cases ru; exact big _ rfl
  | lst h n r => cases ru; exact big _ rfl
  | dk0 h n => cases ru; exact big _ rfl
  | dk1 h n r => cases ru; exact big _ rfl
end
section
variable {D : Ends} {σ : St} {H : Hp} {t u : TS} {te ta tb tc : TE} {c tA tB' : TT} {g : TG} {gs : TGs} {Q : VK} {K : PySem.W.Frag} {i : Nat} {v : V} {vs : List V}
theorem rd_seq (h : t { D with nx := u D } σ H) : tSeq t u D σ H := h
theorem rd_if (h : c σ H fun b H1 => if b = true then t D σ H1 else u D σ H1) : tIfS c t u D σ H := h
theorem rd_asg (h : te σ H fun x H1 => g x σ H1 D.nx) : tAsg te g D σ H := h
theorem rd_drop (h : te σ H fun _ H1 => D.nx σ H1) : tDrop te D σ H := h
theorem rd_ret (h : te σ H D.rt) : tRet te D σ H := h
theorem rd_next (h : D.nx σ H) : tNext D σ H := h
theorem rd_op {r : R2} (h : ta σ H fun x H1 => tb σ H1 fun y H2 => r x y H2 Q) : tOp r ta tb σ H Q := h
theorem rd_un {r : V → Hp → VK → Prop} (h : ta σ H fun x H1 => r x H1 Q) : tUn r ta σ H Q := h
theorem rd_var (e : σ[i]? = some (some v)) (h : Q v H) : tVar i σ H Q := ⟨v, e, h⟩
theorem rd_c (h : Q v H) : tC v σ H Q := h
theorem rd_I0 {f : Int → Int → V} {i j : Int} (h : Q (f i j) H) : rI0 f (.int i) (.int j) H Q := ⟨i, j, rfl, rfl, h⟩
theorem rd_I {C : Int → Int → Prop} {f : Int → Int → V} {i j : Int} (hc : C i j) (h : Q (f i j) H) : rI C f (.int i) (.int j) H Q := ⟨i, j, rfl, rfl, hc, h⟩
theorem rd_U {f : Int → V} {i : Int} (h : Q (f i) H) : rU f (.int i) H Q := ⟨i, rfl, h⟩
theorem rd_test {Q : Bool → Hp → Prop} (h : te σ H fun x H' => ∃ k, x = .bl k ∧ Q k H') : tTest te σ H Q := h
theorem rd_tB {Q : Bool → Hp → Prop} (h : te σ H fun x H' => ∃ k, x = .bl k ∧ Q k H') : tB te σ H Q := h
theorem rd_bl' {P : Bool → Prop} {k : Bool} (h : P k) : ∃ k', V.bl k = .bl k' ∧ P k' := ⟨k, rfl, h⟩
theorem rd_eq {x y : V} (hs : scal x y = true) (h : Q (.bl (decide (x = y))) H) : rEq x y H Q := ⟨hs, h⟩
theorem rd_ne {x y : V} (hs : scal x y = true) (h : Q (.bl (!decide (x = y))) H) : rNe x y H Q := ⟨hs, h⟩
theorem rd_ixL {p : Addr} {xs : List V} {i : Int} (hq : SqL K H p xs) (ha : atI xs i = some v) (h : Q v H) : rIxL K (.ref p) (.int i) H Q := ⟨p, xs, i, v, rfl, rfl, hq, ha, h⟩
theorem rd_ixT {p : Addr} {xs : List V} {i : Int} (hq : SqT K H p xs) (ha : atI xs i = some v) (h : Q v H) : rIxT K (.ref p) (.int i) H Q := ⟨p, xs, i, v, rfl, rfl, hq, ha, h⟩
theorem rd_name {Q : St → Hp → Prop} (h : Q (σ.set i (some v)) H) : gName i v σ H Q := h
theorem rd_sub {to ti : TE} {s : TSet} {Q : St → Hp → Prop} (h : to σ H fun o H1 => ti σ H1 fun i H2 => s o i v H2 fun H3 => Q σ H3) : gSub to ti s v σ H Q := h
theorem rd_setL {p : Addr} {xs : List V} {k : Int} {j : Nat} {Q : Hp → Prop} (hp : H p = some (.lst xs)) (hi : ixN xs.length k = some j) (h : Q (upd H p (.lst (xs.set j v)))) : rSetL (.ref p) (.int k) v H Q := ⟨p, xs, k, j, rfl, rfl, hp, hi, h⟩
theorem rd_CB {r : List V → Hp → VK → Prop} {ta : TA} (h : ta σ H fun vs H1 => r vs H1 Q) : tCB r ta σ H Q := h
theorem rd_nil {Q : List V → Hp → Prop} (h : Q [] H) : tNil σ H Q := h
theorem rd_cons {tr : TA} {Q : List V → Hp → Prop} (h : ta σ H fun x H1 => tr σ H1 fun xs H2 => Q (x :: xs) H2) : tCons ta tr σ H Q := h
theorem rd_and {Q : Bool → Hp → Prop} (h : tA σ H fun c H1 => if c = true then tB' σ H1 Q else Q false H1) : tAnd tA tB' σ H Q := h
theorem rd_or {Q : Bool → Hp → Prop} (h : tA σ H fun c H1 => if c = true then Q true H1 else tB' σ H1 Q) : tOr tA tB' σ H Q := h
theorem rd_not {Q : Bool → Hp → Prop} (h : tA σ H fun c H1 => Q (!c) H1) : tNot tA σ H Q := h
theorem rd_andV (h : ta σ H fun x H1 => ∃ c, x = .bl c ∧ if c = true then tb σ H1 Q else Q (.bl false) H1) : tAndV ta tb σ H Q := h
theorem rd_orV (h : ta σ H fun x H1 => ∃ c, x = .bl c ∧ if c = true then Q (.bl true) H1 else tb σ H1 Q) : tOrV ta tb σ H Q := h
theorem rd_notV (h : ta σ H fun x H1 => ∃ c, x = .bl c ∧ Q (.bl (!c)) H1) : tNotV ta σ H Q := h
theorem rd_ifE (h : c σ H fun c H1 => if c = true then ta σ H1 Q else tb σ H1 Q) : tIf c ta tb σ H Q := h
theorem rd_call {sp : Sp} {dvs : List V} {E : XK} {ta : TA} (h : ta σ H fun vs H1 => sp (vs ++ dvs) H1 Q E) : tCall sp dvs E ta σ H Q := h
theorem rd_tup {ta : TA} (h : ta σ H fun xs H1 => xs.length ≤ sizeLine ∧ ∀ p, H1 p = none → Q (.ref p) (upd H1 p (.tup xs))) : tTup ta σ H Q := h
theorem rd_lst {ta : TA} (h : ta σ H fun xs H1 => xs.length ≤ sizeLine ∧ ∀ p, H1 p = none → Q (.ref p) (upd H1 p (.lst xs))) : tLst ta σ H Q := h
theorem rd_chain {r r' : R2} (h : ta σ H fun x H1 => tb σ H1 fun y H2 => r x y H2 fun z H3 => ∃ k, z = .bl k ∧ if k = true then tc σ H3 fun w H4 => r' y w H4 Q else Q (.bl false) H3) : tChain r r' ta tb tc σ H Q := h
theorem rd_sl {r : V → Option Int → Option Int → Hp → VK → Prop} {tl th : TO} (h : te σ H fun x H1 => tl σ H1 fun l H2 => th σ H2 fun u H3 => r x l u H3 Q) : tSl r te tl th σ H Q := h
theorem rd_nopart {Q : Option Int → Hp → Prop} (h : Q none H) : tNoPart σ H Q := h
theorem rd_part {Q : Option Int → Hp → Prop} (h : te σ H fun x H1 => ∃ i, x = .int i ∧ Q (some i) H1) : tPart te σ H Q := h
theorem rd_int {P : Int → Prop} {i : Int} (h : P i) : ∃ i', V.int i = .int i' ∧ P i' := ⟨i, rfl, h⟩
theorem rd_slL {p : Addr} {xs : List V} {lo hi : Option Int} (hq : SqL K H p xs) (h : ∀ l, H l = none → Q (.ref l) (upd H l (.lst (cutV xs lo hi)))) : rSlL K (.ref p) lo hi H Q := ⟨p, xs, rfl, hq, h⟩
theorem rd_slG {p : Addr} {xs : List V} {lo hi : Option Int} (hq : SqT K H p xs) (h : ∀ q H', (q = p ∨ H q = none) → Same H H' → SqT K H' q (cutV xs lo hi) → Q (.ref q) H') : rSlG K (.ref p) lo hi H Q := ⟨p, xs, rfl, hq, h⟩
theorem rd_catG {p q : Addr} {xs ys : List V} (h1 : SqT K H p xs) (h2 : SqT K H q ys) (hz : xs.length + ys.length ≤ sizeLine) (h : ∀ r H', (r = p ∨ r = q ∨ H r = none) → Same H H' → SqT K H' r (xs ++ ys) → Q (.ref r) H') : rCatG K (.ref p) (.ref q) H Q := ⟨p, q, xs, ys, rfl, rfl, h1, h2, hz, h⟩
theorem rd_tupT {t : TGs} {n : Nat} {p : Addr} {xs : List V} {Q : St → Hp → Prop} (hq : SqT K H p xs) (hl : xs.length = n) (h : t xs σ H Q) : gTup K n t (.ref p) σ H Q := ⟨p, xs, rfl, hq, hl, h⟩
theorem rd_gnil {Q : St → Hp → Prop} (h : Q σ H) : gNil [] σ H Q := ⟨rfl, h⟩
theorem rd_gcons {t : TG} {u : TGs} {v : V} {r : List V} {Q : St → Hp → Prop} (h : t v σ H fun σ' H' => u r σ' H' Q) : gCons t u (v :: r) σ H Q := ⟨v, r, rfl, h⟩
theorem rd_BM {T : String} {r : V → List V → Hp → VK → Prop} {to : TE} {t : TA} (h : to σ H fun x H1 => tyV K T x H1 ∧ t σ H1 fun xs H2 => r x xs H2 Q) : tBM K T r to t σ H Q := h
theorem rd_append {l : Addr} {xs : List V} {y : V} (h1 : H l = some (.lst xs)) (hz : xs.length < sizeLine) (h : Q .non (upd H l (.lst (xs ++ [y])))) : rAppend (.ref l) [y] H Q := ⟨l, xs, y, rfl, rfl, h1, hz, h⟩
theorem rd_rng1 {ta : TA} {R : It → Hp → Prop} (h : ta σ H fun vs H1 => ∃ j : Int, vs = [.int j] ∧ -(2 ^ 62) ≤ j ∧ j < 2 ^ 62 ∧ R (Itr 0 j.toNat) H1) : iRng1 ta σ H R := h
theorem rd_rngV {j : Int} {P : Int → Prop} (h : P j) : ∃ j' : Int, [V.int j] = [.int j'] ∧ P j' := ⟨j, rfl, h⟩
theorem rd_ilist {tl : TE} {R : It → Hp → Prop} (h : tl σ H fun x H1 => ∃ a, x = .ref a ∧ (∃ xs, SqL K H1 a xs) ∧ R (Itl K a) H1) : iList K tl σ H R := h
theorem rd_itup {tl : TE} {R : It → Hp → Prop} (h : tl σ H fun x H1 => ∃ a, x = .ref a ∧ (∃ xs, SqT K H1 a xs) ∧ R (Itt K a) H1) : iTup K tl σ H R := h
end
noncomputable abbrev TR := List V → Hp → VK → Prop
noncomputable def rLen (K : PySem.W.Frag) : TR := fun xs H Q => ∃ p ys, xs = [.ref p] ∧ (SqL K H p ys ∨ SqT K H p ys) ∧ Q (.int ys.length) H
noncomputable def rLenS : TR := fun xs H Q => ∃ z, xs = [.str z] ∧ z.length ≤ sizeLine ∧ Q (.int z.length) H
noncomputable def rIsi (K : PySem.W.Frag) : TR := fun xs H Q => ∃ x T n b, xs = [x, .ty n] ∧ TyS K H x T ∧ subT T n = some b ∧ Q (.bl b) H
noncomputable def rAll (K : PySem.W.Frag) : TR := fun xs H Q => ∃ (p : Addr) (bs : List Bool), xs = [.ref p] ∧ SqL K H p (bs.map V.bl) ∧ Q (.bl (bs.all id)) H
noncomputable def rListOf (K : PySem.W.Frag) : TR := fun xs H Q => ∃ p ys, xs = [.ref p] ∧ (SqL K H p ys ∨ SqT K H p ys) ∧ ∀ l, H l = none → Q (.ref l) (upd H l (.lst ys))
noncomputable def rTupleOf (K : PySem.W.Frag) : TR := fun xs H Q => ∃ p ys, xs = [.ref p] ∧ ((SqL K H p ys ∧ ∀ l, H l = none → Q (.ref l) (upd H l (.tup ys))) ∨ (SqT K H p ys ∧ Q (.ref p) H))
noncomputable def rMin : TR := fun xs H Q => ∃ i j, xs = [.int i, .int j] ∧ Q (.int (if j < i then j else i)) H
noncomputable def rMax : TR := fun xs H Q => ∃ i j, xs = [.int i, .int j] ∧ Q (.int (if j > i then j else i)) H
noncomputable def rStr : TR := fun xs H Q => ∃ i, xs = [.int i] ∧ i.natAbs.log2 < 1920 ∧ Q (.str (toString i)) H
noncomputable def rIsN : R2 := fun x y H Q => y = .non ∧ Q (.bl (decide (x = .non))) H
noncomputable def rNotN : R2 := fun x y H Q => y = .non ∧ Q (.bl (!decide (x = .non))) H
section
variable {X : Cx}
theorem cn_len : CallR X (.builtin "len") (rLen X.K) := call_len_seq
theorem cn_lenS : CallR X (.builtin "len") rLenS := call_len_str
theorem cn_isi : CallR X (.builtin "isinstance") (rIsi X.K) := call_isi
theorem cn_all (hc : X.calm = true) : CallR X (.builtin "all") (rAll X.K) := call_all hc
theorem cn_list : CallR X (.type "list") (rListOf X.K) := call_list_of
theorem cn_tuple : CallR X (.type "tuple") (rTupleOf X.K) := call_tuple_of
theorem cn_min (hc : X.calm = true) : CallR X (.builtin "min") rMin := call_min2 hc
theorem cn_str : CallR X (.type "str") rStr := call_str_int
end
section
variable {H : Hp} {Q : VK} {K : PySem.W.Frag} {N : List Addr} {p : Addr} {xs : List V}
theorem rd_lenL (hq : SqL K H p xs) (h : Q (.int xs.length) H) : rLen K [.ref p] H Q := ⟨p, xs, rfl, .inl hq, h⟩
theorem rd_lenT (hq : SqT K H p xs) (h : Q (.int xs.length) H) : rLen K [.ref p] H Q := ⟨p, xs, rfl, .inr hq, h⟩
theorem rd_isi {x : V} {T n : String} {b : Bool} (ty : TyS K H x T) (hs : subT T n = some b) (h : Q (.bl b) H) : rIsi K [x, .ty n] H Q := ⟨x, T, n, b, rfl, ty, hs, h⟩
theorem rd_listL (hq : SqL K H p xs) (h : ∀ l, H l = none → Q (.ref l) (upd H l (.lst xs))) : rListOf K [.ref p] H Q := ⟨p, xs, rfl, .inl hq, h⟩
theorem rd_listT (hq : SqT K H p xs) (h : ∀ l, H l = none → Q (.ref l) (upd H l (.lst xs))) : rListOf K [.ref p] H Q := ⟨p, xs, rfl, .inr hq, h⟩
theorem rd_tupleL (hq : SqL K H p xs) (h : ∀ l, H l = none → Q (.ref l) (upd H l (.tup xs))) : rTupleOf K [.ref p] H Q := ⟨p, xs, rfl, .inl ⟨hq, h⟩⟩
theorem rd_all {bs : List Bool} (hq : SqL K H p (bs.map V.bl)) (h : Q (.bl (bs.all id)) H) : rAll K [.ref p] H Q := ⟨p, bs, rfl, hq, h⟩
theorem rd_min {i j : Int} (h : Q (.int (if j < i then j else i)) H) : rMin [.int i, .int j] H Q := ⟨i, j, rfl, h⟩
theorem rd_max {i j : Int} (h : Q (.int (if j > i then j else i)) H) : rMax [.int i, .int j] H Q := ⟨i, j, rfl, h⟩
theorem rd_str {i : Int} (hl : i.natAbs.log2 < 1920) (h : Q (.str (toString i)) H) : rStr [.int i] H Q := ⟨i, rfl, hl, h⟩
theorem rd_isN {x : V} (h : Q (.bl (decide (x = .non))) H) : rIsN x .non H Q := ⟨rfl, h⟩
theorem rd_notN {x : V} (h : Q (.bl (!decide (x = .non))) H) : rNotN x .non H Q := ⟨rfl, h⟩
end
theorem atI_in {α : Type} {xs : List α} {i : Int} (h0 : 0 ≤ i) (h1 : i < xs.length) : ∃ v, atI xs i = some v ∧ xs[i.toNat]? = some v := by
  obtain ⟨n, rfl⟩ := Int.eq_ofNat_of_zero_le h0
  have hn : n < xs.length := by omega
  exact ⟨xs[n], atI_nat (by simp [hn]), by simp [hn]⟩
theorem atI_ints {ns : List Int} {i : Int} (h0 : 0 ≤ i) (h1 : i < ns.length) : ∃ n, atI (ns.map V.int) i = some (.int n) ∧ n ∈ ns := by
  obtain ⟨v, h2, h3⟩ := atI_in (xs := ns.map V.int) h0 (by simpa using h1)
  rw [List.getElem?_map] at h3
  cases e : ns[i.toNat]? with
  | none => rw [e] at h3; cases h3
  | some n => rw [e] at h3; cases h3; exact ⟨n, h2, List.mem_of_getElem? e⟩
noncomputable def CompW (σ0 : St) (J : It) (H1 : Hp) (acc : Addr) (g : TG) (tt : TT) (te : TE) (Q : VK) : Prop := ∃ W : Nat → Nat → St → Hp → Prop, (∃ m, W 0 m σ0 (upd H1 acc (.lst []))) ∧ ∀ i m σc H, W i m σc H →
    (J.stop i H ∧ Q (.ref acc) H) ∨ (J.go i H ∧ ∃ N : St → Hp → Prop, (∀ σ' H', N σ' H' → ∃ m', m' < m ∧ W (i + 1) m' σ' H') ∧ ∀ x H', J.yld i H x H' → g x σc H' fun σ2 H2 => tt σ2 H2 fun b H3 =>
      if b = true then te σ2 H3 fun v H4 => ∃ xs, H4 acc = some (.lst xs) ∧ xs.length < sizeLine ∧ N σ2 (upd H4 acc (.lst (xs ++ [v]))) else N σ2 H3)
noncomputable def ForW (J : It) (g : TG) (tb : TS) (D : Ends) (σ : St) (H : Hp) : Prop := ∃ W : Nat → Nat → St → Hp → Prop, (∃ m, W 0 m σ H) ∧ ∀ i m σ H, W i m σ H →
  (J.stop i H ∧ D.nx σ H) ∨ (J.go i H ∧ ∃ N : St → Hp → Prop, (∀ σ' H', N σ' H' → ∃ m', m' < m ∧ W (i + 1) m' σ' H') ∧ ∀ x H', J.yld i H x H' → g x σ H' fun σ2 H2 => tb { D with nx := N, ct := N, bk := D.nx } σ2 H2)
section
variable {J : It} {H1 : Hp} {acc : Addr} {σ0 : St} {g : TG} {te : TE} {Q : VK}
theorem comp_by (n : Nat) (hn : n < sizeLine) (Pv : Nat → List V → St → Hp → Prop) (h0 : Pv 0 [] σ0 (upd H1 acc (.lst [])))
    (hgo : ∀ i vs σc H, i < n → vs.length = i → H acc = some (.lst vs) → Pv i vs σc H → J.go i H ∧ ∀ x H', J.yld i H x H' → ∀ R : St → V → Hp → Prop,
      (∀ σ2 v H4, H4 acc = some (.lst vs) → Pv (i + 1) (vs ++ [v]) σ2 (upd H4 acc (.lst (vs ++ [v]))) → R σ2 v H4) → g x σc H' fun σ2 H2 => te σ2 H2 (R σ2))
    (hst : ∀ vs σc H, vs.length = n → H acc = some (.lst vs) → Pv n vs σc H → J.stop n H ∧ Q (.ref acc) H) :
    CompW σ0 J H1 acc g tYes te Q := by
  refine ⟨fun i m σc H => m = n - i ∧ i ≤ n ∧ ∃ vs, vs.length = i ∧ H acc = some (.lst vs) ∧ Pv i vs σc H, ⟨n, by simp, Nat.zero_le _, [], rfl, upd_same, h0⟩, ?_⟩
  rintro i m σc H ⟨rfl, hi, vs, hl, ha, hp⟩
  by_cases hlt : i < n
  · obtain ⟨g1, g2⟩ := hgo i vs σc H hlt hl ha hp
    refine .inr ⟨g1, fun σ' H' => i + 1 ≤ n ∧ ∃ vs, vs.length = i + 1 ∧ H' acc = some (.lst vs) ∧ Pv (i + 1) vs σ' H', fun σ' H' q => ⟨n - (i + 1), by omega, rfl, q⟩, fun x H' y => ?_⟩
    simp only [tYes, if_true]
    exact g2 x H' y (fun σ2 v H4 => ∃ xs, H4 acc = some (.lst xs) ∧ xs.length < sizeLine ∧ (i + 1 ≤ n ∧ ∃ vs, vs.length = i + 1 ∧ (upd H4 acc (.lst (xs ++ [v]))) acc = some (.lst vs) ∧ Pv (i + 1) vs σ2 (upd H4 acc (.lst (xs ++ [v])))))
      fun σ2 v H4 q1 q2 => ⟨vs, q1, by omega, hlt, vs ++ [v], by simp [hl], upd_same, q2⟩
  · have e : i = n := by omega
    subst e
    exact .inl (hst vs σc H hl ha hp)
end
theorem rd_comp {K : PySem.W.Frag} {fr : List (Option Nat)} {wi : TI} {g : TG} {tt : TT} {te : TE} {σ : St} {H : Hp} {Q : VK} (h : wi σ H fun J H1 => ∀ acc, H1 acc = none → K.lookup acc = none → CompW (stC fr σ) J H1 acc g tt te Q) : tComp K fr wi g tt te σ H Q := h
theorem rd_for {wi : TI} {g : TG} {tb : TS} {D : Ends} {σ : St} {H : Hp} (h : wi σ H fun J H1 => ForW J g tb D σ H1) : tFor wi g tb D σ H := h
theorem for_listW {K : PySem.W.Frag} {a : Addr} {xs : List V} {g : TG} {tb : TS} {D : Ends} {σ : St} {H : Hp} (Pv : Nat → St → Hp → Prop) (h0 : Pv 0 σ H) (hl : ∀ i σ H, i ≤ xs.length → Pv i σ H → SqL K H a xs)
    (hs : ∀ i x σ H, xs[i]? = some x → Pv i σ H → g x σ H fun σ2 H2 => tb { D with nx := Pv (i + 1), ct := Pv (i + 1), bk := D.nx } σ2 H2) (hd : ∀ σ H, Pv xs.length σ H → D.nx σ H) : ForW (Itl K a) g tb D σ H := for_list Pv h0 hl hs hd
theorem for_tupW {K : PySem.W.Frag} {a : Addr} {xs : List V} {g : TG} {tb : TS} {D : Ends} {σ : St} {H : Hp} (Pv : Nat → St → Hp → Prop) (h0 : Pv 0 σ H) (hl : ∀ i σ H, i ≤ xs.length → Pv i σ H → SqT K H a xs)
    (hs : ∀ i x σ H, xs[i]? = some x → Pv i σ H → g x σ H fun σ2 H2 => tb { D with nx := Pv (i + 1), ct := Pv (i + 1), bk := D.nx } σ2 H2) (hd : ∀ σ H, Pv xs.length σ H → D.nx σ H) : ForW (Itt K a) g tb D σ H := for_tup Pv h0 hl hs hd
theorem for_rangeW {lo : Int} {n : Nat} {g : TG} {tb : TS} {D : Ends} {σ : St} {H : Hp} (Pv : Nat → St → Hp → Prop) (h0 : Pv 0 σ H)
    (hs : ∀ i σ H, i < n → Pv i σ H → g (.int (lo + i)) σ H fun σ2 H2 => tb { D with nx := Pv (i + 1), ct := Pv (i + 1), bk := D.nx } σ2 H2) (hd : ∀ σ H, Pv n σ H → D.nx σ H) : ForW (Itr lo n) g tb D σ H := for_range Pv h0 hs hd
theorem rd_izip {K : PySem.W.Frag} {ta : TA} {σ : St} {H : Hp} {R : It → Hp → Prop} (h : ta σ H fun vs H1 => ∃ a b, vs = [.ref a, .ref b] ∧ (∃ xs, SqT K H1 a xs) ∧ (∃ ys, SqT K H1 b ys) ∧ R (Itz K a b) H1) : iZip K ta σ H R := h
theorem subT_of {T n : String} (h1 : T ∈ ["NoneType", "bool", "int", "str", "list", "tuple", "dict"]) (h2 : n ∈ ["int", "bool", "str", "tuple", "list", "dict"]) : subT T n = some (isB T n) := subT_tab T h1 n h2
noncomputable def tyN : PyData → String
  | .none => "NoneType"
  | .bool _ => "bool"
  | .int _ => "int"
  | .str _ => "str"
  | .list _ => "list"
  | .tuple _ => "tuple"
  | .dict _ => "dict"
theorem tyN_in (d : PyData) : tyN d ∈ ["NoneType", "bool", "int", "str", "list", "tuple", "dict"] := by cases d <;> simp [tyN]
theorem Dt.tyn {K : PySem.W.Frag} {N : List Addr} {H : Hp} {v : V} {d : PyData} (h : Dt K N H v d) : TyS K H v (tyN d) := by
  cases h with
  | non => exact .non
  | bl b => exact .bl b
  | int i => exact .int i
  | str x => exact .str x
  | tup h n r => exact .tup h
  | lst h n r => exact .lst h
  | dk0 h n => exact .dk h
  | dk1 h n r => exact .dk h
noncomputable def isTupD : PyData → Bool
  | .tuple _ => true
  | _ => false
noncomputable def isIntD : PyData → Bool
  | .int _ => true
  | .bool _ => true
  | _ => false
noncomputable def isBoolD : PyData → Bool
  | .bool _ => true
  | _ => false
noncomputable def isStrD : PyData → Bool
  | .str _ => true
  | _ => false
noncomputable def isListD : PyData → Bool
  | .list _ => true
  | _ => false
section
variable {K : PySem.W.Frag} {N : List Addr} {H : Hp} {x : V} {d : PyData} {Q : VK}
theorem rd_isiTup (hd : Dt K N H x d) (h : Q (.bl (isTupD d)) H) : rIsi K [x, .ty "tuple"] H Q := by
  refine rd_isi hd.tyn (subT_of (tyN_in d) (by simp)) ?_
  have e : isB (tyN d) "tuple" = isTupD d := by cases d <;> (dsimp only [tyN, isTupD, isIntD, isBoolD, isStrD, isListD]; decide)
  rw [e]; exact h
theorem rd_isiInt (hd : Dt K N H x d) (h : Q (.bl (isIntD d)) H) : rIsi K [x, .ty "int"] H Q := by
  refine rd_isi hd.tyn (subT_of (tyN_in d) (by simp)) ?_
  have e : isB (tyN d) "int" = isIntD d := by cases d <;> (dsimp only [tyN, isTupD, isIntD, isBoolD, isStrD, isListD]; decide)
  rw [e]; exact h
theorem rd_isiBool (hd : Dt K N H x d) (h : Q (.bl (isBoolD d)) H) : rIsi K [x, .ty "bool"] H Q := by
  refine rd_isi hd.tyn (subT_of (tyN_in d) (by simp)) ?_
  have e : isB (tyN d) "bool" = isBoolD d := by cases d <;> (dsimp only [tyN, isTupD, isIntD, isBoolD, isStrD, isListD]; decide)
  rw [e]; exact h
theorem rd_isiStr (hd : Dt K N H x d) (h : Q (.bl (isStrD d)) H) : rIsi K [x, .ty "str"] H Q := by
  refine rd_isi hd.tyn (subT_of (tyN_in d) (by simp)) ?_
  have e : isB (tyN d) "str" = isStrD d := by cases d <;> (dsimp only [tyN, isTupD, isIntD, isBoolD, isStrD, isListD]; decide)
  rw [e]; exact h
theorem rd_isiList (hd : Dt K N H x d) (h : Q (.bl (isListD d)) H) : rIsi K [x, .ty "list"] H Q := by
  refine rd_isi hd.tyn (subT_of (tyN_in d) (by simp)) ?_
  have e : isB (tyN d) "list" = isListD d := by cases d <;> (dsimp only [tyN, isTupD, isIntD, isBoolD, isStrD, isListD]; decide)
  rw [e]; exact h
end
theorem rd_iteT {i : Decidable (true = true)} {A B : Prop} (h : A) : @ite Prop (true = true) i A B := by rw [if_pos rfl]; exact h
theorem rd_iteF {i : Decidable (false = true)} {A B : Prop} (h : B) : @ite Prop (false = true) i A B := by rw [if_neg Bool.false_ne_true]; exact h
theorem rd_ite2 {c : Bool} {i : Decidable (c = true)} {A B : Prop} (h1 : c = true → A) (h2 : c = false → B) : @ite Prop (c = true) i A B := by
  cases c with
  | true => rw [if_pos rfl]; exact h1 rfl
  | false => rw [if_neg Bool.false_ne_true]; exact h2 rfl
theorem Same.upd2 {H H' : Hp} {p : Addr} {o : HO} (s : Same H H') (h : H p = none) : Same H (L2.upd H' p o) := fun b u e => by rw [upd_ne (ne_of_none e h)]; exact s b u e
theorem Ext.upd2 {N : List Addr} {H H' : Hp} {p : Addr} {o : HO} (s : Ext N H H') (h : H p = none) : Ext N H (L2.upd H' p o) := fun b u e n => by rw [upd_ne (ne_of_none e h)]; exact s b u e n
theorem Dt.pair {K : PySem.W.Frag} {N : List Addr} {H : Hp} {v : V} {a b : Int} (h : Dt K N H v (.tuple [.int a, .int b])) : ∃ p, v = .ref p ∧ SqT K H p [.int a, .int b] ∧ p ∉ N := by
  cases h with
  | tup h n r =>
    cases r with
    | cons h1 r => cases r with
      | cons h2 r => cases r; cases h1; cases h2; exact ⟨_, rfl, h, n⟩
theorem DtAll.at {K : PySem.W.Frag} {N : List Addr} {H : Hp} {vs : List V} {ds : List PyData} {i : Nat} (r : DtAll K N H vs ds) (h : i < ds.length) : ∃ v d, vs[i]? = some v ∧ ds[i]? = some d ∧ Dt K N H v d := by
  have e : ds[i]? = some ds[i] := by simp [h]
  obtain ⟨v, h1, h2⟩ := r.getD e
  exact ⟨v, ds[i], h1, e, h2⟩
theorem cutV_tail (xs : List V) : cutV xs (some 1) none = xs.drop 1 := by
  unfold cutV
  have e : HT.sIx xs.length 0 (some 1) = min 1 xs.length := HT.sIx_nat _ _ 1
  rw [e, HT.sIx_none]
  cases xs with
  | nil => simp
  | cons x r => rw [List.length_cons, Nat.min_eq_left (by omega)]; simp
section
variable {X : Cx} {K : PySem.W.Frag}
theorem ix_tupK (h : X.K = K) : IxR X (rIxT K) := h ▸ ix_tup
theorem pg_tupK {es : List Expr} {k : Nat} {t : TGs} {n : Nat} {pos : Pos} (hK : X.K = K) (hc : X.calm = true) (h : PGs X es t)
    (hn : (assignEach es X.env).length = n := by rfl) (hst : (assignEach es X.env).findIdx? (·.1) = none := by rfl) : PG X (.Tuple es k pos) (gTup K n t) := hK ▸ pg_tup hc h hn hst
end
end L2

namespace L2
open PySem
structure StOk (K : PySem.W.Frag) (H : Hp) (st : Addr) : Prop where
  ex : ∃ (c : Addr) (cs : List Int) (p q r : Int), H st = some (.lst [.ref c, .int p, .int q, .int r]) ∧ H c = some (.lst (cs.map V.int)) ∧ c ≠ st ∧ 1 ≤ cs.length ∧ cs.length ≤ 63 ∧ 0 ≤ p ∧ 0 ≤ q ∧ 0 ≤ r ∧ r < 2147483647
theorem StOk.ext {K : PySem.W.Frag} {H H' : Hp} {st : Addr} (h : StOk K H st) (e : ∀ b o, H b = some o → H' b = some o) : StOk K H' st := by
  obtain ⟨c, cs, p, q, r, h1, h2, h3⟩ := h.ex
  exact ⟨c, cs, p, q, r, e _ _ h1, e _ _ h2, h3⟩
theorem sz {n : Nat} (h : n ≤ 1000) : n ≤ sizeLine := Nat.le_trans h (by decide)
end L2
namespace Mt
open PySem
noncomputable def numD : PyData → Bool
  | .int _ => true
  | _ => false
noncomputable def withinD (a b : Int) : PyData → Bool
  | .int i => decide (a ≤ i) && decide (i ≤ b)
  | _ => false
noncomputable def begunD : PyData → Bool
  | .tuple [x, y] => withinD 0 1000000000 x && withinD 0 1000000 y
  | _ => false
noncomputable def chk : Int → Int → List PyData → Bool
  | _, _, [] => true
  | l, f, .tuple [.int a, .int b] :: r => decide (l < a) && decide (a ≤ 1000000000) && decide (f ≤ b) && decide (b ≤ 1000000) && chk a b r
  | _, _, _ :: _ => false
noncomputable def first0 : List PyData → Bool
  | .tuple [.int _, .int b] :: _ => decide (b = 0)
  | _ => false
noncomputable def histD : PyData → Bool
  | .tuple ds => decide (1 ≤ ds.length) && decide (ds.length ≤ 60) && chk (-1) 0 ds && first0 ds
  | _ => false
theorem begun_shape {d : PyData} (h : begunD d = true) : ∃ a b, d = .tuple [.int a, .int b] ∧ 0 ≤ a ∧ a ≤ 1000000000 ∧ 0 ≤ b ∧ b ≤ 1000000 := by
  unfold begunD at h
  split at h
  · rename_i x y
    simp only [Bool.and_eq_true] at h
    obtain ⟨h1, h2⟩ := h
    unfold withinD at h1 h2
    split at h1
    · split at h2
      · rename_i i _ j
        simp only [Bool.and_eq_true, decide_eq_true_eq] at h1 h2
        exact ⟨_, _, rfl, h1.1, h1.2, h2.1, h2.2⟩
      · cases h2
    · cases h1
  · cases h
theorem chk_cons_int (l f a b : Int) (r : List PyData) : chk l f (.tuple [.int a, .int b] :: r) = (decide (l < a) && decide (a ≤ 1000000000) && decide (f ≤ b) && decide (b ≤ 1000000) && chk a b r) := by
  simp only [chk]
theorem chk_begun : ∀ {ds : List PyData} {l f : Int}, -1 ≤ l → 0 ≤ f → chk l f ds = true → ds.all begunD = true
  | [], _, _, _, _, _ => rfl
  | d :: r, l, f, hl, hf, h => by
    unfold chk at h
    split at h
    · rename_i heq; cases heq
    · rename_i a b r' heq
      cases heq
      simp only [Bool.and_eq_true, decide_eq_true_eq] at h
      obtain ⟨⟨⟨⟨h1, h2⟩, h3⟩, h4⟩, h5⟩ := h
      rw [List.all_cons, chk_begun (by omega) (by omega) h5]
      simp only [begunD, withinD, Bool.and_eq_true, decide_eq_true_eq, Bool.and_true]
      exact ⟨⟨by omega, h2⟩, by omega, h4⟩
    · cases h
noncomputable def rise (ds : List PyData) (i : Nat) : Bool :=
  match ds[i]?, ds[i + 1]? with
  | some (.tuple [.int a, .int b]), some (.tuple [.int c, .int d]) => decide (a < c) && decide (b ≤ d)
  | _, _ => false
theorem chk_rise : ∀ {ds : List PyData} {l f a b : Int} {r : List PyData}, ds = .tuple [.int a, .int b] :: r → ds.all begunD = true → (chk l f ds = (decide (l < a) && decide (f ≤ b) && (List.range r.length).all (rise ds)))
  | _, l, f, a, b, [], rfl, h => by
    rw [List.all_cons] at h
    simp only [begunD, withinD, Bool.and_eq_true, decide_eq_true_eq] at h
    rw [chk_cons_int]
    simp [chk, h.1.1.2, h.1.2.2]
  | _, l, f, a, b, d :: r, rfl, h => by
    have h0 := h
    rw [List.all_cons, Bool.and_eq_true] at h
    obtain ⟨h1, h2⟩ := h
    have h2' := h2
    rw [List.all_cons, Bool.and_eq_true] at h2
    obtain ⟨c, e, rfl, _⟩ := begun_shape h2.1
    simp only [begunD, withinD, Bool.and_eq_true, decide_eq_true_eq] at h1
    rw [chk_cons_int, chk_rise (l := a) (f := b) rfl h2', List.length_cons, List.range_succ_eq_map, List.all_cons, List.all_map]
    have e1 : rise (.tuple [.int a, .int b] :: .tuple [.int c, .int e] :: r) 0 = (decide (a < c) && decide (b ≤ e)) := by simp [rise]
    have e2 : (rise (.tuple [.int a, .int b] :: .tuple [.int c, .int e] :: r) ∘ Nat.succ) = rise (.tuple [.int c, .int e] :: r) := by
      funext i; simp [rise]
    rw [e1, e2, decide_eq_true h1.1.2, decide_eq_true h1.2.2]
    simp only [Bool.and_true]
theorem hist_of_begun {ds : List PyData} (h1 : 1 ≤ ds.length) (h2 : ds.length ≤ 60) (hb : ds.all begunD = true) (hf : first0 ds = true) : histD (.tuple ds) = (List.range (ds.length - 1)).all (rise ds) := by
  cases ds with
  | nil => simp at h1
  | cons d r =>
    have hb' := hb
    rw [List.all_cons, Bool.and_eq_true] at hb'
    obtain ⟨a, b, rfl, g1, g2, g3, g4⟩ := begun_shape hb'.1
    have e : decide (-1 < a) = true := decide_eq_true (by omega)
    have e' : decide (0 ≤ b) = true := decide_eq_true g3
    simp only [histD, hf, Bool.true_and, Bool.and_true, chk_rise (l := -1) (f := 0) rfl hb, e, e', decide_eq_true h1, decide_eq_true h2]
    rfl
theorem hist_not_begun {ds : List PyData} (hb : ds.all begunD = false) : histD (.tuple ds) = false := by
  cases h : histD (.tuple ds) with
  | false => rfl
  | true =>
    simp only [histD, Bool.and_eq_true, decide_eq_true_eq] at h
    rw [chk_begun (by omega) (by omega) h.1.2] at hb
    cases hb
theorem numD_int {d : PyData} (h : numD d = true) : ∃ a, d = .int a := by
  cases d with
  | int a => exact ⟨a, rfl⟩
  | _ => cases h
theorem p9 : (10 : Int) ^ (9 : Int).toNat = 1000000000 := by decide
theorem p6 : (10 : Int) ^ (6 : Int).toNat = 1000000 := by decide
end Mt

namespace Mt
open PySem L2
structure Itm (w k : Nat) (d : PyData) : Prop where
  sh : d.showable = true
  lv : d.leavesShort 50 = true
  wt : d.weight ≤ w
  dp : d.depth ≤ k
  cl : d.canLay0 = true
theorem Itm.mono {w w' k k' : Nat} {d : PyData} (h : Itm w k d) (h1 : w ≤ w') (h2 : k ≤ k') : Itm w' k' d := ⟨h.sh, h.lv, Nat.le_trans h.wt h1, Nat.le_trans h.dp h2, h.cl⟩
theorem itm_none : Itm 0 0 .none := ⟨rfl, rfl, Nat.le_refl _, Nat.le_refl _, rfl⟩
theorem itm_bool (b : Bool) : Itm 0 0 (.bool b) := ⟨rfl, rfl, Nat.le_refl _, Nat.le_refl _, rfl⟩
theorem log2_le {n : Nat} (h : n < 10 ^ 41) : n.log2 < 140 := by
  by_cases h0 : n = 0
  · subst h0; decide
  · exact (Nat.log2_lt h0).mpr (Nat.lt_of_lt_of_le h (by decide))
theorem itm_int {i : Int} (h : i.natAbs < 10 ^ 41) : Itm 140 0 (.int i) := by
  have hl := log2_le h
  refine ⟨?_, ?_, ?_, Nat.le_refl _, rfl⟩
  · simp only [PyData.showable, decide_eq_true_eq]; omega
  · have e := int_text_length_le10 (k := 41) (by decide) h
    have e' : (PyData.shown (.int i)).length = (toString i).length := ofString_length _
    simp only [PyData.leavesShort, decide_eq_true_eq, e']; omega
  · simp only [PyData.weight]
    split <;> omega
noncomputable def cpsOk (x : Str) : Prop := (x.cps.toList.all fun c => decide (c < 1114112)) = true
theorem cps_lv {x : Str} (h : cpsOk x) : (x.cps.toList.all fun c => decide (c < 16 ^ 8)) = true := by
  unfold cpsOk at h
  rw [List.all_eq_true] at h ⊢
  intro c hc
  have := h c hc
  rw [decide_eq_true_eq] at this ⊢
  exact Nat.lt_trans this (by decide)
theorem cps_ok {x : Str} (h : cpsOk x) : (PyData.str x).canLay0 = true := by
  rw [PyData.canLay0.eq_4]
  unfold PyData.strOk
  rw [← Array.all_toList]
  exact h
theorem itm_str {x : Str} (h : cpsOk x) (hl : x.length ≤ 140) : Itm 140 0 (.str x) := ⟨rfl, cps_lv h, hl, Nat.le_refl _, cps_ok h⟩
theorem all_showable {w k : Nat} : ∀ {ds : List PyData}, (∀ d ∈ ds, Itm w k d) → PyData.showableAll ds = true
  | [], _ => rfl
  | d :: r, h => by
    simp only [PyData.showableAll, Bool.and_eq_true]
    exact ⟨(h d (by simp)).sh, all_showable fun e he => h e (List.mem_cons_of_mem _ he)⟩
theorem all_leaves {w k : Nat} : ∀ {ds : List PyData}, (∀ d ∈ ds, Itm w k d) → PyData.leavesShortAll 50 ds = true
  | [], _ => rfl
  | d :: r, h => by
    simp only [PyData.leavesShortAll, Bool.and_eq_true]
    exact ⟨(h d (by simp)).lv, all_leaves fun e he => h e (List.mem_cons_of_mem _ he)⟩
theorem all_weight {w k : Nat} : ∀ {ds : List PyData}, (∀ d ∈ ds, Itm w k d) → PyData.weightAll ds ≤ ds.length * (w + 1)
  | [], _ => by simp [PyData.weightAll]
  | d :: r, h => by
    have h1 := (h d (by simp)).wt
    have h2 := all_weight (ds := r) fun e he => h e (List.mem_cons_of_mem _ he)
    simp only [PyData.weightAll, List.length_cons, Nat.add_mul, Nat.one_mul]
    omega
theorem all_depth {w k : Nat} : ∀ {ds : List PyData}, (∀ d ∈ ds, Itm w k d) → PyData.depthAll ds ≤ k
  | [], _ => by simp [PyData.depthAll]
  | d :: r, h => by
    simp only [PyData.depthAll]
    exact Nat.max_le.mpr ⟨(h d (by simp)).dp, all_depth fun e he => h e (List.mem_cons_of_mem _ he)⟩
theorem all_nodict {w k : Nat} : ∀ {ds : List PyData}, (∀ d ∈ ds, Itm w k d) → PyData.canLayAll0 ds = true
  | [], _ => rfl
  | d :: r, h => by
    simp only [PyData.canLayAll0, Bool.and_eq_true]
    exact ⟨(h d (by simp)).cl, all_nodict fun e he => h e (List.mem_cons_of_mem _ he)⟩
theorem itm_tuple {w k n : Nat} {ds : List PyData} (h : ∀ d ∈ ds, Itm w k d) (hn : ds.length ≤ n) : Itm (n * (w + 1)) (k + 1) (.tuple ds) :=
  ⟨all_showable h, all_leaves h, Nat.le_trans (all_weight h) (Nat.mul_le_mul_right _ hn), Nat.succ_le_succ (all_depth h), all_nodict h⟩
noncomputable def okP : Int → Int → List (Int × Int) → Prop
  | _, _, [] => True
  | l, f, (a, b) :: r => l < a ∧ a ≤ 1000000000 ∧ f ≤ b ∧ b ≤ 1000000 ∧ okP a b r
structure HOK (hs : List (Int × Int)) : Prop where
  len1 : 1 ≤ hs.length
  len2 : hs.length ≤ 60
  ok : okP (-1) 0 hs
  zero : ∃ a r, hs = (a, 0) :: r
end Mt
namespace L2
open PySem
theorem sub_not {N N' : List Addr} (h : ∀ b ∈ N', b ∈ N) {a : Addr} (n : a ∉ N) : a ∉ N' := fun z => n (h a z)
mutual
theorem Dt.weaken {K : PySem.W.Frag} {N N' : List Addr} {H : Hp} (h : ∀ b ∈ N', b ∈ N) : ∀ {v : V} {d : PyData}, Dt K N H v d → Dt K N' H v d
  | _, _, .non => .non
  | _, _, .bl b => .bl b
  | _, _, .int i => .int i
  | _, _, .str x => .str x
  | _, _, .tup q n r => .tup q (sub_not h n) (DtAll.weaken h r)
  | _, _, .lst q n r => .lst q (sub_not h n) (DtAll.weaken h r)
  | _, _, .dk0 q n => .dk0 q (sub_not h n)
  | _, _, .dk1 q n r => .dk1 q (sub_not h n) (Dt.weaken h r)
theorem DtAll.weaken {K : PySem.W.Frag} {N N' : List Addr} {H : Hp} (h : ∀ b ∈ N', b ∈ N) : ∀ {vs : List V} {ds : List PyData}, DtAll K N H vs ds → DtAll K N' H vs ds
  | _, _, .nil => .nil
  | _, _, .cons q r => .cons (Dt.weaken h q) (DtAll.weaken h r)
end
theorem StOk.at {K : PySem.W.Frag} {H : Hp} {st : Addr} (h : StOk K H st) : ∃ xs, H st = some (.lst xs) := by
  obtain ⟨c, cs, p, q, r, h1, _⟩ := h.ex
  exact ⟨_, h1⟩
theorem StOk.ne {K : PySem.W.Frag} {H : Hp} {st p : Addr} (h : StOk K H st) (n : H p = none) : p ≠ st := by
  obtain ⟨xs, e⟩ := h.at
  exact fun z => by rw [z, e] at n; cases n
theorem rd_seqK {t u : TS} {D : Ends} {σ : St} {H : Hp} (P : St → Hp → Prop) (hu : ∀ σ' H', P σ' H' → u D σ' H') (h : (∀ σ' H', P σ' H' → u D σ' H') → t { D with nx := u D } σ H) : tSeq t u D σ H := h hu
theorem cps_ofString (s : String) : Mt.cpsOk (Str.ofString s) := by
  unfold Mt.cpsOk
  rw [Str.ofString_eq_toList]
  simp only [List.toList_toArray, List.all_map, List.all_eq_true]
  intro c _
  have : c.toNat < 1114112 := by
    have := c.valid
    rcases this with h | h
    · exact Nat.lt_of_lt_of_le h (by decide)
    · exact Nat.lt_of_lt_of_le h.2 (by decide)
  simp only [Function.comp, decide_eq_true_eq]
  exact this
noncomputable def tTupA (t : TA) : TE := fun σ H Q => t σ H fun xs H1 => xs.length ≤ sizeLine ∧ ∀ p H', H1 p = none → Same H1 H' → H' p = some (.tup xs) → Q (.ref p) H'
noncomputable def tLstA (t : TA) : TE := fun σ H Q => t σ H fun xs H1 => xs.length ≤ sizeLine ∧ ∀ p H', H1 p = none → Same H1 H' → H' p = some (.lst xs) → Q (.ref p) H'
noncomputable def tDNewA : TE := fun _ H Q => ∀ p H', H p = none → Same H H' → H' p = some (.dK []) → Q (.ref p) H'
noncomputable def rCatA : R2 := fun x y H Q => ∃ l b xs zs, x = .ref l ∧ y = .ref b ∧ H l = some (.lst xs) ∧ H b = some (.lst zs) ∧ xs.length + zs.length ≤ sizeLine ∧ ∀ p H', H p = none → Same H H' → H' p = some (.lst (xs ++ zs)) → Q (.ref p) H'
noncomputable def rSlA (K : PySem.W.Frag) : V → Option Int → Option Int → Hp → VK → Prop := fun x lo hi H Q => ∃ a xs, x = .ref a ∧ SqL K H a xs ∧ ∀ p H', H p = none → Same H H' → H' p = some (.lst (cutV xs lo hi)) → Q (.ref p) H'
noncomputable def rListA (K : PySem.W.Frag) : TR := fun xs H Q => ∃ p ys, xs = [.ref p] ∧ (SqL K H p ys ∨ SqT K H p ys) ∧ ∀ l H', H l = none → Same H H' → H' l = some (.lst ys) → Q (.ref l) H'
noncomputable def rTupleA (K : PySem.W.Frag) : TR := fun xs H Q => ∃ p ys, xs = [.ref p] ∧ (SqL K H p ys ∨ SqT K H p ys) ∧ ∀ l H', (l = p ∨ H l = none) → Same H H' → SqT K H' l ys → Q (.ref l) H'
section
open PyProof.Rows
variable {X : Cx} {es : List Expr} {t : TA} {pos : Pos} {K : PySem.W.Frag}
theorem pe_tupA {x1} (h : PA X es t) : PE X (.Tuple es x1 pos) (tTupA t) := by
  intro pins s σ H Q I hq
  refine wpAny_Tuple_spliced (thn (h pos pins s σ H _ I hq) fun us s1 ⟨xs, H1, I1, r, z, q⟩ => ⟨by rw [← r.length]; exact z, ?_⟩)
  have hf : H1 s1.heap.objs.size = none := I1.hok.fresh (Nat.le_refl _)
  exact ⟨.ref s1.heap.objs.size, upd H1 s1.heap.objs.size (.tup xs), I1.laid (t' := s1.toks) (fun b u e => Heap.get?_push_of_some _ e) (Nat.le_refl _) ⟨z, us, r, ⟨_, Heap.get?_push_size _ rfl, rfl, _, rfl⟩⟩, rfl, q _ _ hf (Same.upd hf) upd_same⟩
theorem pe_lstA (h : PA X es t) : PE X (.List es pos) (tLstA t) := by
  intro pins s σ H Q I hq
  refine wpAny_List_spliced (thn (h pos pins s σ H _ I hq) fun us s1 ⟨xs, H1, I1, r, z, q⟩ => ⟨by rw [← r.length]; exact z, ?_⟩)
  have hf : H1 s1.heap.objs.size = none := I1.hok.fresh (Nat.le_refl _)
  exact ⟨.ref s1.heap.objs.size, upd H1 s1.heap.objs.size (.lst xs), I1.laid (t' := s1.toks) (fun b u e => Heap.get?_push_of_some _ e) (Nat.le_refl _) ⟨z, us, 0, r, Heap.get?_push_size _ rfl⟩, rfl, q _ _ hf (Same.upd hf) upd_same⟩
theorem pe_dnewA : PE X (.Dict [] [] pos) tDNewA := fun pins s σ H Q I h => pe_dnewK pins s σ H Q I fun p hp => h p _ hp (Same.upd hp) upd_same
theorem op_catA : OpR X (binaryOp .Add) rCatA := fun pins s σ H x y v u Q I rx ry ⟨l, b, xs, zs, h1, h2, h3, h4, h5, h6⟩ => op_cat pins s σ H x y v u Q I rx ry ⟨l, b, xs, zs, h1, h2, h3, h4, h5, fun p hp => h6 p _ hp (Same.upd hp) upd_same⟩
theorem cn_listA (hK : X.K = K) : CallR X (.type "list") (rListA K) := fun pins s σ H xs us Q I r ⟨p, ys, h1, h2, h3⟩ => cn_list pins s σ H xs us Q I r ⟨p, ys, h1, by rw [hK]; exact h2, fun l hl => h3 l _ hl (Same.upd hl) upd_same⟩
theorem cn_tupleA (hK : X.K = K) : CallR X (.type "tuple") (rTupleA K) := fun pins s σ H xs us Q I r ⟨p, ys, h1, h2, h3⟩ => cn_tuple pins s σ H xs us Q I r ⟨p, ys, h1, by
  rw [hK]
  rcases h2 with h2 | h2
  · exact .inl ⟨h2, fun l hl => h3 l _ (.inr hl) (Same.upd hl) (SqT.of upd_same)⟩
  · exact .inr ⟨h2, h3 p H (.inl rfl) (Same.refl H) h2⟩⟩
end
section
variable {σ : St} {H : Hp} {Q : VK} {K : PySem.W.Frag} {ta : TA} {p q : Addr} {xs ys : List V}
theorem rd_tupA (h : ta σ H fun xs H1 => xs.length ≤ sizeLine ∧ ∀ p H', H1 p = none → Same H1 H' → H' p = some (.tup xs) → Q (.ref p) H') : tTupA ta σ H Q := h
theorem rd_lstA (h : ta σ H fun xs H1 => xs.length ≤ sizeLine ∧ ∀ p H', H1 p = none → Same H1 H' → H' p = some (.lst xs) → Q (.ref p) H') : tLstA ta σ H Q := h
theorem rd_dnewA (h : ∀ p H', H p = none → Same H H' → H' p = some (.dK []) → Q (.ref p) H') : tDNewA σ H Q := h
theorem rd_catA (h1 : H p = some (.lst xs)) (h2 : H q = some (.lst ys)) (hz : xs.length + ys.length ≤ sizeLine) (h : ∀ r H', H r = none → Same H H' → H' r = some (.lst (xs ++ ys)) → Q (.ref r) H') : rCatA (.ref p) (.ref q) H Q := ⟨p, q, xs, ys, rfl, rfl, h1, h2, hz, h⟩
theorem rd_slA {lo hi : Option Int} (hq : SqL K H p xs) (h : ∀ l H', H l = none → Same H H' → H' l = some (.lst (cutV xs lo hi)) → Q (.ref l) H') : rSlA K (.ref p) lo hi H Q := ⟨p, xs, rfl, hq, h⟩
theorem rd_listAL (hq : SqL K H p xs) (h : ∀ l H', H l = none → Same H H' → H' l = some (.lst xs) → Q (.ref l) H') : rListA K [.ref p] H Q := ⟨p, xs, rfl, .inl hq, h⟩
theorem rd_listAT (hq : SqT K H p xs) (h : ∀ l H', H l = none → Same H H' → H' l = some (.lst xs) → Q (.ref l) H') : rListA K [.ref p] H Q := ⟨p, xs, rfl, .inr hq, h⟩
theorem rd_tupleAL (hq : SqL K H p xs) (h : ∀ l H', (l = p ∨ H l = none) → Same H H' → SqT K H' l xs → Q (.ref l) H') : rTupleA K [.ref p] H Q := ⟨p, xs, rfl, .inl hq, h⟩
end
theorem StOk.same {K : PySem.W.Frag} {H H' : Hp} {st : Addr} (h : StOk K H st) (e : Same H H') : StOk K H' st := h.ext e
theorem StOk.nin {K : PySem.W.Frag} {H H' : Hp} {st q : Addr} (S : StOk K H st) (s : Same H H') (n : H' q = none) : q ∉ [st] := by
  have := (S.same s).ne n
  simpa using this
structure Trk (K : PySem.W.Frag) (N : List Addr) (H : Hp) (st : Addr) : Prop where
  so : StOk K H st
  mem : st ∈ N
  tr : ∀ b ∈ N, H b ≠ none
mutual
theorem Dt.fresh {K : PySem.W.Frag} {N : List Addr} {H : Hp} {p : Addr} (h : H p = none) (k : K.lookup p = none) : ∀ {v : V} {d : PyData}, Dt K N H v d → Dt K (p :: N) H v d
  | _, _, .non => .non
  | _, _, .bl b => .bl b
  | _, _, .int i => .int i
  | _, _, .str x => .str x
  | _, _, .tup q n r => .tup q (by
      rw [List.mem_cons, not_or]
      refine ⟨?_, n⟩
      rintro rfl
      rcases q with (q | ⟨o, q⟩) | ⟨o, its, m, q, _⟩
      · rw [h] at q; cases q
      · rw [h] at q; cases q
      · rw [k] at q; cases q) (DtAll.fresh h k r)
  | _, _, .lst q n r => .lst q (by
      rw [List.mem_cons, not_or]
      refine ⟨?_, n⟩
      rintro rfl
      rcases q with (q | ⟨o, q⟩) | ⟨o, its, m, q, _⟩
      · rw [h] at q; cases q
      · rw [h] at q; cases q
      · rw [k] at q; cases q) (DtAll.fresh h k r)
  | _, _, .dk0 q n => .dk0 q (by
      rw [List.mem_cons, not_or]
      refine ⟨?_, n⟩
      rintro rfl
      rw [h] at q; cases q)
  | _, _, .dk1 q n r => .dk1 q (by
      rw [List.mem_cons, not_or]
      refine ⟨?_, n⟩
      rintro rfl
      rw [h] at q; cases q) (Dt.fresh h k r)
theorem DtAll.fresh {K : PySem.W.Frag} {N : List Addr} {H : Hp} {p : Addr} (h : H p = none) (k : K.lookup p = none) : ∀ {vs : List V} {ds : List PyData}, DtAll K N H vs ds → DtAll K (p :: N) H vs ds
  | _, _, .nil => .nil
  | _, _, .cons q r => .cons (Dt.fresh h k q) (DtAll.fresh h k r)
end
theorem Ext.mono {N N' : List Addr} {H H' : Hp} (e : Ext N H H') (h : ∀ b ∈ N, b ∈ N') : Ext N' H H' := fun b u q n => e b u q fun z => n (h b z)
theorem Ext.up {N : List Addr} {st : Addr} {H H' : Hp} (e : Ext [st] H H') (h : st ∈ N) : Ext N H H' := e.mono fun b hb => by
  have : b = st := by simpa using hb
  rw [this]; exact h
theorem StOk.acc {K : PySem.W.Frag} {H : Hp} {st acc : Addr} {vs : List V} {o : HO} (S : StOk K H st) (n : acc ≠ st) (ha : H acc = some (.lst vs)) (hr : ∀ v ∈ vs, ∃ q, v = .ref q) : StOk K (upd H acc o) st := by
  obtain ⟨c, cs, p, q, r, h1, h2, h3, h4, h5⟩ := S.ex
  refine ⟨c, cs, p, q, r, by rw [upd_ne (Ne.symm n)]; exact h1, ?_, h3, h4, h5⟩
  have ncf : c ≠ acc := fun z => by
    subst z
    rw [ha] at h2
    have e : vs = cs.map V.int := by injection h2 with h2; injection h2
    cases cs with
    | nil => simp at h4
    | cons i cs =>
      obtain ⟨q, hq⟩ := hr (.int i) (by rw [e]; simp)
      cases hq
  rw [upd_ne ncf]; exact h2
theorem Trk.two {K : PySem.W.Frag} {H : Hp} {st acc : Addr} {vs : List V} (S : StOk K H st) (ha : H acc = some (.lst vs)) : Trk K [acc, st] H st := ⟨S, by simp, fun b hb => by
  simp only [List.mem_cons, List.not_mem_nil, or_false] at hb
  rcases hb with rfl | rfl
  · rw [ha]; simp
  · obtain ⟨xs, e⟩ := S.at
    rw [e]; simp⟩
end L2

namespace L2
open PySem PySem.Spec PyProof.Rows
noncomputable def notStar : Expr → Bool
  | .Starred .. => false
  | _ => true
noncomputable def noStars : List Expr → Bool
  | [] => true
  | e :: r => notStar e && noStars r
theorem star_ne {e : Expr} {r : List Expr} {env : Env} (h : notStar e = true) : starEach (e :: r) env = (false, eval e env) :: starEach r env := by
  cases e <;> first | rfl | cases h
theorem stars_any {pos : Pos} {env : Env} : ∀ {es : List Expr}, noStars es = true → (backTo pos (starEach es env)).any (·.1) = false
  | [], _ => rfl
  | e :: r, h => by
    simp only [noStars, Bool.and_eq_true] at h
    rw [star_ne h.1]
    show (false || (backTo pos (starEach r env)).any (·.1)) = false
    rw [stars_any h.2]; rfl
section
variable {X : Cx} {e : Expr} {es : List Expr} {te : TE} {t : TA} {pos p : Pos} {CX : CXT} {k : Nat} {f : Addr} {fd : FuncData} {ps : List Str} {sp : Sp} {dvs : List V} {ds : List Value} {E : XK} {x : Str} {id Ty : String} {r : List V → Hp → VK → Prop}
theorem paN (ha : PE X e te) (hr : PA X es t) (h : notStar e = true := by rfl) : PA X (e :: es) (tCons te t) := pa_cons ha hr (star_ne h)
theorem peN_call (F : FnOk X.prog X.w X.K X.mg X.base CX k f fd ps sp) (hr : Room k X.A) (hg : Gl X x) (hm : X.mg x = some (.ref f)) (hk : PySem.W.keepIn X.K (.ref f) = true) (hb : Binds X.K fd ps ds) (hd : Vals dvs ds) (hx : Passes CX X E)
    (ha : PA X (e :: es) t) (hdb : (x == ("__debug__" : Str)) = false := by decide) (h1 : notStar e = true := by rfl) (h2 : noStars es = true := by rfl) : PE X (.Call (.Name x p) (e :: es) [] pos) (tCall sp dvs E t) :=
  pe_call F hr hg hm hk hb hd hx ha hdb (star_ne h1) (stars_any h2)
theorem peN_callB (hc : CallR X (.builtin id) r) (hg : Gl X x) (hm : X.mg x = none) (hv : bootBuiltins x = some (.builtin id)) (ha : PA X (e :: es) t) (hn : x ≠ "__name__" := by decide) (hdb : (x == ("__debug__" : Str)) = false := by decide)
    (h1 : notStar e = true := by rfl) (h2 : noStars es = true := by rfl) : PE X (.Call (.Name x p) (e :: es) [] pos) (tCB r t) := pe_callB hc hg hm hv ha hn hdb (star_ne h1) (stars_any h2)
theorem peN_callTy (hc : CallR X (.type Ty) r) (hg : Gl X x) (hm : X.mg x = none) (hv : bootBuiltins x = some (.type Ty)) (ha : PA X (e :: es) t) (hn : x ≠ "__name__" := by decide) (hdb : (x == ("__debug__" : Str)) = false := by decide)
    (h1 : notStar e = true := by rfl) (h2 : noStars es = true := by rfl) : PE X (.Call (.Name x p) (e :: es) [] pos) (tCB r t) := pe_callTy hc hg hm hv ha hn hdb (star_ne h1) (stars_any h2)
end
structure PAs (X : Cx) (es : List Expr) (t : TA) : Prop where
  run : PA X es t
section
variable {X : Cx} {e o : Expr} {es : List Expr} {te to : TE} {t : TA} {pos p apos cpos : Pos} {CX : CXT} {k : Nat} {f : Addr} {fd : FuncData} {ps : List Str} {sp : Sp} {dvs : List V} {ds : List Value} {E : XK} {x name : Str} {id Ty T : String} {r : List V → Hp → VK → Prop} {rm : V → List V → Hp → VK → Prop}
theorem qa_nil : PAs X [] tNil := ⟨pa_nil⟩
theorem qa (ha : PE X e te) (hr : PAs X es t) (h : notStar e = true) : PAs X (e :: es) (tCons te t) := ⟨paN ha hr.run h⟩
theorem qe_lst (h : PAs X es t) : PE X (.List es pos) (tLst t) := pe_lst h.run
theorem qe_tupA {x1} (h : PAs X es t) : PE X (.Tuple es x1 pos) (tTupA t) := pe_tupA h.run
theorem qe_lstA (h : PAs X es t) : PE X (.List es pos) (tLstA t) := pe_lstA h.run
theorem qe_call (F : FnOk X.prog X.w X.K X.mg X.base CX k f fd ps sp) (hr : Room k X.A) (hg : Gl X x) (hm : X.mg x = some (.ref f)) (hk : PySem.W.keepIn X.K (.ref f) = true) (hb : Binds X.K fd ps ds) (hd : Vals dvs ds) (hx : Passes CX X E)
    (ha : PAs X (e :: es) t) (hdb : (x == ("__debug__" : Str)) = false) (h1 : notStar e = true) (h2 : noStars es = true) : PE X (.Call (.Name x p) (e :: es) [] pos) (tCall sp dvs E t) := peN_call F hr hg hm hk hb hd hx ha.run hdb h1 h2
theorem qe_callB (hc : CallR X (.builtin id) r) (hg : Gl X x) (hm : X.mg x = none) (hv : bootBuiltins x = some (.builtin id)) (ha : PAs X (e :: es) t) (hn : x ≠ "__name__") (hdb : (x == ("__debug__" : Str)) = false)
    (h1 : notStar e = true) (h2 : noStars es = true) : PE X (.Call (.Name x p) (e :: es) [] pos) (tCB r t) := peN_callB hc hg hm hv ha.run hn hdb h1 h2
theorem qe_callTy (hc : CallR X (.type Ty) r) (hg : Gl X x) (hm : X.mg x = none) (hv : bootBuiltins x = some (.type Ty)) (ha : PAs X (e :: es) t) (hn : x ≠ "__name__") (hdb : (x == ("__debug__" : Str)) = false)
    (h1 : notStar e = true) (h2 : noStars es = true) : PE X (.Call (.Name x p) (e :: es) [] pos) (tCB r t) := peN_callTy hc hg hm hv ha.run hn hdb h1 h2
theorem qe_append (ho : PE X o to) (ha : PAs X (e :: es) t) (hbase : attributeBase o "append" X.env (eval o X.env) = eval o X.env) (h1 : notStar e = true) (h2 : noStars es = true)
    (hfew : ((backTo cpos (starEach (e :: es) X.env)).all (fun x => !x.1) && (backToKw cpos (keywordEach [] X.env)).all (fun x => x.1.isSome) && decide ((e :: es).length + ([] : List Keyword).length + (if ([] : List Keyword).isEmpty then 0 else 1) < 30)) = true)
    (hline : (apos.endLine == cpos.line) = true) : PE X (.Call (.Attribute o "append" apos) (e :: es) [] cpos) (tBM X.K "list" rAppend to t) :=
  pe_bm PySem.F.plainAttrs_list PySem.F.slot_list_append PySem.F.type_list_append mt_append ho ha.run hbase hfew hline (star_ne h1) (stars_any h2)
variable {tg a b : Expr} {ta : TA}
theorem qi_range1 (hg : Gl X "range") (hm : X.mg "range" = none) (ha : PAs X [a] ta) (h1 : notStar a = true) : PI X tg (.Call (.Name "range" p) [a] [] pos) (iRng1 ta) := pi_range1 hg hm ha.run (star_ne h1)
theorem qi_zip {es : List Expr} {k : Nat} {ps : Pos} (hg : Gl X "zip") (hm : X.mg "zip" = none) (ha : PAs X [a, b] ta) (h1 : notStar a = true) (h2 : notStar b = true) : PI X (.Tuple es k ps) (.Call (.Name "zip" p) [a, b] [] pos) (iZip X.K ta) :=
  pi_zip hg hm ha.run (by rw [star_ne h1, star_ne h2]; rfl) (by rw [star_ne h2]; rfl) (by decide +kernel)
end
structure PSw (X : Cx) (st : Stmt) (t : TS) : Prop where
  run : PS X st t
structure PSsw (X : Cx) (sts : List Stmt) (t : TS) : Prop where
  run : PSs X sts t
section
variable {X : Cx} {st : Stmt} {rest body a b : List Stmt} {t u tb : TS} {e tg c iter elt target : Expr} {es ifs : List Expr} {te : TE} {tc tt : TT} {g : TG} {ta : TA} {wi : TI} {pos pos' spos : Pos} {i : Nat} {x : Str}
theorem qss_nil : PSsw X [] tNext := ⟨pss_nil⟩
theorem qss_one (h : PSw X st t) : PSsw X [st] t := ⟨pss_one h.run⟩
theorem qss_cons (h1 : PSw X st t) (h2 : PSsw X rest u) : PSsw X (st :: rest) (tSeq t u) := ⟨pss_cons h1.run h2.run⟩
theorem qs_ret (he : PE X e te) : PSw X (.Return (some e) pos) (tRet te) := ⟨ps_ret he⟩
theorem qs_if (hc : PT X c tc) (ha : PSsw X a t) (hb : PSsw X b u) : PSw X (.If c a b pos) (tIfS tc t u) := ⟨ps_if hc ha.run hb.run⟩
theorem qs_expr (he : PE X e te) (hs : swapsWith e none pos.line X.env = pure false) : PSw X (.Expr e pos) (tDrop te) := ⟨ps_expr he hs⟩
theorem qs_set (hN : X.N.Nodup) (hi : X.N[i]? = some x) (hx : Loc X.env.scope x) (he : PE X e te) (hs : swapsWith e (some (.Name x pos')) pos.line X.env = pure false) (hf : X.fn x = true ∨ X.env.scope.names.lookup x = some .local) :
    PSw X (.Assign [.Name x pos'] e pos) (tAsg te (gName i)) := ⟨ps_set hN hi hx he hs hf⟩
theorem qs_asg (he : PE X e te) (hg : PG X tg g) (hs : swapsWithSole [tg] e pos.line X.env = pure false) (hw : swappedStores [tg] e X.env = pure none) (h1 : (assignEach [tg] X.env).map (·.2) = [assign tg X.env]) : PSw X (.Assign [tg] e pos) (tAsg te g) := ⟨ps_asg he hg hs hw h1⟩
theorem qs_for (hp : PassesOwn (model X.prog X.w) X.A X.env X.xe) (hc : X.calm = true) (hi : PI X tg iter wi) (hg : PG X tg g) (hb : PSsw X body tb) (hs : ∀ x, foldedSetIterable iter X.env x = pure x) : PSw X (.For tg iter body [] pos) (tFor wi g tb) := ⟨ps_for hp hc hi hg hb.run hs⟩
end
end L2
namespace L2
open PySem
theorem exW {X : Cx} {sts : List Stmt} {P : TS → Prop} (h : ∃ t, PSsw X sts t ∧ P t) : ∃ t, PSs X sts t ∧ P t := let ⟨t, h1, h2⟩ := h; ⟨t, h1.run, h2⟩
end L2

namespace HT
open PySem PyProof.Rows
section
open PySem.SeqAt
open PySem.AutoSeq1 (wpAny_loadPart')
open PySem.MeetsSeq PySem.MeetsSeq2 PySem.MeetsSeq3
end
section
variable {prog : Program} {w : World} {A : Around} {E : Value → Shared → Prop} {s : Shared}
end
end HT
namespace L2
open PySem PySem.Spec PyProof.Rows
noncomputable def rIsnB : R2 := fun x y H Q => ∃ a b, x = .bl a ∧ y = .bl b ∧ Q (.bl (a != b)) H
noncomputable def rIsB : R2 := fun x y H Q => ∃ a b, x = .bl a ∧ y = .bl b ∧ Q (.bl (a == b)) H
section
variable {X : Cx}
end
section
variable {H : Hp} {Q : VK} {K : PySem.W.Frag} {p q : Addr} {ns ms : List Int}
theorem rd_isnB {a b : Bool} (h : Q (.bl (a != b)) H) : rIsnB (.bl a) (.bl b) H Q := ⟨a, b, rfl, rfl, h⟩
theorem rd_isB {a b : Bool} (h : Q (.bl (a == b)) H) : rIsB (.bl a) (.bl b) H Q := ⟨a, b, rfl, rfl, h⟩
end
theorem Inv.nk {X : Cx} {pins : List (Addr × Obj)} {σ : St} {H : Hp} {s : Shared} (I : Inv X pins σ H s) : X.K.lookup s.heap.objs.size = none := by
  cases q : X.K.lookup s.heap.objs.size with
  | none => rfl
  | some o => exact absurd (Heap.lt_size (I.kIn _ o q)) (Nat.lt_irrefl _)
noncomputable def rListF (K : PySem.W.Frag) : TR := fun xs H Q => ∃ p ys, xs = [.ref p] ∧ (SqL K H p ys ∨ SqT K H p ys) ∧ ∀ l, H l = none → K.lookup l = none → Q (.ref l) (upd H l (.lst ys))
theorem rd_listFL {K : PySem.W.Frag} {H : Hp} {Q : VK} {p : Addr} {xs : List V} (hq : SqL K H p xs) (h : ∀ l, H l = none → K.lookup l = none → Q (.ref l) (upd H l (.lst xs))) : rListF K [.ref p] H Q := ⟨p, xs, rfl, .inl hq, h⟩
theorem rd_listFT {K : PySem.W.Frag} {H : Hp} {Q : VK} {p : Addr} {xs : List V} (hq : SqT K H p xs) (h : ∀ l, H l = none → K.lookup l = none → Q (.ref l) (upd H l (.lst xs))) : rListF K [.ref p] H Q := ⟨p, xs, rfl, .inr hq, h⟩
end L2
namespace L2
theorem rd_iteG {c A B : Prop} {i : Decidable c} (h : @ite Prop c i A B) : @ite Prop c i A B := h
end L2

namespace Mt
open PySem L2
mutual
noncomputable def tupOnly : PyData → Bool
  | .none => true
  | .int _ => true
  | .str _ => true
  | .tuple es => tupOnlyAll es
  | _ => false
noncomputable def tupOnlyAll : List PyData → Bool
  | [] => true
  | e :: es => tupOnly e && tupOnlyAll es
end
noncomputable def isNoneD : PyData → Bool
  | .none => true
  | _ => false
noncomputable def intEq (j : Int) : PyData → Bool
  | .int i => decide (i = j)
  | _ => false
noncomputable def strEq (t : Str) : PyData → Bool
  | .str u => decide (u = t)
  | _ => false
noncomputable def subs : PyData → Option (List PyData)
  | .tuple ds => some ds
  | _ => none
mutual
noncomputable def alikeD : PyData → PyData → Bool
  | .none, d => isNoneD d
  | .int j, d => intEq j d
  | .str t, d => strEq t d
  | .tuple es, d => match subs d with
    | some ds => alikeAll es ds
    | none => false
  | _, _ => false
noncomputable def alikeAll : List PyData → List PyData → Bool
  | [], ds => ds.isEmpty
  | e :: es, ds => match ds with
    | [] => false
    | d :: ds => alikeD e d && alikeAll es ds
end
end Mt

namespace L2
open PySem PySem.Spec PyProof.Rows

noncomputable def Aloft (N : Addr → Prop) (h : Heap) (e : Addr) (C : Value) (dx : Option Addr) (fl : Value) : Prop :=
  ∃ oe vs, h.get? e = some oe ∧ oe.cls = C ∧ oe.dict = dx ∧ oe.data = .fields vs ∧ 1 < vs.size ∧
    (vs[1]? = some .none ∧ fl = .none ∨ ∃ T oT ts, vs[1]? = some (.ref T) ∧ N T ∧ T ≠ e ∧ h.get? T = some oT ∧ oT.data = .fields ts ∧ ts[3]? = some fl)
section
variable {M : Model} {A : Around} {E : Value → Shared → Prop} {s : Shared} {N : Addr → Prop} {base : Heap} {env : Env} {outer : List Env} {L e : Addr} {C : Value} {dx : Option Addr}

end

theorem Aloft.mono {N N' : Addr → Prop} {h : Heap} {e : Addr} {C : Value} {dx : Option Addr} {fl : Value} (a : Aloft N h e C dx fl) (k : ∀ b, N b → N' b) : Aloft N' h e C dx fl := by
  obtain ⟨oe, vs, q0, q1, q2, q3, q4, r⟩ := a
  refine ⟨oe, vs, q0, q1, q2, q3, q4, ?_⟩
  rcases r with r | ⟨T, oT, ts, r1, r2, r⟩
  · exact .inl r
  · exact .inr ⟨T, oT, ts, r1, k _ r2, r⟩
section
variable {P : Program} {w : World} {X : Cx} {pins : List (Addr × Obj)} {σ : St} {H H' : Hp} {s s' : Shared} {e : Addr} {C : Value} {dx : Option Addr}
end


noncomputable def tCallX (sp : Sp) (dvs : List V) (XR : St → XK) (t : TA) : TE := fun σ H Q => t σ H fun vs H1 => sp (vs ++ dvs) H1 Q (XR σ)
section
variable {X : Cx} {e : Expr} {es : List Expr} {t : TA} {pos p : Pos} {k : Nat} {f : Addr} {fd : FuncData} {ps : List Str} {sp : Sp} {dvs : List V} {ds : List Value} {XR : St → XK} {x : Str}
end

noncomputable def Cx.tr (X : Cx) (xe' : Value → Shared → Prop) (pn' : List (Addr × Obj)) : Cx := { X with xe := xe', pn := X.pn ++ pn' }
noncomputable def Cx.su (X : Cx) (e : Addr) : Cx := { X with A := X.A.mark (some (.ref e)), calm := false, xe := fun _ _ => False }
section
variable {X : Cx} {pins pins' pn' : List (Addr × Obj)} {σ : St} {H : Hp} {s : Shared} {xe' : Value → Shared → Prop} {e : Addr}
theorem Cx.Ok.tr (ok : X.Ok) : (X.tr xe' pn').Ok := ⟨ok.mod, ok.kind, ok.glob, ok.blt, ok.above, ok.inj, ok.has, ok.cab, ok.hd, ok.frames, ok.stk, ok.exf, ok.bs, ok.bsz, ok.noex, ok.exfs, ok.funs, ok.frf⟩
theorem Cx.Ok.su (ok : X.Ok) : (X.su e).Ok := ⟨ok.mod, ok.kind, ok.glob, ok.blt, ok.above, ok.inj, ok.has, ok.cab, fun z => (by cases z), ok.frames, ok.stk, ok.exf, ok.bs, ok.bsz, ok.noex, ok.exfs, ok.funs, ok.frf⟩
theorem Inv.tr (I : Inv X pins σ H s) : Inv (X.tr xe' pins) [] σ H s := ⟨I.ok.tr, I.os, I.bare, I.base, I.loc, I.cell, I.free, I.freeC, fun p hp => I.pin p (by simpa [Cx.tr] using hp), I.hok, I.len⟩
theorem Inv.su (I : Inv X pins σ H s) : Inv (X.su e) pins σ H s := ⟨I.ok.su, I.os, I.bare, I.base, I.loc, I.cell, I.free, I.freeC, I.pin, I.hok, I.len⟩
theorem Inv.gone {h' : Heap} {m : Str → Option Value} {v : Option Value} {i : Nat} {x : Str} {t' : Nat} (I : Inv X pins σ H s) (hN : X.N.Nodup) (hi : X.N[i]? = some x) (hn : s.heap.Ns X.env.locals m) (hm : ∀ (i : Nat) (y : Str) (v : V), X.N[i]? = some y → σ[i]? = some (some v) → Vis X.env.scope y → ∃ u, RelV v u ∧ Look X.env s.heap m y u)
    (hn' : h'.Ns X.env.locals (fun y => if y = x then v else m y)) (sb : Heap.SameBut X.env.locals s.heap h') : Inv X pins (σ.set i none) H { s with heap := h', toks := t' } := by
  have hL : ∃ o, s.heap.get? X.env.locals = some o ∧ H X.env.locals = none := by
    obtain ⟨o, _, _, ho, _⟩ := id hn
    exact ⟨o, ho, I.free⟩
  have old : ∀ b o, X.s₀.heap.get? b = some o → b ≠ X.env.locals := fun b o z => Nat.ne_of_lt (Nat.lt_of_lt_of_le (Heap.lt_size z) I.ok.above)
  refine ⟨I.ok, I.os, I.bare, ⟨fun b o z n hb hx => (sb.2 b (old b o z)).trans (I.base.keep b o z n hb hx), fun b o z n hb hx => ?_, I.base.free, fun b o z hx => ?_, I.base.tups, I.base.frzs, I.base.tbls⟩, ⟨_, hn', fun j y v' e1 e2 e3 => ?_⟩, fun y c z => ?_, I.free, I.freeC, fun p hp => ?_, fun b ob z => ?_, by simpa using I.len⟩
  · obtain ⟨sl, q⟩ := I.base.slot b o z n hb hx
    exact ⟨sl, (sb.2 b (old b o z)).trans q⟩
  · obtain ⟨o', q⟩ := I.base.there b o z hx
    exact ⟨o', (sb.2 b (old b o z)).trans q⟩
  · by_cases hj : j = i
    · subst hj
      have hlt : j < σ.length := by rw [I.len]; exact (List.getElem?_eq_some_iff.mp hi).1
      rw [List.getElem?_set_self hlt] at e2
      cases e2
    · rw [List.getElem?_set_ne (Ne.symm hj)] at e2
      obtain ⟨u, r, l⟩ := hm j y v' e1 e2 e3
      refine ⟨u, r, ?_⟩
      rcases l with ⟨k, q⟩ | ⟨k, c, q, z⟩
      · have : y ≠ x := fun z => hj (nodup_ix hN e1 (z ▸ hi))
        exact .inl ⟨k, by simp [this, q]⟩
      · exact .inr ⟨k, c, q, z.sameBut sb (I.cne y c q)⟩
  · obtain ⟨w', q⟩ := I.cell y c z
    exact ⟨w', q.sameBut sb (I.cne y c z)⟩
  · obtain ⟨q, n, ne, nf, d⟩ := I.pin p hp
    exact ⟨(sb.2 p.1 ne).trans q, n, ne, nf, d⟩
  · refine (I.hok b ob z).stay (fun c w' hc q => (sb.2 c ?_).trans q) (fun _ q => q) fun _ _ q => q
    rintro rfl
    rcases hc with rfl | hc
    · rw [I.free] at z; cases z
    · rw [I.free] at hc; cases hc
end
noncomputable def ExcIs (a : Addr) (C : Value) (dx : Option Addr) (h : Heap) : Prop := ∃ oe vs, h.get? a = some oe ∧ oe.cls = C ∧ oe.dict = dx ∧ oe.data = .fields vs
noncomputable def Ends.un (D : Ends) (i : Nat) : Ends := { nx := fun σ2 H2 => D.nx (σ2.set i none) H2, rt := D.rt, bk := fun σ2 H2 => D.bk (σ2.set i none) H2, ct := fun σ2 H2 => D.ct (σ2.set i none) H2 }
noncomputable def tTry (K : PySem.W.Frag) (B : Addr) (i : Nat) (tb : (St → XK) → TS) (ts : TS) : TS := fun D σ H =>
  tb (fun σ' C dx H' => PySem.W.exmOne K C (.ref B) = some true ∧ ∀ a, H' a = none → ts (D.un i) (σ'.set i (some (.ref a))) (upd H' a (.ext (ExcIs a C dx)))) D σ H

section
variable {X : Cx} {b₀ : Stmt} {body suite : List Stmt} {c x : Str} {p hp pos : Pos} {B : Addr} {i : Nat} {tb : (St → XK) → TS} {ts : TS}
end
noncomputable abbrev bmV : List Value := [.type "ValueError", .type "Exception", .type "BaseException", .type "object"]
noncomputable def xcIn (K : PySem.W.Frag) (C : Addr) (init : Option Value) : Bool := match K.lookup C with
  | some ⟨.type "type", _, .cls cd, sl⟩ => (match cd.mro, sl.toList with
    | .ref C' :: bm, [_, _, _, _, some (.builtin n), _] => C' == C && (n == "ValueError.__new__" && (!cd.hasDel && (cd.hasDict && (PySem.W.tailIn K bmV bm && (PySem.W.nsOkIn K cd.ns && PySem.W.nsIn K cd.ns "__init__" == some init)))))
    | _, _ => false)
  | _ => false
structure XAt (h : Heap) (C : Addr) (init : Option Value) : Prop where
  out : ∃ nm q N bs bm sn sub ab col dd k0 k1 k2 k3 k5 mN, h.get? C = some (excClassObj nm q C N bs bm true sn sub ab col dd k0 k1 k2 k3 k5 "ValueError.__new__") ∧ h.Ns N mN ∧ mN "__init__" = init ∧ OwnTail h bmV bm
section
variable {M : Model} {A : Around} {E : Value → Shared → Prop} {s : Shared} {env : Env} {C : Addr} {init : Option Value}
end

theorem XAt.keeps {h h' : Heap} {C : Addr} {init : Option Value} (x : XAt h C init) (k : ∀ b o, h.get? b = some o → h'.get? b = some o) : XAt h' C init := by
  obtain ⟨nm, q, N, bs, bm, sn, sub, ab, col, dd, k0, k1, k2, k3, k5, mN, hC, hN, hi, T⟩ := x.out
  exact ⟨nm, q, N, bs, bm, sn, sub, ab, col, dd, k0, k1, k2, k3, k5, mN, k _ _ hC, hN.keeps k, hi, T.keeps k⟩

theorem ObjOk.there {P : Program} {w : World} {H : Hp} {h : Heap} {a : Addr} {o : HO} (x : ObjOk P w H h a o) : ∃ ob, h.get? a = some ob := by
  induction o with
  | lst xs => obtain ⟨_, _, _, _, e⟩ := x; exact ⟨_, e⟩
  | tup xs => obtain ⟨_, _, _, ob, e, _⟩ := x; exact ⟨_, e⟩
  | dK kvs => obtain ⟨_, _, _, _, o, _, _, e, _⟩ := x; exact ⟨_, e⟩
  | dT kvs => obtain ⟨_, _, _, _, o, _, _, e, _⟩ := x; exact ⟨_, e⟩
  | set S n => obtain ⟨o, _, _, _, e, _⟩ := x; exact ⟨_, e⟩
  | ins C dx fs => obtain ⟨_, _, _, e, _⟩ := x; exact ⟨_, e⟩
  | own y => exact x
  | xd fs => obtain ⟨_, ⟨_, _, _, e, _⟩, _⟩ := x; exact ⟨_, e⟩
  | rng lo hi => obtain ⟨_, _, _, e⟩ := x; exact ⟨_, e⟩
  | frz ob u ih => exact ⟨ob, x.1⟩
  | tbl ps => exact ⟨_, x⟩
  | met f y => exact ⟨_, x⟩
  | ext φ => exact x.2.1
theorem HOk.none {P : Program} {w : World} {H : Hp} {h : Heap} {a : Addr} (x : HOk P w H h) (e : h.get? a = none) : H a = none := by
  cases r : H a with
  | none => rfl
  | some o =>
    obtain ⟨ob, q⟩ := (x a o r).there
    rw [e] at q; cases q

noncomputable def tRaise0 (C : Addr) (XR : St → XK) : TS := fun _ σ H => XR σ (.ref C) none H
section
variable {X : Cx} {C : Addr} {XR : St → XK} {x : Str} {np cpos pos : Pos}
end
end L2

namespace L2
open PySem PySem.Spec PyProof.Rows PySem.W
section
variable {prog : Program} {w : World} {A : Around} {E : Value → Shared → Prop} {h : Heap} {g : Array GenState} {d : Drawn} {t : Nat} {os : OsState}
end
section
variable {prog : Program} {w : World} {A : Around} {E : Value → Shared → Prop} {h : Heap} {g : Array GenState} {d : Drawn} {t : Nat} {os : OsState}
end
open Builtin Builtin.ObjectAttr
section
variable {prog : Program} {w : World} {A : Around} {E : Value → Shared → Prop} {h : Heap} {g : Array GenState} {d : Drawn} {t : Nat} {os : OsState}
variable {x C LE : Addr} {o : Obj} {name : Str} {v : Value} {vs : Array Value}
structure StoreAt (M : Model) (h : Heap) (C LE : Addr) (name : Str) : Prop where
  mro : Looks M h (mroOf (.ref C)) (.ref C :: .ref LE :: bmV)
  no : Looks M h (typeLookup (.ref C) name) none
  sa : Looks M h (typeLookup (.ref C) "__setattr__") (some (.builtin "object.__setattr__"))
  ob : Looks M h (isSubtype (.ref C) (.type "object")) true
  at_ : ∃ init, XAt h C init
end
structure XK1 (K : Frag) (C LE : Addr) (fld : Str) : Prop where
  mro : (clsIn K C).map (·.mro) = some (.ref C :: .ref LE :: bmV)
  no : findIn K (.ref C) fld = some none
  sa : findIn K (.ref C) "__setattr__" = some (some (.builtin "object.__setattr__"))
  ini : alongIn K "__init__" (.ref LE :: bmV) = some (some (.builtin "ValueError.__init__"))
  opq : nsIn K cStatics "thirdparty.any" = some none
theorem XK1.subs {K : Frag} {C LE : Addr} {fld : Str} {M : Model} {h : Heap} {b : Value} (x : XK1 K C LE fld) (X : K.In h) (hb : (Value.ref C :: .ref LE :: bmV).contains b = true) : Looks M h (isSubtype (.ref C) b) true := by
  obtain ⟨cd, e, z⟩ := Option.map_eq_some_iff.mp x.mro
  refine looks_mroIn X ?_
  unfold mroIn
  rw [e]
  show (if cd.mro.isEmpty = true then none else some (cd.mro.contains b)) = some true
  rw [z, hb]; rfl
section
variable {prog : Program} {w : World} {A : Around} {E : Value → Shared → Prop} {s : Shared}
end
structure ISc (sc : Scope) (par : Str) : Prop where
  su : sc.names.lookup ("super" : Str) = some .globalImplicit
  cl : sc.names.lookup ("__class__" : Str) = some .free
  se : sc.names.lookup ("self" : Str) = some .local
  pa : sc.names.lookup par = some .local
  nc : ∀ x ∈ sc.names, x.2 ≠ .cell
  co : sc.isCoroutine = false
  ge : sc.isGenerator = false
  ki : sc.kind = .function
  ns : (("self" : Str) == par) = false
  db : (par == ("__debug__" : Str)) = false
section
variable {prog : Program} {w : World} {A : Around} {R : Result → Shared → Prop} {h : Heap} {g : Array GenState} {d : Drawn} {t : Nat} {os : OsState}
variable {K : Frag} {mg : Str → Option Value} {base : Heap} {f C LE e cda cc : Addr} {fld par nm qual msg file : Str} {ps : Arguments} {body : List Stmt} {sc : Scope} {kV doc pm ct oc ccl cl u : Value} {an od cdd cld : Option Addr} {osl ccs csl : Array (Option Value)} {cvs vs : Array Value} {tf : Tok} {init : Option Value} {oe : Obj} {t0 : Addr} {ar : Arg}
  {a1 a2 a3 a4 a5 a6 b1 b2 b3 b4 : Pos} {kd : Nat} {pl : Env → Sem Bool}
end
section
variable {prog : Program} {w : World} {A : Around} {E : Value → Shared → Prop} {h : Heap} {g : Array GenState} {d : Drawn} {t : Nat} {os : OsState} {C fI : Addr} {oI : Obj} {u : Value}
end
structure XIni (prog : Program) (K : Frag) (C LE fI : Addr) (fld : Str) : Prop where
  x1 : XK1 K C LE fld
  xc : xcIn K C (some (.ref fI)) = true
  kp : keepIn K (.ref C) = true
  su : nsIn K mainGlobals "super" = some none
  top : (prog.main.scope.names.lookup ("super" : Str)).isSome = false
  ex : ∃ (nm qual par msg file : Str) (ps : Arguments) (body : List Stmt) (sc : Scope) (kV doc pm ct ccl cl : Value) (an od cdd cld : Option Addr) (osl ccs csl : Array (Option Value)) (cvs : Array Value) (tf : Tok) (ar : Arg) (cda cc : Addr)
    (a1 a2 a3 a4 a5 a6 b1 b2 b3 b4 : Pos) (kd : Nat) (pl : Env → Sem Bool),
    K.lookup fI = some ⟨.type "function", od, .func (ksFn nm qual ps body sc .none kV doc pm an (.ref cda) ct cc), osl⟩ ∧ codeIn K (.ref cda) qual = true ∧ K.lookup cda = some ⟨ccl, cdd, .fields cvs, ccs⟩ ∧ cvs[2]? = some (.str file tf) ∧ ((prog.main.file : Str) == file) = true ∧
    K.lookup cc = some ⟨cl, cld, .cell (some (.ref C)), csl⟩ ∧ ISc sc par ∧ (ps.posonlyargs ++ ps.args).head? = some ar ∧ ar.arg = "self" ∧ (∀ e u : Value, bindArgs (ksFn nm qual ps body sc .none kV doc pm an (.ref cda) ct cc) ⟨[e, u], []⟩ = pure [(("self" : Str), e), (par, u)]) ∧
    body = [.Expr (.Call (.Attribute (.Call (.Name "super" a1) [] [] a2) "__init__" a3) [.Constant (.str msg) kd a4] [] a5) a6, .Assign [.Attribute (.Name "self" b1) fld b2] (.Name par b3) b4] ∧
    ∀ env, eval (.Call (.Attribute (.Call (.Name "super" a1) [] [] a2) "__init__" a3) [.Constant (.str msg) kd a4] [] a5) env = (do
      let ov ← attributeBase (.Call (.Name "super" a1) [] [] a2) "__init__" env (eval (.Call (.Name "super" a1) [] [] a2) env)
      standAt a3.atName
      let (f, first) ← holding [ov] (getMethod ov "__init__" (pl env))
      callWith a5 f first (backTo a5 (starEach [.Constant (.str msg) kd a4] env)) [])
noncomputable def tRaise1 (C : Addr) (fld : Str) (XR : St → XK) (t : TA) : TS := fun _ σ H => t σ H fun vs H1 => ∃ v, vs = [v] ∧ ∀ dx, H1 dx = none → XR σ (.ref C) (some dx) (upd H1 dx (.xd [(fld, v)]))
section
variable {X : Cx} {C LE fI : Addr} {fld x : Str} {XR : St → XK} {np cpos pos : Pos} {e : Expr} {t : TA}
end
section
variable {prog : Program} {w : World} {A : Around} {E : Value → Shared → Prop} {h : Heap} {g : Array GenState} {d : Drawn} {t : Nat} {os : OsState} {a C LE dx : Addr} {o : Obj} {vs : Array Value} {name : Str} {v : Value} {mA : Str → Option Value}
structure GetAt (M : Model) (h : Heap) (C : Addr) : Prop where
  ga : Looks M h (typeLookup (.ref C) "__getattribute__") (some (.builtin "BaseException.__getattribute__"))
  gn : Looks M h (typeLookup (.ref C) "__getattr__") none
  be : Looks M h (isSubtype (.ref C) (.type "BaseException")) true
  ob : Looks M h (isSubtype (.ref C) (.type "object")) true
  kc : Looks M h (typeLookup (.ref C) "__class__") (some (.builtin "object.__class__"))
end
structure XG (K : Frag) (C : Addr) : Prop where
  cl : ∃ cd, clsIn K C = some cd
  ga : findIn K (.ref C) "__getattribute__" = some (some (.builtin "BaseException.__getattribute__"))
  gn : findIn K (.ref C) "__getattr__" = some none
  kc : findIn K (.ref C) "__class__" = some (some (.builtin "object.__class__"))
  be : mroIn K C (.type "BaseException") = some true
  ob : mroIn K C (.type "object") = some true
theorem XG.at_ {K : Frag} {C : Addr} {M : Model} {h : Heap} (x : XG K C) (X : K.In h) : GetAt M h C := ⟨looks_findIn X x.ga, looks_findIn X x.gn, looks_mroIn X x.be, looks_mroIn X x.ob, looks_findIn X x.kc⟩
inductive TyX (K : Frag) (H : Hp) : V → Value → Prop
  | std {x : V} {T : String} (h : TyS K H x T) : TyX K H x (.type T)
  | exc {a C : Addr} {dx : Option Addr} (h : H a = some (.ext (ExcIs a (.ref C) dx))) (g : XG K C) : TyX K H (.ref a) (.ref C)
section
variable {X : Cx}
noncomputable def tXAt (K : Frag) (ta : TE) (f : Str) : TE := fun σ H Q => ta σ H fun x H1 => ∃ a C dx fs v init, x = .ref a ∧ H1 a = some (.ext (ExcIs a (.ref C) (some dx))) ∧ XG K C ∧ xcIn K C init = true ∧ findIn K (.ref C) f = some none ∧ H1 dx = some (.xd fs) ∧ fs.lookup f = some v ∧ Q v H1
variable {e : Expr} {ta : TE} {f : Str} {pos : Pos}
end
structure IBody (st : Stmt) (fld par : Str) : Prop where
  sc : ISc (defScope st) par
  se : ∃ ar, ((defArgs st).posonlyargs ++ (defArgs st).args).head? = some ar ∧ ar.arg = "self"
  bd : ∀ (nm qual : Str) (kV doc pm : Value) (an : Option Addr) (cda : Value) (ct : Value) (cc : Addr) (e u : Value), bindArgs (ksFn nm qual (defArgs st) (defBody st) (defScope st) .none kV doc pm an cda ct cc) ⟨[e, u], []⟩ = pure [(("self" : Str), e), (par, u)]
  tx : ∃ (msg : Str) (a1 a2 a3 a4 a5 a6 b1 b2 b3 b4 : Pos) (kd : Nat) (pl : Env → Sem Bool), defBody st = [.Expr (.Call (.Attribute (.Call (.Name "super" a1) [] [] a2) "__init__" a3) [.Constant (.str msg) kd a4] [] a5) a6, .Assign [.Attribute (.Name "self" b1) fld b2] (.Name par b3) b4] ∧
    ∀ env, eval (.Call (.Attribute (.Call (.Name "super" a1) [] [] a2) "__init__" a3) [.Constant (.str msg) kd a4] [] a5) env = (do
      let ov ← attributeBase (.Call (.Name "super" a1) [] [] a2) "__init__" env (eval (.Call (.Name "super" a1) [] [] a2) env)
      standAt a3.atName
      let (f, first) ← holding [ov] (getMethod ov "__init__" (pl env))
      callWith a5 f first (backTo a5 (starEach [.Constant (.str msg) kd a4] env)) [])
section
variable {X : Cx} {b₀ : Stmt} {body suite : List Stmt} {c x : Str} {p hp pos : Pos} {B : Addr} {i : Nat} {tb : (St → XK) → TS} {ts : TS}
end
section
variable {σ : St} {H : Hp} {D : Ends} {Q : VK}
theorem rd_callX {sp : Sp} {dvs : List V} {XR : St → XK} {t : TA} (h : t σ H fun vs H1 => sp (vs ++ dvs) H1 Q (XR σ)) : tCallX sp dvs XR t σ H Q := h
theorem rd_raise0 {C : Addr} {XR : St → XK} (h : XR σ (.ref C) none H) : tRaise0 C XR D σ H := h
theorem rd_raise1 {C : Addr} {fld : Str} {XR : St → XK} {t : TA} (h : t σ H fun vs H1 => ∃ v, vs = [v] ∧ ∀ dx, H1 dx = none → XR σ (.ref C) (some dx) (upd H1 dx (.xd [(fld, v)]))) : tRaise1 C fld XR t D σ H := h
theorem rd_try {K : Frag} {B : Addr} {i : Nat} {tb : (St → XK) → TS} {ts : TS}
    (h : tb (fun σ' C dx H' => exmOne K C (.ref B) = some true ∧ ∀ a, H' a = none → ts (D.un i) (σ'.set i (some (.ref a))) (upd H' a (.ext (ExcIs a C dx)))) D σ H) : tTry K B i tb ts D σ H := h
theorem rd_unx {i : Nat} (h : D.nx (σ.set i none) H) : (D.un i).nx σ H := h
theorem rd_xat {K : Frag} {ta : TE} {f : Str} (h : ta σ H fun x H1 => ∃ a C dx fs v init, x = .ref a ∧ H1 a = some (.ext (ExcIs a (.ref C) (some dx))) ∧ XG K C ∧ xcIn K C init = true ∧ findIn K (.ref C) f = some none ∧ H1 dx = some (.xd fs) ∧ fs.lookup f = some v ∧ Q v H1) : tXAt K ta f σ H Q := h
end
structure ISc0 (sc : Scope) : Prop where
  su : sc.names.lookup ("super" : Str) = some .globalImplicit
  cl : sc.names.lookup ("__class__" : Str) = some .free
  se : sc.names.lookup ("self" : Str) = some .local
  nc : ∀ x ∈ sc.names, x.2 ≠ .cell
  co : sc.isCoroutine = false
  ge : sc.isGenerator = false
  ki : sc.kind = .function
section
variable {prog : Program} {w : World} {A : Around} {R : Result → Shared → Prop} {h : Heap} {g : Array GenState} {d : Drawn} {t : Nat} {os : OsState}
variable {K : Frag} {mg : Str → Option Value} {base : Heap} {f C LE e cda cc : Addr} {fld nm qual msg file : Str} {ps : Arguments} {body : List Stmt} {sc : Scope} {kV doc pm ct oc ccl cl : Value} {an od cdd cld : Option Addr} {osl ccs csl : Array (Option Value)} {cvs vs : Array Value} {tf : Tok} {init : Option Value} {oe : Obj} {t0 : Addr} {ar : Arg}
  {a1 a2 a3 a4 a5 a6 : Pos} {kd : Nat} {pl : Env → Sem Bool}
end
section
variable {prog : Program} {w : World} {A : Around} {E : Value → Shared → Prop} {h : Heap} {g : Array GenState} {d : Drawn} {t : Nat} {os : OsState} {C fI : Addr} {oI : Obj}
end
structure XIni0 (prog : Program) (K : Frag) (C LE fI : Addr) (fld : Str) : Prop where
  x1 : XK1 K C LE fld
  xc : xcIn K C (some (.ref fI)) = true
  kp : keepIn K (.ref C) = true
  su : nsIn K mainGlobals "super" = some none
  top : (prog.main.scope.names.lookup ("super" : Str)).isSome = false
  ex : ∃ (nm qual msg file : Str) (ps : Arguments) (body : List Stmt) (sc : Scope) (kV doc pm ct ccl cl : Value) (an od cdd cld : Option Addr) (osl ccs csl : Array (Option Value)) (cvs : Array Value) (tf : Tok) (ar : Arg) (cda cc : Addr)
    (a1 a2 a3 a4 a5 a6 : Pos) (kd : Nat) (pl : Env → Sem Bool),
    K.lookup fI = some ⟨.type "function", od, .func (ksFn nm qual ps body sc .none kV doc pm an (.ref cda) ct cc), osl⟩ ∧ codeIn K (.ref cda) qual = true ∧ K.lookup cda = some ⟨ccl, cdd, .fields cvs, ccs⟩ ∧ cvs[2]? = some (.str file tf) ∧ ((prog.main.file : Str) == file) = true ∧
    K.lookup cc = some ⟨cl, cld, .cell (some (.ref C)), csl⟩ ∧ ISc0 sc ∧ (ps.posonlyargs ++ ps.args).head? = some ar ∧ ar.arg = "self" ∧ (∀ e : Value, bindArgs (ksFn nm qual ps body sc .none kV doc pm an (.ref cda) ct cc) ⟨[e], []⟩ = pure [(("self" : Str), e)]) ∧
    body = [.Expr (.Call (.Attribute (.Call (.Name "super" a1) [] [] a2) "__init__" a3) [.Constant (.str msg) kd a4] [] a5) a6] ∧
    ∀ env, eval (.Call (.Attribute (.Call (.Name "super" a1) [] [] a2) "__init__" a3) [.Constant (.str msg) kd a4] [] a5) env = (do
      let ov ← attributeBase (.Call (.Name "super" a1) [] [] a2) "__init__" env (eval (.Call (.Name "super" a1) [] [] a2) env)
      standAt a3.atName
      let (f, first) ← holding [ov] (getMethod ov "__init__" (pl env))
      callWith a5 f first (backTo a5 (starEach [.Constant (.str msg) kd a4] env)) [])
section
variable {X : Cx} {C LE fI : Addr} {fld x : Str} {XR : St → XK} {np cpos pos : Pos}
end
structure IBody0 (st : Stmt) : Prop where
  sc : ISc0 (defScope st)
  se : ∃ ar, ((defArgs st).posonlyargs ++ (defArgs st).args).head? = some ar ∧ ar.arg = "self"
  bd : ∀ (nm qual : Str) (kV doc pm : Value) (an : Option Addr) (cda : Value) (ct : Value) (cc : Addr) (e : Value), bindArgs (ksFn nm qual (defArgs st) (defBody st) (defScope st) .none kV doc pm an cda ct cc) ⟨[e], []⟩ = pure [(("self" : Str), e)]
  tx : ∃ (msg : Str) (a1 a2 a3 a4 a5 a6 : Pos) (kd : Nat) (pl : Env → Sem Bool), defBody st = [.Expr (.Call (.Attribute (.Call (.Name "super" a1) [] [] a2) "__init__" a3) [.Constant (.str msg) kd a4] [] a5) a6] ∧
    ∀ env, eval (.Call (.Attribute (.Call (.Name "super" a1) [] [] a2) "__init__" a3) [.Constant (.str msg) kd a4] [] a5) env = (do
      let ov ← attributeBase (.Call (.Name "super" a1) [] [] a2) "__init__" env (eval (.Call (.Name "super" a1) [] [] a2) env)
      standAt a3.atName
      let (f, first) ← holding [ov] (getMethod ov "__init__" (pl env))
      callWith a5 f first (backTo a5 (starEach [.Constant (.str msg) kd a4] env)) [])
end L2

namespace Zt
open PySem PySem.Spec
section
variable {prog : Program} {w : World} {A : Around} {E : Value → Shared → Prop} {s : Shared}
end
end Zt
namespace L2
open PySem PySem.Spec PyProof.Rows
noncomputable def Ite (K : PySem.W.Frag) (a : Addr) : It :=
  ⟨fun i H => ∃ xs x, SqT K H a xs ∧ xs[i]? = some x,
   fun i H v H' => ∃ p x, H p = none ∧ (∀ xs, SqT K H a xs → xs[i]? = some x) ∧ v = .ref p ∧ H' = upd H p (.tup [.int i, x]),
   fun i H => ∃ xs, SqT K H a xs ∧ xs.length ≤ i⟩
noncomputable def iEnum (K : PySem.W.Frag) (ta : TA) : TI := fun σ H R => ta σ H fun vs H1 => ∃ a, vs = [.ref a] ∧ (∃ xs, SqT K H1 a xs) ∧ R (Ite K a) H1
theorem rd_ienum {K : PySem.W.Frag} {ta : TA} {σ : St} {H : Hp} {R : It → Hp → Prop} (h : ta σ H fun vs H1 => ∃ a, vs = [.ref a] ∧ (∃ xs, SqT K H1 a xs) ∧ R (Ite K a) H1) : iEnum K ta σ H R := h
end L2

namespace Mt
open PySem L2
end Mt

namespace Zt
open PySem PySem.Spec
end Zt


namespace L2
open PySem PySem.Spec PyProof.Rows
noncomputable def ItzL (K : PySem.W.Frag) (a b : Addr) : It :=
  ⟨fun i H => ∃ xs ys x y, SqL K H a xs ∧ SqL K H b ys ∧ xs[i]? = some x ∧ ys[i]? = some y,
   fun i H v H' => ∃ p x y, H p = none ∧ (∀ xs, SqL K H a xs → xs[i]? = some x) ∧ (∀ ys, SqL K H b ys → ys[i]? = some y) ∧ v = .ref p ∧ H' = upd H p (.tup [x, y]),
   fun i H => ∃ xs ys, SqL K H a xs ∧ SqL K H b ys ∧ (xs.length ≤ i ∨ ys.length ≤ i)⟩
noncomputable def iZipL (K : PySem.W.Frag) (ta : TA) : TI := fun σ H R => ta σ H fun vs H1 => ∃ a b, vs = [.ref a, .ref b] ∧ (∃ xs, SqL K H1 a xs) ∧ (∃ ys, SqL K H1 b ys) ∧ R (ItzL K a b) H1
end L2

namespace L2
open PySem PySem.Spec PyProof.Rows PySem.W
noncomputable def tCallV (i : Nat) (f : Addr) (sp : Sp) (dvs : List V) (XR : St → XK) (t : TA) : TE := fun σ H Q => σ[i]? = some (some (.ref f)) ∧ t σ H fun vs H1 => sp (vs ++ dvs) H1 Q (XR σ)
noncomputable def tStar (K : Frag) (te : TE) (t : TA) : TA := fun σ H Q => te σ H fun v H1 => ∃ a xs, v = .ref a ∧ SqT K H1 a xs ∧ t σ H1 fun vs H2 => Q (xs ++ vs) H2
section
variable {X : Cx} {e : Expr} {es : List Expr} {te : TE} {t : TA} {pos p : Pos} {k i : Nat} {f : Addr} {fd : FuncData} {ps : List Str} {sp : Sp} {dvs : List V} {ds : List Value} {XR : St → XK} {x : Str}
variable {tg a b : Expr} {ta : TA}
end
section
variable {σ : St} {H : Hp} {Q : VK}
theorem rd_star {K : Frag} {te : TE} {t : TA} {R : List V → Hp → Prop} (h : te σ H fun v H1 => ∃ a xs, v = .ref a ∧ SqT K H1 a xs ∧ t σ H1 fun vs H2 => R (xs ++ vs) H2) : tStar K te t σ H R := h
theorem rd_izipL {K : Frag} {ta : TA} {R : It → Hp → Prop} (h : ta σ H fun vs H1 => ∃ a b, vs = [.ref a, .ref b] ∧ (∃ xs, SqL K H1 a xs) ∧ (∃ ys, SqL K H1 b ys) ∧ R (ItzL K a b) H1) : iZipL K ta σ H R := h
theorem rd_callV {i : Nat} {f : Addr} {sp : Sp} {dvs : List V} {XR : St → XK} {t : TA} (hi : σ[i]? = some (some (.ref f))) (h : t σ H fun vs H1 => sp (vs ++ dvs) H1 Q (XR σ)) : tCallV i f sp dvs XR t σ H Q := ⟨hi, h⟩
end
theorem comp_byF {J : It} {H1 : Hp} {acc : Addr} {σ0 : St} {g : TG} {tt : TT} {te : TE} {Q : VK} (n : Nat) (hn : n < sizeLine) (Pv : Nat → List V → St → Hp → Prop) (h0 : Pv 0 [] σ0 (upd H1 acc (.lst [])))
    (hgo : ∀ i vs σc H, i < n → vs.length ≤ i → H acc = some (.lst vs) → Pv i vs σc H → J.go i H ∧ ∀ x H', J.yld i H x H' → ∀ (R : St → V → Hp → Prop) (S : St → Hp → Prop),
      (∀ σ2 v H4, H4 acc = some (.lst vs) → Pv (i + 1) (vs ++ [v]) σ2 (upd H4 acc (.lst (vs ++ [v]))) → R σ2 v H4) → (∀ σ2 H4, H4 acc = some (.lst vs) → Pv (i + 1) vs σ2 H4 → S σ2 H4) →
      g x σc H' fun σ2 H2 => tt σ2 H2 fun b H3 => if b = true then te σ2 H3 (R σ2) else S σ2 H3)
    (hst : ∀ vs σc H, vs.length ≤ n → H acc = some (.lst vs) → Pv n vs σc H → J.stop n H ∧ Q (.ref acc) H) : CompW σ0 J H1 acc g tt te Q := by
  refine ⟨fun i m σc H => m = n - i ∧ i ≤ n ∧ ∃ vs, vs.length ≤ i ∧ H acc = some (.lst vs) ∧ Pv i vs σc H, ⟨n, by simp, Nat.zero_le _, [], Nat.le_refl _, upd_same, h0⟩, ?_⟩
  rintro i m σc H ⟨rfl, hi, vs, hl, ha, hp⟩
  by_cases hlt : i < n
  · obtain ⟨g1, g2⟩ := hgo i vs σc H hlt hl ha hp
    refine .inr ⟨g1, fun σ' H' => i + 1 ≤ n ∧ ∃ vs, vs.length ≤ i + 1 ∧ H' acc = some (.lst vs) ∧ Pv (i + 1) vs σ' H', fun σ' H' q => ⟨n - (i + 1), by omega, rfl, q⟩, fun x H' y => ?_⟩
    exact g2 x H' y (fun σ2 v H4 => ∃ xs, H4 acc = some (.lst xs) ∧ xs.length < sizeLine ∧ (i + 1 ≤ n ∧ ∃ vs, vs.length ≤ i + 1 ∧ (upd H4 acc (.lst (xs ++ [v]))) acc = some (.lst vs) ∧ Pv (i + 1) vs σ2 (upd H4 acc (.lst (xs ++ [v])))))
      (fun σ2 H4 => i + 1 ≤ n ∧ ∃ vs, vs.length ≤ i + 1 ∧ H4 acc = some (.lst vs) ∧ Pv (i + 1) vs σ2 H4)
      (fun σ2 v H4 q1 q2 => ⟨vs, q1, by omega, hlt, vs ++ [v], by simp; omega, upd_same, q2⟩) fun σ2 H4 q1 q2 => ⟨hlt, vs, by omega, q1, q2⟩
  · have e : i = n := by omega
    subst e
    exact .inl (hst vs σc H hl ha hp)
end L2

namespace L2
open PySem PySem.Spec PyProof.Rows
noncomputable def gLst (K : PySem.W.Frag) (n : Nat) (t : TGs) : TG := fun v σ H Q => ∃ a xs, v = .ref a ∧ SqL K H a xs ∧ xs.length = n ∧ t xs σ H Q
theorem rd_glst {K : PySem.W.Frag} {n : Nat} {t : TGs} {σ : St} {H : Hp} {a : Addr} {xs : List V} {Q : St → Hp → Prop} (hq : SqL K H a xs) (hl : xs.length = n) (h : t xs σ H Q) : gLst K n t (.ref a) σ H Q := ⟨a, xs, rfl, hq, hl, h⟩
noncomputable def tRange (ta : TA) : TE := fun σ H Q => ta σ H fun vs H1 => ∃ j : Int, vs = [.int j] ∧ -(2 ^ 62) ≤ j ∧ j < 2 ^ 62 ∧ ∀ p, H1 p = none → Q (.ref p) (upd H1 p (.rng 0 j))
section
variable {X : Cx} {a e o : Expr} {es : List Expr} {ta t tk : TA} {p pos apos cpos : Pos}
noncomputable def rInt1 : TR := fun xs H Q => (∃ i, xs = [.int i] ∧ Q (.int i) H) ∨ ∃ k, xs = [.bl k] ∧ Q (.int (if k then 1 else 0)) H
structure PKs (X : Cx) (kws : List Keyword) (t : TA) : Prop where
  run : PK X kws t
noncomputable def kg2 {α : Type} : List α → List α → List α
  | [a], [b] => [a, b]
  | _, _ => []
theorem rd_callK {σ : St} {H : Hp} {Q : VK} {sp : Sp} {gV : List V → List V → List V} {E : XK} (h : t σ H fun vs H1 => tk σ H1 fun zs H2 => sp (gV vs zs) H2 Q E) : tCallK sp gV E t tk σ H Q := h
theorem kg2_rel {vs : List V} {us : List Value} {zs : List V} {ws : List Value} (h1 : Vals vs us) (h2 : Vals zs ws) : Vals (kg2 vs zs) (kg2 us ws) := by
  cases h1 with
  | nil => exact .nil
  | cons a r => cases r with
    | nil => cases h2 with
      | nil => exact .nil
      | cons b r2 => cases r2 with
        | nil => exact .cons a (.cons b .nil)
        | cons _ _ => exact .nil
    | cons _ _ => exact .nil
end
section
variable {σ : St} {H : Hp} {Q : VK} {K : PySem.W.Frag}
theorem rd_range {ta : TA} (h : ta σ H fun vs H1 => ∃ j : Int, vs = [.int j] ∧ -(2 ^ 62) ≤ j ∧ j < 2 ^ 62 ∧ ∀ p, H1 p = none → Q (.ref p) (upd H1 p (.rng 0 j))) : tRange ta σ H Q := h
theorem rd_intB {k : Bool} (h : Q (.int (if k then 1 else 0)) H) : rInt1 [.bl k] H Q := .inr ⟨k, rfl, h⟩
theorem rd_intI {i : Int} (h : Q (.int i) H) : rInt1 [.int i] H Q := .inl ⟨i, rfl, h⟩
end
theorem Fun.kbinds {K : PySem.W.Frag} {x qual : Str} {st : Stmt} {f : Addr} {fd : FuncData} {ps ks : List Str} (F : Fun K x qual st f fd) (hp : ps.length = 2)
    (h : ∀ (kV doc pm : Value) (an : Option Addr) (cdv ct u w : Value), bindArgs (PySem.W.fnOf x qual (defArgs st) (defBody st) (defScope st) .none kV doc pm an cdv ct) ⟨[u], ks.zip [w]⟩ = pure (ps.zip [u, w])) : KBinds K fd ps ks kg2 kg2 := by
  obtain ⟨oc, od, kV, doc, pm, an, cdv, ct, osl, rfl, lk, hcd⟩ := F.ex
  refine ⟨fun s us ws _ hl => ?_, kg2_rel⟩
  rw [hp] at hl
  match us, ws, hl with
  | [u], [w], _ => exact .of_eq (h kV doc pm an cdv ct u w)
  | [], _, hl => simp [kg2] at hl
  | [_], [], hl => simp [kg2] at hl
  | [_], _ :: _ :: _, hl => simp [kg2] at hl
  | _ :: _ :: _, _, hl => simp [kg2] at hl
section
variable {X : Cx} {K : PySem.W.Frag}
end
section
variable {H : Hp} {Q : VK} {K : PySem.W.Frag} {p : Addr} {xs : List V} {x : V}
end
structure Dk (H : Hp) (p c r : Addr) (m : Nat) : Prop where
  ex : ∃ (cs rs : List Int) (n : Int), H p = some (.lst [.ref c, .int n, .ref r]) ∧ H c = some (.lst (cs.map V.int)) ∧ H r = some (.lst (rs.map V.int)) ∧ c ≠ p ∧ c ≠ r ∧ r ≠ p ∧ 1 ≤ cs.length ∧ cs.length ≤ 63 ∧ rs.length = cs.length ∧ 0 ≤ n ∧ n ≤ m
theorem Dk.mono {H : Hp} {p c r : Addr} {m m' : Nat} (h : Dk H p c r m) (e : m ≤ m') : Dk H p c r m' := by
  obtain ⟨cs, rs, n, a1, a2, a3, a4, a5, a6, a7, a8, a9, a10, a11⟩ := h.ex
  exact ⟨cs, rs, n, a1, a2, a3, a4, a5, a6, a7, a8, a9, a10, by omega⟩
theorem Dk.tr {H : Hp} {p c r : Addr} {m : Nat} (h : Dk H p c r m) {b : Addr} (hb : b ∈ [p, c, r]) : H b ≠ none := by
  obtain ⟨cs, rs, _, a1, a2, a3, _⟩ := h.ex
  simp only [List.mem_cons, List.not_mem_nil, or_false] at hb
  rcases hb with rfl | rfl | rfl
  · rw [a1]; intro z; cases z
  · rw [a2]; intro z; cases z
  · rw [a3]; intro z; cases z
theorem nin_pr {p c r q : Addr} (h : q ∉ [p, c, r]) : q ∉ [p, r] := by
  simp only [List.mem_cons, List.not_mem_nil, or_false, not_or] at h ⊢
  exact ⟨h.1, h.2.2⟩
end L2

open PySem L2
namespace Mt
noncomputable def cruleD : List PyData → Bool
  | [a, b] => withinD 1 7 b && (strEq "held" a || strEq "applied" a)
  | _ => false
noncomputable def ruleD : PyData → Bool
  | .tuple [a] => strEq "written" a
  | .tuple ds => cruleD ds
  | _ => false
noncomputable def needD : PyData → Int
  | .tuple [_, .int k] => k + 1
  | _ => 1
structure AsOk (h : Int) (as : List Int) : Prop where
  nd : as.Nodup
  rg : ∀ a ∈ as, 0 ≤ a ∧ a < h
end Mt
namespace L2
theorem cutV_take (xs : List V) (n : Nat) : cutV xs none (some (n : Int)) = xs.take n := by
  unfold cutV
  have e : HT.sIx xs.length xs.length (some (n : Int)) = min n xs.length := HT.sIx_nat _ _ n
  rw [e, HT.sIx_none, List.drop_zero, Nat.sub_zero]
  rcases Nat.le_total n xs.length with h | h
  · rw [Nat.min_eq_left h]
  · rw [Nat.min_eq_right h, List.take_length, List.take_of_length_le h]
end L2
namespace Mt
noncomputable def lstI (xs : List Int) : PyData := .list (xs.map PyData.int)
noncomputable def LsAll (N : List Addr) (H : Hp) : List V → List (List Int) → Prop
  | [], [] => True
  | v :: vs, xs :: xss => (∃ l, v = .ref l ∧ l ∉ N ∧ H l = some (.lst (xs.map V.int))) ∧ LsAll N H vs xss
  | _, _ => False
theorem LsAll.drop {N : List Addr} {H : Hp} : ∀ {vs : List V} {xss : List (List Int)}, LsAll N H vs xss → LsAll [] H vs xss
  | [], [], _ => trivial
  | v :: vs, xs :: xss, ⟨⟨l, h1, h2, h3⟩, r⟩ => ⟨⟨l, h1, by simp, h3⟩, LsAll.drop r⟩
  | [], _ :: _, h => h.elim
  | _ :: _, [], h => h.elim
theorem LsAll.app {N : List Addr} {H : Hp} {ws : List V} {yss : List (List Int)} (h2 : LsAll N H ws yss) : ∀ {vs : List V} {xss : List (List Int)}, LsAll N H vs xss → LsAll N H (vs ++ ws) (xss ++ yss)
  | [], [], _ => h2
  | v :: vs, xs :: xss, ⟨h, r⟩ => ⟨h, LsAll.app h2 r⟩
  | [], _ :: _, h => h.elim
  | _ :: _, [], h => h.elim
theorem dtInts {K : PySem.W.Frag} {N : List Addr} {H : Hp} : ∀ xs : List Int, DtAll K N H (xs.map V.int) (xs.map PyData.int)
  | [] => .nil
  | x :: xs => .cons (.int x) (dtInts xs)
theorem LsAll.dt {K : PySem.W.Frag} {N : List Addr} {H : Hp} : ∀ {vs : List V} {xss : List (List Int)}, LsAll N H vs xss → DtAll K N H vs (xss.map lstI)
  | [], [], _ => .nil
  | v :: vs, xs :: xss, ⟨⟨l, h1, h2, h3⟩, r⟩ => by
    subst h1
    exact .cons (.lst (SqL.of h3) h2 (dtInts xs)) (LsAll.dt r)
  | [], _ :: _, h => h.elim
  | _ :: _, [], h => h.elim
end Mt
namespace L2
mutual
theorem Dt.sub {K : PySem.W.Frag} {N N' : List Addr} {H : Hp} (s : ∀ b ∈ N', b ∈ N) : ∀ {v : V} {d : PyData}, Dt K N H v d → Dt K N' H v d
  | _, _, .non => .non
  | _, _, .bl b => .bl b
  | _, _, .int i => .int i
  | _, _, .str x => .str x
  | _, _, .tup h n r => .tup h (fun z => n (s _ z)) (DtAll.sub s r)
  | _, _, .lst h n r => .lst h (fun z => n (s _ z)) (DtAll.sub s r)
  | _, _, .dk0 h n => .dk0 h (fun z => n (s _ z))
  | _, _, .dk1 h n r => .dk1 h (fun z => n (s _ z)) (Dt.sub s r)
theorem DtAll.sub {K : PySem.W.Frag} {N N' : List Addr} {H : Hp} (s : ∀ b ∈ N', b ∈ N) : ∀ {vs : List V} {ds : List PyData}, DtAll K N H vs ds → DtAll K N' H vs ds
  | _, _, .nil => .nil
  | _, _, .cons h r => .cons (Dt.sub s h) (DtAll.sub s r)
end
theorem Dt.nil {K : PySem.W.Frag} {N : List Addr} {H : Hp} {v : V} {d : PyData} (h : Dt K N H v d) : Dt K [] H v d := h.sub (fun _ z => by cases z)
end L2
namespace L2
open PySem
noncomputable def RuT (H : Hp) (t : Addr) : Prop := H t = some (.tup [.str "written"]) ∨ ∃ w k, H t = some (.tup [.str w, .int k]) ∧ (w = "held" ∨ w = "applied") ∧ 1 ≤ k ∧ k ≤ 7
noncomputable def RuAll (N : List Addr) (H : Hp) (vs : List V) : Prop := ∀ v ∈ vs, ∃ t, v = .ref t ∧ t ∉ N ∧ RuT H t
theorem RuAll.app {N : List Addr} {H : Hp} {vs ws : List V} (h1 : RuAll N H vs) (h2 : RuAll N H ws) : RuAll N H (vs ++ ws) := fun v hv => by
  rcases List.mem_append.mp hv with h | h
  · exact h1 v h
  · exact h2 v h
theorem RuT.dt {K : PySem.W.Frag} {H : Hp} {t : Addr} (h : RuT H t) : ∃ d, Dt K [] H (.ref t) d ∧ Mt.ruleD d = true ∧ 1 ≤ Mt.needD d ∧ Mt.needD d ≤ 8 ∧ ∃ xs, SqT K H t xs ∧ (xs ++ [.int 0])[1]? = some (.int (Mt.needD d - 1)) ∧ xs.length ≤ 2 := by
  rcases h with h | ⟨w, k, h, hw, k1, k2⟩
  · exact ⟨.tuple [.str "written"], .tup (SqT.of h) (by simp) (.cons (.str _) .nil), rfl, by decide, by decide, _, SqT.of h, rfl, by simp⟩
  · refine ⟨.tuple [.str w, .int k], .tup (SqT.of h) (by simp) (.cons (.str _) (.cons (.int _) .nil)), ?_, by show 1 ≤ k + 1; omega, by show k + 1 ≤ 8; omega, _, SqT.of h, by simp [Mt.needD], by simp⟩
    simp only [Mt.ruleD, Mt.cruleD, Mt.withinD, Mt.strEq]
    rcases hw with rfl | rfl <;> simp [k1, k2]
end L2

namespace L2
open PySem PySem.Spec PyProof.Rows PySem.W
section
variable {X : Cx}
noncomputable def tCallKX (sp : Sp) (gV : List V → List V → List V) (XR : St → XK) (t tk : TA) : TE := fun σ H Q => t σ H fun vs H1 => tk σ H1 fun zs H2 => sp (gV vs zs) H2 Q (XR σ)
end
section
variable {X : Cx} {e : Expr} {es : List Expr} {t tk : TA} {pos p : Pos} {k : Nat} {f : Addr} {fd : FuncData} {ps ks : List Str} {sp : Sp} {XR : St → XK} {x : Str} {kws : List Keyword}
theorem rd_callKX {σ : St} {H : Hp} {Q : VK} {gV : List V → List V → List V} (h : t σ H fun vs H1 => tk σ H1 fun zs H2 => sp (gV vs zs) H2 Q (XR σ)) : tCallKX sp gV XR t tk σ H Q := h
end
end L2
namespace L2
open PySem
theorem cutV_drop (xs : List V) (n : Nat) : cutV xs (some (n : Int)) none = xs.drop n := by
  unfold cutV
  have e : HT.sIx xs.length 0 (some (n : Int)) = min n xs.length := HT.sIx_nat _ _ n
  rw [e, HT.sIx_none]
  rcases Nat.le_total n xs.length with h | h
  · rw [Nat.min_eq_left h]
    exact List.take_of_length_le (by rw [List.length_drop]; exact Nat.le_refl _)
  · rw [Nat.min_eq_right h, List.drop_of_length_le (Nat.le_refl _), List.drop_of_length_le h, List.take_nil]
theorem Ext.up3 {p c r : Addr} {H H' : Hp} (e : Ext [p, r] H H') : Ext [p, c, r] H H' := e.mono fun b hb => by
  simp only [List.mem_cons, List.not_mem_nil, or_false] at hb ⊢
  rcases hb with h | h
  · exact .inl h
  · exact .inr (.inr h)
end L2
namespace Mt
open PySem
mutual
noncomputable def tupB : PyData → Bool
  | .none => true
  | .bool _ => true
  | .int _ => true
  | .str _ => true
  | .tuple es => tupBAll es
  | _ => false
noncomputable def tupBAll : List PyData → Bool
  | [] => true
  | e :: es => tupB e && tupBAll es
end
end Mt
namespace Mt
theorem AsOk.take {h : Int} {as : List Int} (o : AsOk h as) (n : Nat) : AsOk h (as.take n) := ⟨o.nd.sublist (List.take_sublist _ _), fun a ha => o.rg a (List.mem_of_mem_take ha)⟩
end Mt

namespace L2
open PySem PySem.Spec PyProof.Rows
noncomputable def tTupS (t : TA) : TE := fun σ H Q => t σ H fun xs H1 => xs.length ≤ sizeLine ∧ ∀ p H', H1 p = none → p ≠ sysModules → Same H1 H' → H' p = some (.tup xs) → Q (.ref p) H'
noncomputable def tLstS (t : TA) : TE := fun σ H Q => t σ H fun xs H1 => xs.length ≤ sizeLine ∧ ∀ p H', H1 p = none → p ≠ sysModules → Same H1 H' → H' p = some (.lst xs) → Q (.ref p) H'
noncomputable def tDisp1 (tk tv : TE) : TE := fun σ H Q => ∀ p, H p = none → p ≠ sysModules → tk σ (upd H p (.dK [])) fun x H1 => tv σ H1 fun y H2 => H2 p = some (.dK []) ∧ ∃ k : Key, x = kV k ∧ Q (.ref p) (upd H2 p (.dK [(k, y)]))
section
variable {X : Cx} {es : List Expr} {t : TA} {pos p : Pos} {K : PySem.W.Frag} {k v a b tg : Expr} {tk tv : TE} {ta : TA} {x : Str}
theorem qe_tupS {x1} (h : PAs X es t) : PE X (.Tuple es x1 pos) (tTupS t) := by
  intro pins s σ H Q I hq
  refine wpAny_Tuple_spliced (thn (h.run pos pins s σ H _ I hq) fun us s1 ⟨xs, H1, I1, r, z, q⟩ => ⟨by rw [← r.length]; exact z, ?_⟩)
  have hf : H1 s1.heap.objs.size = none := I1.hok.fresh (Nat.le_refl _)
  exact ⟨.ref s1.heap.objs.size, upd H1 s1.heap.objs.size (.tup xs), I1.laid (t' := s1.toks) (fun b u e => Heap.get?_push_of_some _ e) (Nat.le_refl _) ⟨z, us, r, ⟨_, Heap.get?_push_size _ rfl, rfl, _, rfl⟩⟩, rfl, q _ _ hf (Nat.ne_of_gt I1.big) (Same.upd hf) upd_same⟩
theorem qe_lstS (h : PAs X es t) : PE X (.List es pos) (tLstS t) := by
  intro pins s σ H Q I hq
  refine wpAny_List_spliced (thn (h.run pos pins s σ H _ I hq) fun us s1 ⟨xs, H1, I1, r, z, q⟩ => ⟨by rw [← r.length]; exact z, ?_⟩)
  have hf : H1 s1.heap.objs.size = none := I1.hok.fresh (Nat.le_refl _)
  exact ⟨.ref s1.heap.objs.size, upd H1 s1.heap.objs.size (.lst xs), I1.laid (t' := s1.toks) (fun b u e => Heap.get?_push_of_some _ e) (Nat.le_refl _) ⟨z, us, 0, r, Heap.get?_push_size _ rfl⟩, rfl, q _ _ hf (Nat.ne_of_gt I1.big) (Same.upd hf) upd_same⟩
theorem pe_disp1 (hk : PE X k tk) (hv : PE X v tv) : PE X (.Dict [some k] [v] pos) (tDisp1 tk tv) := by
  intro pins s σ H Q I q
  have hn := I.hok.fresh (Nat.le_refl s.heap.objs.size)
  have hb := I.big
  have I1 := I.laid (a := s.heap.objs.size) (o := .dK []) (h' := s.heap.push { cls := .type "dict", data := .dict #[] }) (t' := s.toks) (fun _ _ q => Heap.get?_push_of_some _ q) (Nat.le_refl _) (dk_empty s.heap I.big)
  refine wpAny_Dict_walk (knd := mixKind X.prog X.w) rfl rfl (by simp) (by show (1 : Nat) ≤ 15; decide) (pairTrees_cons_walk (thn (hk pins _ σ _ _ I1 (q _ hn (Nat.ne_of_gt hb))) fun u s1 ⟨x, H1, I1', rx, q1⟩ => thn (hv pins s1 σ H1 _ I1' q1) fun w2 s2 ⟨y, H2, I2, ry, e, kk, ex, q2⟩ => pairTrees_nil_walk ?_))
  subst ex
  obtain ⟨z, hd, vs0, r0, dd⟩ := dk_of I2.hok e
  cases r0
  refine ⟨[(kk, w2)], ⟨kV_is rx, rfl, True.intro⟩, dd, fun h' dd' hs => ⟨.ref s.heap.objs.size, _, ?_, rfl, q2⟩⟩
  have he : ∃ q, h'.get? s.heap.objs.size = some q := let ⟨q, _, _, hq, _⟩ := dd'; ⟨q, hq⟩
  exact d_write I2 (by rw [e]; exact True.intro) hs he (dk_new (by show (1 : Nat) ≤ sizeLine; decide) hd (.cons ⟨rfl, ry⟩ .nil) dd')
theorem qi_range2 (hg : Gl X "range") (hm : X.mg "range" = none) (ha : PAs X [a, b] ta) (h1 : notStar a = true) (h2 : notStar b = true) : PI X tg (.Call (.Name "range" p) [a, b] [] pos) (iRng2 ta) :=
  pi_range2 hg hm ha.run (by rw [star_ne h1, star_ne h2]; rfl) (by rw [star_ne h2]; rfl)
end
section
variable {σ : St} {H : Hp} {Q : VK} {K : PySem.W.Frag}
theorem rd_tupS {ta : TA} (h : ta σ H fun xs H1 => xs.length ≤ sizeLine ∧ ∀ p H', H1 p = none → p ≠ sysModules → Same H1 H' → H' p = some (.tup xs) → Q (.ref p) H') : tTupS ta σ H Q := h
theorem rd_lstS {ta : TA} (h : ta σ H fun xs H1 => xs.length ≤ sizeLine ∧ ∀ p H', H1 p = none → p ≠ sysModules → Same H1 H' → H' p = some (.lst xs) → Q (.ref p) H') : tLstS ta σ H Q := h
theorem rd_disp1 {tk tv : TE} (h : ∀ p, H p = none → p ≠ sysModules → tk σ (upd H p (.dK [])) fun x H1 => tv σ H1 fun y H2 => H2 p = some (.dK []) ∧ ∃ k : Key, x = kV k ∧ Q (.ref p) (upd H2 p (.dK [(k, y)]))) : tDisp1 tk tv σ H Q := h
theorem rd_rng2 {ta : TA} {R : It → Hp → Prop} (h : ta σ H fun vs H1 => ∃ i j : Int, vs = [.int i, .int j] ∧ (-(2 ^ 62) ≤ i ∧ i < 2 ^ 62 ∧ -(2 ^ 62) ≤ j ∧ j < 2 ^ 62) ∧ R (Itr i (j - i).toNat) H1) : iRng2 ta σ H R := h
end
end L2
namespace L2
open PySem
end L2
namespace Mt
open PySem
noncomputable def deepD : Nat → PyData
  | 0 => .tuple []
  | k + 1 => if k % 3 = 0 then .tuple [deepD k] else if k % 3 = 1 then .list [deepD k] else .dict [(.int k, deepD k)]
end Mt
namespace Mt
open PySem L2
end Mt
namespace L2
open PySem Mt
theorem RuT.data {K : PySem.W.Frag} {M : List Addr} {H : Hp} {t : Addr} (h : RuT H t) : ∃ (w : Str) (xs : List V) (ds : List PyData), H t = some (.tup (.str w :: xs)) ∧ DtAll K M H (.str w :: xs) (.str w :: ds) ∧ xs.length ≤ 1 ∧ (∀ d ∈ PyData.str w :: ds, Itm 140 0 d) ∧ (w = "written" ∨ w = "held" ∨ w = "applied") := by
  have ws : ∀ w : Str, (w = "written" ∨ w = "held" ∨ w = "applied") → Itm 140 0 (.str w) := by
    rintro w (rfl | rfl | rfl) <;> exact itm_str (by unfold cpsOk; decide +kernel) (by decide +kernel)
  rcases h with h | ⟨w, k, h, hw, k1, k2⟩
  · refine ⟨"written", [], [], h, .cons (.str _) .nil, by simp, fun d hd => ?_, .inl rfl⟩
    simp only [List.mem_cons, List.not_mem_nil, or_false] at hd
    subst hd; exact ws _ (.inl rfl)
  · refine ⟨w, [.int k], [.int k], h, .cons (.str _) (.cons (.int _) .nil), by simp, fun d hd => ?_, .inr hw⟩
    simp only [List.mem_cons, List.not_mem_nil, or_false] at hd
    rcases hd with rfl | rfl
    · exact ws _ (.inr hw)
    · exact itm_int (by omega)
end L2

namespace L2
open PySem PySem.Spec PyProof.Rows PySem.W
noncomputable def tStarL (K : Frag) (te : TE) (t : TA) : TA := fun σ H Q => te σ H fun v H1 => ∃ a xs, v = .ref a ∧ SqL K H1 a xs ∧ t σ H1 fun vs H2 => Q (xs ++ vs) H2
section
variable {X : Cx} {e : Expr} {es : List Expr} {te : TE} {t : TA} {p : Pos}
end
noncomputable def RvAt (h : Heap) (a t : Addr) (i : Int) : Prop := ∃ o, h.get? a = some o ∧ o.cls = .type "reversed" ∧ o.data = .fields #[.ref t, rawInt i]
section
variable {prog : Program} {w : World} {A : Around} {E : Value → Shared → Prop} {s : Shared}
theorem RvAt.typeIs {a t : Addr} {i : Int} (x : RvAt s.heap a t i) : s.TypeIs (.ref a) "reversed" := let ⟨o, ho, hc, _⟩ := x; ⟨o, ho, hc⟩
end
section
variable {prog : Program} {w : World} {A : Around} {E : Value → Shared → Prop} {s : Shared}
end
section
variable {prog : Program} {w : World} {A : Around} {E : Value → Shared → Prop} {s : Shared}
end
noncomputable def tTupRev (K : Frag) (ta : TA) : TE := fun σ H Q => ta σ H fun vs H1 => ∃ t xs, vs = [.ref t] ∧ SqT K H1 t xs ∧ xs.length ≤ 1000 ∧ ∀ l H', H1 l = none → Same H1 H' → SqT K H' l xs.reverse → Q (.ref l) H'
section
variable {X : Cx} {a : Expr} {ta : TA} {p p2 pos pos2 : Pos}
end
section
variable {K : Frag} {σ : St} {H : Hp} {Q : VK} {p : Addr}
theorem rd_tupRev {ta : TA} (h : ta σ H fun vs H1 => ∃ t xs, vs = [.ref t] ∧ SqT K H1 t xs ∧ xs.length ≤ 1000 ∧ ∀ l H', H1 l = none → Same H1 H' → SqT K H' l xs.reverse → Q (.ref l) H') : tTupRev K ta σ H Q := h
end
end L2

namespace L2
open PySem PySem.Spec PyProof.Rows
noncomputable def iZipM (K : PySem.W.Frag) (ta : TA) : TI := fun σ H R => ta σ H fun vs H1 => ∃ a b, vs = [.ref a, .ref b] ∧ (((∃ xs, SqT K H1 a xs) ∧ (∃ ys, SqT K H1 b ys) ∧ R (Itz K a b) H1) ∨ ((∃ xs, SqL K H1 a xs) ∧ (∃ ys, SqL K H1 b ys) ∧ R (ItzL K a b) H1))
theorem rd_izipM {K : PySem.W.Frag} {ta : TA} {σ : St} {H : Hp} {R : It → Hp → Prop} (h : ta σ H fun vs H1 => ∃ a b, vs = [.ref a, .ref b] ∧ (((∃ xs, SqT K H1 a xs) ∧ (∃ ys, SqT K H1 b ys) ∧ R (Itz K a b) H1) ∨ ((∃ xs, SqL K H1 a xs) ∧ (∃ ys, SqL K H1 b ys) ∧ R (ItzL K a b) H1))) : iZipM K ta σ H R := h
end L2

namespace L2
open PySem PySem.Spec PyProof.Rows PySem.W
section
variable {σ : St} {H : Hp}
theorem rd_starL {K : Frag} {te : TE} {t : TA} {R : List V → Hp → Prop} (h : te σ H fun v H1 => ∃ a xs, v = .ref a ∧ SqL K H1 a xs ∧ t σ H1 fun vs H2 => R (xs ++ vs) H2) : tStarL K te t σ H R := h
end
theorem DtAll.rev {K : Frag} {N : List Addr} {H : Hp} : ∀ {vs : List V} {ds : List PyData}, DtAll K N H vs ds → DtAll K N H vs.reverse ds.reverse
  | _, _, .nil => .nil
  | _, _, .cons h r => by rw [List.reverse_cons, List.reverse_cons]; exact (DtAll.rev r).append (.cons h .nil)
noncomputable def brokL (room en : Int) (ps : List (Int × Int)) : List Int := (ps.filter fun p => decide (p.2 + room < en)).map (·.1)
noncomputable def leftL (room en : Int) (ps : List (Int × Int)) : List Int := (ps.filter fun p => decide (p.2 + room ≥ en)).map (·.2)
structure IsCut (room en app : Int) (ps : List (Int × Int)) (m : Int) (ns : List Int) : Prop where
  mem : m ∈ leftL room en ps ++ [app]
  le : ∀ a ∈ leftL room en ps ++ [app], m ≤ a
  perm : ns.Perm (brokL room en ps)
  srt : ns.Pairwise (· ≤ ·)
theorem fm_congr {α β : Type} {f g : α → Option β} : ∀ {l : List α}, (∀ k ∈ l, f k = g k) → l.filterMap f = l.filterMap g
  | [], _ => rfl
  | x :: l, h => by rw [List.filterMap_cons, List.filterMap_cons, h x (.head _), fm_congr fun k hk => h k (.tail _ hk)]
theorem vals_rev {xs : List V} {us : List Value} (r : Vals xs us) : Vals xs.reverse us.reverse := by
  induction r with
  | nil => exact .nil
  | cons r1 _ ih => rw [List.reverse_cons, List.reverse_cons]; exact ih.append (.cons r1 .nil)
noncomputable def tSlRev (K : Frag) (te ts : TE) : TE := fun σ H Q => te σ H fun x H1 => ∃ a xs, x = .ref a ∧ ts σ H1 fun y H2 => y = .int (-1) ∧ SqL K H2 a xs ∧ ∀ p, H2 p = none → Q (.ref p) (upd H2 p (.lst xs.reverse))
theorem rd_slRev {K : Frag} {te ts : TE} {σ : St} {H : Hp} {Q : VK} (h : te σ H fun x H1 => ∃ a xs, x = .ref a ∧ ts σ H1 fun y H2 => y = .int (-1) ∧ SqL K H2 a xs ∧ ∀ p, H2 p = none → Q (.ref p) (upd H2 p (.lst xs.reverse))) : tSlRev K te ts σ H Q := h
noncomputable def tPar3 (i j l : Nat) (ta : TA) : TS := fun D σ H => ta σ H fun vs H1 => ∃ v w u, vs = [v, w, u] ∧ D.nx (((σ.set i (some v)).set j (some w)).set l (some u)) H1
theorem rd_par3 {i j l : Nat} {ta : TA} {D : Ends} {σ : St} {H : Hp} (h : ta σ H fun vs H1 => ∃ v w u, vs = [v, w, u] ∧ D.nx (((σ.set i (some v)).set j (some w)).set l (some u)) H1) : tPar3 i j l ta D σ H := h
section
variable {σ : St} {H : Hp} {Q : VK} {td ty tv : TE} {D : Ends}
theorem rd_din (h : ty σ H fun y H1 => td σ H1 fun x H2 => ∃ a o, x = .ref a ∧ DGet H2 a y o ∧ Q (.bl o.isSome) H2) : tDIn ty td σ H Q := h
theorem rd_dnotin (h : ty σ H fun y H1 => td σ H1 fun x H2 => ∃ a o, x = .ref a ∧ DGet H2 a y o ∧ Q (.bl (!o.isSome)) H2) : tDNotIn ty td σ H Q := h
theorem rd_dget (h : td σ H fun x H1 => ty σ H1 fun y H2 => ∃ a v, x = .ref a ∧ DGet H2 a y (some v) ∧ Q v H2) : tDGet td ty σ H Q := h
theorem rd_dput (h : tv σ H fun v H1 => td σ H1 fun x H2 => ty σ H2 fun y H3 => ∃ a H4, x = .ref a ∧ DPut H3 a y v H4 ∧ D.nx σ H4) : sDPut td ty tv D σ H := h
end
noncomputable def FK (fs : List (Int × Int)) : List (Key × V) := fs.map fun p => (.inl p.1, .int p.2)
noncomputable def lookI : List (Int × Int) → Int → Option Int
  | [], _ => none
  | p :: r, k => if p.1 = k then some p.2 else lookI r k
end L2
namespace Mt
open PySem L2
noncomputable def lineD (m : Int) : PyData → Option (Int × Int × Int)
  | .tuple [.int l, .int h, .int p, .int f, .bool _] => if (0 ≤ l ∧ l ≤ 1000000000) ∧ l % m = h ∧ (0 ≤ p ∧ p ≤ 1000000000) ∧ (0 ≤ f ∧ f ≤ 1000000) then some (l, p, f) else none
  | _ => none
noncomputable def stepF (m : Int) (fs : List (Int × Int)) (d : PyData) : Option (List (Int × Int)) :=
  match lineD m d with
  | none => none
  | some (l, p, f) => match lookI fs l, lookI fs p with
    | none, some g => if p < l ∧ g ≤ f then some (fs ++ [(l, f)]) else none
    | _, _ => none
noncomputable def runF (m : Int) : List (Int × Int) → List PyData → Option (List (Int × Int))
  | fs, [] => some fs
  | fs, d :: ds => (stepF m fs d).bind fun gs => runF m gs ds
section
variable {m : Int} {d0 d1 d2 d3 d4 : PyData}
end
end Mt
namespace L2
open PySem PySem.Spec PyProof.Rows
noncomputable def rIsnA : R2 := fun x y H Q => ∃ b, y = .bl b ∧ Q (.bl (!decide (x = .bl b))) H
noncomputable def rIsA : R2 := fun x y H Q => ∃ b, y = .bl b ∧ Q (.bl (decide (x = .bl b))) H
theorem rd_isnA {x : V} {b : Bool} {H : Hp} {Q : VK} (h : Q (.bl (!decide (x = .bl b))) H) : rIsnA x (.bl b) H Q := ⟨b, rfl, h⟩
theorem rd_isA {x : V} {b : Bool} {H : Hp} {Q : VK} (h : Q (.bl (decide (x = .bl b))) H) : rIsA x (.bl b) H Q := ⟨b, rfl, h⟩
end L2
namespace PySem
noncomputable def PyData.width : PyData → Nat
  | .list ds => ds.length
  | _ => 0
end PySem
namespace Mt
open PySem L2
structure Ln where
  l : Int
  h : Int
  p : Option Int
  f : Int
  b : Bool
noncomputable def optD : Option Int → PyData
  | none => .none
  | some i => .int i
noncomputable def lnD (x : Ln) : PyData := .tuple [.int x.l, .int x.h, optD x.p, .int x.f, .bool x.b]
noncomputable def ln0 : Ln := ⟨0, 0, none, 0, false⟩
structure LnOk (m : Int) (n : Nat) (lns : List Ln) : Prop where
  ex : ∃ rest fs, lns = ln0 :: rest ∧ runF m [(0, 0)] (rest.map lnD) = some fs ∧ (∀ x ∈ lns, lookI fs x.l = some x.f) ∧ ∀ k, (∀ x ∈ lns, x.l ≠ k) → lookI fs k = none
  bd : ∀ x ∈ lns, 0 ≤ x.l ∧ x.l ≤ 10 * n ∧ 0 ≤ x.h ∧ x.h ≤ 7 ∧ 0 ≤ x.f ∧ x.f ≤ 1000000 ∧ ∀ q, x.p = some q → 0 ≤ q ∧ q ≤ 10 * n
  len : lns.length ≤ n + 1
  ge : 1 ≤ lns.length
theorem LnOk.mono {m : Int} {n n' : Nat} {lns : List Ln} (o : LnOk m n lns) (h : n ≤ n') : LnOk m n' lns := ⟨o.ex, fun x hx => by
  obtain ⟨c1, c2, c3, c4, c5, c6, c7⟩ := o.bd x hx
  exact ⟨c1, by omega, c3, c4, c5, c6, fun q hq => by have := c7 q hq; omega⟩, Nat.le_trans o.len (by omega), o.ge⟩
end Mt
namespace L2
open PySem Mt
noncomputable def OkW (K : PySem.W.Frag) (M : List Addr) (H : Hp) (v : V) : Prop := ∃ d, Dt K M H v d ∧ ((∃ w k, Itm w k d ∧ w ≤ 200000 ∧ k ≤ 30) ∨ d = .dict []) ∧ d.width < 500
theorem OkW.ext {K : PySem.W.Frag} {M : List Addr} {H H' : Hp} {v : V} (h : OkW K M H v) (e : Ext M H H') : OkW K M H' v := by
  obtain ⟨d, h1, h2⟩ := h
  exact ⟨d, h1.ext e, h2⟩
theorem OkW.none {K : PySem.W.Frag} {M : List Addr} {H : Hp} : OkW K M H .non := ⟨.none, .non, .inl ⟨_, _, itm_none, by decide, by decide⟩, by decide⟩
structure BC (K : PySem.W.Frag) (M : List Addr) (H : Hp) (l : Addr) (vs : List V) (D : List PyData) : Prop where
  g : H l = some (.lst vs)
  n : l ∉ M
  d : DtAll K M H vs D
theorem BC.ext {K : PySem.W.Frag} {M : List Addr} {H H' : Hp} {l : Addr} {vs : List V} {D : List PyData} (b : BC K M H l vs D) (e : Ext M H H') : BC K M H' l vs D := ⟨e _ _ b.g b.n, b.n, b.d.ext e⟩
structure BX (K : PySem.W.Frag) (st c r : Addr) (m : Nat) (l : Addr) (vs : List V) (D : List PyData) (t t2 : Addr) (xs ys : List V) (ds es : List PyData) (L : List V) (H : Hp) : Prop where
  S : Dk H st c r m
  B : BC K [st, c, r] H l vs D
  ok : ∀ u ∈ L, OkW K [st, c, r] H u
  T : SqT K H t xs
  nT : t ∉ [st, c, r]
  dT : DtAll K [st, c, r] H xs ds
  T2 : SqT K H t2 ys
  nT2 : t2 ∉ [st, c, r]
  dT2 : DtAll K [st, c, r] H ys es
section
variable {K : PySem.W.Frag} {st c r : Addr} {m m' : Nat} {l : Addr} {vs : List V} {D : List PyData} {t t2 : Addr} {xs ys : List V} {ds es : List PyData} {L : List V} {H H' : Hp} {v : V}
theorem BX.take (b : BX K st c r m l vs D t t2 xs ys ds es L H) (x : Ext [st, r] H H') (S' : Dk H' st c r m') : BX K st c r m' l vs D t t2 xs ys ds es L H' :=
  ⟨S', b.B.ext x.up3, fun u hu => (b.ok u hu).ext x.up3, x.tup b.T (nin_pr b.nT), b.nT, b.dT.ext x.up3, x.tup b.T2 (nin_pr b.nT2), b.nT2, b.dT2.ext x.up3⟩
end
end L2
namespace Mt
open PySem L2
end Mt

namespace L2
open PySem PySem.Spec PyProof.Rows PySem.W
section
variable {X : Cx} {e f o i value : Expr} {es : List Expr} {ta td ty tx tv : TE} {t : TA} {pos pos' p apos cpos tpos : Pos} {CX : CXT} {k : Nat} {fa C : Addr} {fd : FuncData} {ps : List Str} {sp : Sp} {dvs : List V} {ds : List Value} {E : XK} {x m n : Str}
end
section
variable {σ : St} {H : Hp} {Q : VK} {ta td ty tx tv : TE} {t : TA} {D : Ends} {K : Frag} {C p dx : Addr} {fs : List (Str × V)} {n m : Str} {v : V} {sp : Sp} {dvs : List V} {E : XK}
theorem rd_fld (h : ta σ H fun x H1 => ∃ a C dx fs v, x = .ref a ∧ H1 a = some (.ins C dx fs) ∧ Cls K C ∧ NoAttr K C n ∧ fs.lookup n = some v ∧ Q v H1) : tFld K ta n σ H Q := h
theorem rd_sfld (h : tv σ H fun y H1 => ta σ H1 fun x H2 => ∃ a C dx fs, x = .ref a ∧ H2 a = some (.ins C dx fs) ∧ Cls K C ∧ NoAttr K C n ∧ fs.length < 1000 ∧ D.nx σ (upd H2 a (.ins C dx (putF n y fs)))) : sFld K ta tv n D σ H := h
theorem rd_meth (h : ta σ H fun x H1 => ∃ a dx fs, x = .ref a ∧ H1 a = some (.ins C dx fs) ∧ fs.lookup m = none ∧ t σ H1 fun vs H2 => sp (x :: (vs ++ dvs)) H2 Q E) : tMeth C m sp dvs E ta t σ H Q := h
theorem rd_make (h : t σ H fun vs H1 => ∀ x dx, H1 x = none → H1 dx = none → dx ≠ x → sp (.ref x :: (vs ++ dvs)) (upd (upd H1 dx (.own x)) x (.ins C dx [])) (fun v H2 => v = .non ∧ Q (.ref x) H2) E) : tMake C sp dvs E t σ H Q := h
theorem rd_ddel (h : td σ H fun x H1 => ty σ H1 fun y H2 => ∃ a kvs k, x = .ref a ∧ H2 a = some (.dK kvs) ∧ y = kV k ∧ (valV kvs k).isSome = true ∧ D.nx σ (upd H2 a (.dK (dropK kvs k)))) : sDDel td ty D σ H := h
theorem rd_dget1 (h : td σ H fun x H1 => ∃ a, x = .ref a ∧ IsD H1 a ∧ ty σ H1 fun y H2 => ∃ o, DGet H2 a y o ∧ Q (o.getD .non) H2) : tDGet1 td ty σ H Q := h
theorem rd_dget2 (h : td σ H fun x H1 => ∃ a, x = .ref a ∧ IsD H1 a ∧ ty σ H1 fun y H2 => tx σ H2 fun z H3 => ∃ o, DGet H3 a y o ∧ Q (o.getD z) H3) : tDGet2 td ty tx σ H Q := h
end
section
variable {X : Cx}
end
noncomputable def Itd (a : Addr) (o : Obj) (kvs : List (Key × V)) : It :=
  ⟨fun i H => H a = some (.frz o (.dK kvs)) ∧ i < kvs.length, fun i H x H' => H' = H ∧ ∃ kv, kvs[i]? = some kv ∧ x = kV kv.1, fun i H => H a = some (.frz o (.dK kvs)) ∧ kvs.length ≤ i⟩
noncomputable def iDict (tl : TE) : TI := fun σ H R => tl σ H fun x H1 => ∃ a kvs, x = .ref a ∧ ((H1 a = some (.dK kvs) ∧ ∀ o, R (Itd a o kvs) (upd H1 a (.frz o (.dK kvs)))) ∨ ∃ o, H1 a = some (.frz o (.dK kvs)) ∧ R (Itd a o kvs) H1)
theorem rd_idict {tl : TE} {σ : St} {H : Hp} {R : It → Hp → Prop} (h : tl σ H fun x H1 => ∃ a kvs, x = .ref a ∧ ((H1 a = some (.dK kvs) ∧ ∀ o, R (Itd a o kvs) (upd H1 a (.frz o (.dK kvs)))) ∨ ∃ o, H1 a = some (.frz o (.dK kvs)) ∧ R (Itd a o kvs) H1)) : iDict tl σ H R := h
theorem dl_keys : typeLookup (.type "tuple") "keys" = pure none := by rw [typeLookup_type, builtinLookup_eq_fast]; kernel_rfl
set_option maxRecDepth 8000 in
theorem attrQ_tuple {prog : Program} {w : World} {A : Around} {E : Value → Shared → Prop} {s : Shared} {a : Addr} {o : Obj} {xs : Array Value} {k : Nat} {Q : Option Value → Shared → Prop}
    (hx : s.heap.get? a = some o) (hc : o.cls = .type "tuple") (hdat : o.data = .seq xs k) (hd : o.dict = none) (hA : A.handled = none)
    (h : ∀ h' tk, (∀ b u, s.heap.get? b = some u → h'.get? b = some u) → Q none { s with heap := h', toks := tk }) : wpAny (model prog w) A (getAttr? (.ref a) "keys") Q E s := by
  obtain ⟨c, dct, dat, sl⟩ := o
  simp only at hc hdat hd
  subst hc hdat hd
  obtain ⟨hp, g, d, tk, os⟩ := s
  have hT : ∀ tk', (⟨hp, g, d, tk', os⟩ : Shared).TypeIs (.ref a) "tuple" := fun _ => ⟨_, hx, rfl⟩
  have f1 := sub_AttributeError
  have f3 := F.slot_tuple_getattribute.lookup
  have f4 := F.slot_tuple_getattribute.bind (.ref a)
  have f5 := am_tuple_getattr_none
  unfold getAttr? getAttrBy? getAttrBy
  repeat (any_goals (first | assumption | exact hT _ | ((with_reducible show wpAny _ _ (call (Value.builtin "tuple.__getattribute__") _ _) _ _ _); refine call_meets F.slot_tuple_getattribute (hT _) am_entry_tuple_getattribute (F.args_tuple_getattribute_2 _ _) (meets_getattribute_miss_tuple a xs k sl "keys" _ dl_keys (by decide +kernel)) ⟨hx, hA, fun h' tk' e hx' => ?_⟩) | wp_step))
  obtain ⟨t', u', he⟩ := hx'.there
  show wpAny _ _ (getattributeRaised _ _ _ _ _ _ _) _ _ _
  unfold getattributeRaised
  repeat (any_goals (first | assumption | wp_step))
  exact h _ _ hx'.keeps
theorem binds_peek1 {K : Frag} {fd : FuncData} {p1 p2 : Str} {v : Value} (h : ∀ (u : Value) S, peek K S (bindArgs fd ⟨[u], []⟩) = some [(p1, u), (p2, v)]) : Binds K fd [p1, p2] [v] := fun s us X hl => by
  match us, hl with
  | [u], _ => exact kp_binds X (h u)
  | [], hl => simp at hl
  | _ :: _ :: _, hl => simp at hl
noncomputable def slF (room : Int) (d : Addr) : List (Str × V) := putF "places" (.ref d) (putF "room" (.int room) [])
structure SlAt (C : Addr) (H : Hp) (p d : Addr) (room : Int) (qs : List (Int × Int)) : Prop where
  ob : ∃ dx, H p = some (.ins C dx (slF room d))
  dc : H d = some (.dK (FK qs))
  nd : (qs.map (·.1)).Nodup
structure IsHeld (qs ps : List (Int × Int)) : Prop where
  perm : ps.Perm qs
  srt : (ps.map (·.1)).Pairwise (· ≤ ·)
noncomputable def keptL (room en : Int) (qs : List (Int × Int)) : List (Int × Int) := qs.filter fun x => decide (x.2 + room ≥ en)
theorem left_kept (room en : Int) (qs : List (Int × Int)) : leftL room en qs = (keptL room en qs).map (·.2) := rfl
theorem kept_kept (room en : Int) (qs : List (Int × Int)) : keptL room en (keptL room en qs) = keptL room en qs := by
  unfold keptL; rw [List.filter_filter]; simp
theorem brok_kept (room en : Int) (qs : List (Int × Int)) : brokL room en (keptL room en qs) = [] := by
  unfold brokL keptL
  rw [List.filter_filter, List.map_eq_nil_iff, List.filter_eq_nil_iff]
  intro x _
  simp
theorem IsCut.again {room en app : Int} {qs : List (Int × Int)} {m m' : Int} {ns ns' : List Int} (h : IsCut room en app qs m ns) (h' : IsCut room en app (keptL room en qs) m' ns') : m' = m ∧ ns' = [] := by
  have e : leftL room en (keptL room en qs) = leftL room en qs := by rw [left_kept, left_kept, kept_kept]
  refine ⟨Int.le_antisymm (h'.le _ (by rw [e]; exact h.mem)) (h.le _ (by rw [← e]; exact h'.mem)), ?_⟩
  have := h'.perm
  rw [brok_kept] at this
  exact List.perm_nil.mp this
structure Jv (C : Addr) (H : Hp) (st c r sp d lh : Addr) (room en app : Int) (many : Nat) (qs : List (Int × Int)) (hs : List Int) (n i : Nat) : Prop where
  dk : Dk H st c r n
  sl : SlAt C H sp d room qs
  hl : H lh = some (.lst (hs.map V.int))
  len : hs.length = many
  a0 : 0 ≤ app
  a1 : app ≤ en
  e1 : en ≤ 400
  hb : ∀ h ∈ hs, 0 ≤ h ∧ h ≤ en
  kb : ∀ k v, lookI qs k = some v → 0 ≤ k ∧ hs[k.toNat]? = some v
  ql : qs.length ≤ i
section
variable {C : Addr} {H H' : Hp} {st c r sp d lh : Addr} {room en app : Int} {many : Nat} {qs : List (Int × Int)} {hs : List Int} {n n' i : Nat}
theorem Jv.more (J : Jv C H st c r sp d lh room en app many qs hs n i) {en' : Int} (h1 : en ≤ en') (h2 : en' ≤ 400) : Jv C H st c r sp d lh room en' app many qs hs n i :=
  { J with a1 := by have := J.a1; omega, e1 := h2, hb := fun h m => by have := J.hb h m; omega }
theorem Jv.mono (J : Jv C H st c r sp d lh room en app many qs hs n i) {i' : Nat} (h : n ≤ n') (hi : i ≤ i') : Jv C H st c r sp d lh room en app many qs hs n' i' :=
  { J with dk := J.dk.mono h, ql := by have := J.ql; omega }
end
inductive KOk {α : Type} (n : Nat) (P : α → Prop) : KasT α → Prop
  | ret {a : α} (h : P a) : KOk n P (.ret a)
  | ask {i j : Nat} {k : Bool → KasT α} (hi : i < n) (hj : j < n) (h : ∀ b, KOk n P (k b)) : KOk n P (.ask i j k)
theorem KOk.bind {α β : Type} {n : Nat} {P : α → Prop} {R : β → Prop} {f : α → KasT β} {t : KasT α} (h : KOk n P t) (hf : ∀ a, P a → KOk n R (f a)) : KOk n R (t.bind f) := by
  induction h with
  | ret h => exact hf _ h
  | ask hi hj _ ih => exact .ask hi hj ih
section
variable {n : Nat} (hn : 0 < n)
include hn
end
noncomputable def RawD (h : Heap) (d : Addr) (es : Array DictEntry) (ep : Nat) : Prop := ∃ o, h.get? d = some o ∧ o.ExactDict ∧ o.data = .dict es ep
theorem RawD.kp {h h' : Heap} {d : Addr} {es : Array DictEntry} {ep : Nat} (r : RawD h d es ep) (k : ∀ o, h.get? d = some o → h'.get? d = some o) : RawD h' d es ep := let ⟨o, g, c⟩ := r; ⟨o, k o g, c⟩
section
variable {prog : Program} {w : World} {A : Around} {E : Value → Shared → Prop} {s : Shared} {d it : Addr} {es : Array DictEntry} {ep i : Nat}
end
noncomputable def PairAt (h : Heap) (x : Addr) (a : Int × Int) : Prop := ∃ o n t u, h.get? x = some o ∧ o.cls = .type "tuple" ∧ o.data = .seq #[.int a.1 t, .int a.2 u] n
noncomputable def PairsAt (h : Heap) (vs : List Value) (ks : List (Int × Int)) : Prop := Paired (fun (v : Value) (k : Int × Int) => ∃ x, v = .ref x ∧ PairAt h x k) vs ks
section
variable {prog : Program} {w : World} {A : Around} {E : Value → Shared → Prop} {s : Shared}
theorem PairsAt.kp {h h' : Heap} {vs : List Value} {ks : List (Int × Int)} (p : PairsAt h vs ks) (k : ∀ x o, h.get? x = some o → o.cls = .type "tuple" → h'.get? x = some o) : PairsAt h' vs ks :=
  Paired.mapP p fun _ _ ⟨x, e, o, n, t, u, g, c, d⟩ => ⟨x, e, o, n, t, u, k x o g c, c, d⟩
end
section
variable {X : Cx} {CX : CXT} {k : Nat} {f C : Addr} {fd : FuncData} {ps : List Str} {sp : Sp} {E : XK}
end
section
variable {prog : Program} {w : World} {A : Around} {E : Value → Shared → Prop} {s : Shared} {K : Frag} {x C : Addr} {ox : Obj} {od : Option Obj} {f : Addr} {b tb : Value}
end
section
variable {X : Cx} {CX : CXT} {k : Nat} {f C : Addr} {fd : FuncData} {ps : List Str} {sp : Sp} {E : XK}
end
noncomputable abbrev Ent := (Int × Int) × Addr × (Int × Int)
noncomputable def kP (k : Int × Int) : List Key := [.inl k.1, .inl k.2]
noncomputable def bkD (fs : List Ent) : List (List Key × V) := fs.map fun q => (kP q.1, .ref q.2.1)
structure PB (H : Hp) (d : Addr) (fs : List Ent) : Prop where
  dc : H d = some (.dT (bkD fs))
  vl : ∀ q ∈ fs, H q.2.1 = some (.tup [.int q.2.2.1, .int q.2.2.2])
  nd : (fs.map (·.1)).Nodup
section
variable {X : Cx}
end
noncomputable def Itv (a : Addr) (xs : List V) (K : Frag) : It :=
  ⟨fun i H => SqT K H a xs ∧ i < xs.length, fun i H x H' => H' = H ∧ xs.reverse[i]? = some x, fun i H => SqT K H a xs ∧ i = xs.length⟩
noncomputable def iRev (K : Frag) (ta : TA) : TI := fun σ H R => ta σ H fun vs H1 => ∃ t xs, vs = [.ref t] ∧ SqT K H1 t xs ∧ xs.length ≤ 1000 ∧ R (Itv t xs K) H1
theorem rd_irev {K : Frag} {ta : TA} {σ : St} {H : Hp} {R : It → Hp → Prop} (h : ta σ H fun vs H1 => ∃ t xs, vs = [.ref t] ∧ SqT K H1 t xs ∧ xs.length ≤ 1000 ∧ R (Itv t xs K) H1) : iRev K ta σ H R := h
structure IsO (K : Frag) (C : Addr) : Prop where
  cl : Cls K C
  cc : findIn K (.ref C) "__class__" = some (some (.builtin "object.__class__"))
  cg : specialIn K (.builtin "object.__class__") "__get__" = some (some (.builtin "getset_descriptor.__get__"))
  ct : takesIn K (.builtin "object.__class__") = some true
  cm : mroIn K C (.type "object") = some true
section
variable {X : Cx}
noncomputable def tMethX (C : Addr) (m : Str) (sp : Sp) (dvs : List V) (XR : St → XK) (ta : TE) (t : TA) : TE := fun σ H Q => ta σ H fun x H1 => ∃ a dx fs, x = .ref a ∧ H1 a = some (.ins C dx fs) ∧ fs.lookup m = none ∧ t σ H1 fun vs H2 => sp (x :: (vs ++ dvs)) H2 Q (XR σ)
theorem rd_methX {C : Addr} {m : Str} {sp : Sp} {dvs : List V} {XR : St → XK} {ta : TE} {t : TA} {σ : St} {H : Hp} {Q : VK} (h : ta σ H fun x H1 => ∃ a dx fs, x = .ref a ∧ H1 a = some (.ins C dx fs) ∧ fs.lookup m = none ∧ t σ H1 fun vs H2 => sp (x :: (vs ++ dvs)) H2 Q (XR σ)) : tMethX C m sp dvs XR ta t σ H Q := h
end
noncomputable abbrev Sv4 := (Int × Int) × (Int × Int)
noncomputable def vw4 (fs : List Ent) : List Sv4 := fs.map fun q => (q.1, q.2.2)
noncomputable def bkF (d : Addr) : List (Str × V) := putF "sayings" (.ref d) []
structure BkAt (C : Addr) (H : Hp) (p d : Addr) (fs : List Ent) : Prop where
  ob : ∃ dx, H p = some (.ins C dx (bkF d))
  pb : PB H d fs
theorem ext_kind {H H' : Hp} {st c r : Addr} {m : Nat} {b : Addr} {o : HO} (D : Dk H st c r m) (x : Ext [st, r] H H') (hb : H b = some o) (ho : ∀ xs, o ≠ .lst xs) : H' b = some o := by
  obtain ⟨cs, rs, n, h1, h2, h3, _⟩ := D.ex
  refine x b o hb ?_
  simp only [List.mem_cons, List.not_mem_nil, or_false, not_or]
  exact ⟨ne_of hb h1 (ho _), ne_of hb h3 (ho _)⟩
noncomputable def okS (q : Sv4) : Prop := 0 ≤ q.1.1 ∧ q.1.1 ≤ 7 ∧ 0 ≤ q.1.2 ∧ q.1.2 ≤ 1000000000 ∧ 0 ≤ q.2.1 ∧ q.2.1 ≤ 1000000 ∧ 0 ≤ q.2.2 ∧ q.2.2 ≤ q.2.1
noncomputable def sayT (q : Sv4) : PyData := .tuple [.int q.1.1, .int q.1.2, .int q.2.1, .int q.2.2]
noncomputable def SayL (K : PySem.W.Frag) (H : Hp) (ws : List V) (qs : List Sv4) : Prop := Paired (fun w (q : Sv4) => ∃ b, w = V.ref b ∧ SqT K H b [.int q.1.1, .int q.1.2, .int q.2.1, .int q.2.2]) ws qs
theorem dt_tuple {K : PySem.W.Frag} {N : List Addr} {H : Hp} {x : V} {es : List PyData} (h : Dt K N H x (.tuple es)) : ∃ b ys, x = .ref b ∧ SqT K H b ys ∧ DtAll K N H ys es := by
  cases h with
  | tup q n r => exact ⟨_, _, rfl, q, r⟩
theorem dt_4 {K : PySem.W.Frag} {N : List Addr} {H : Hp} {ys : List V} {es : List PyData} (h : DtAll K N H ys es) (hl : ys.length = 4) : ∃ y1 y2 y3 y4 e1 e2 e3 e4, ys = [y1, y2, y3, y4] ∧ es = [e1, e2, e3, e4] ∧ Dt K N H y1 e1 ∧ Dt K N H y2 e2 ∧ Dt K N H y3 e3 ∧ Dt K N H y4 e4 := by
  cases h with
  | nil => cases hl
  | cons h1 r => cases r with
    | nil => cases hl
    | cons h2 r => cases r with
      | nil => cases hl
      | cons h3 r => cases r with
        | nil => cases hl
        | cons h4 r => cases r with
          | nil => exact ⟨_, _, _, _, _, _, _, _, rfl, rfl, h1, h2, h3, h4⟩
          | cons h5 r => simp at hl
theorem dt_int {K : PySem.W.Frag} {N : List Addr} {H : Hp} {x : V} {i : Int} (h : Dt K N H x (.int i)) : x = .int i := by cases h; rfl
theorem sqT_dict {K : PySem.W.Frag} {H H' : Hp} {d b : Addr} {ys : List V} {kvs : List (List Key × V)} (x : Ext [d] H H') (hd : H d = some (.dT kvs)) (h : SqT K H b ys) : SqT K H' b ys := by
  rcases h with (h | ⟨o, h⟩) | h
  · exact .inl (.inl (x _ _ h (by simpa using ne_of h hd (by intro z; cases z))))
  · exact .inl (.inr ⟨o, x _ _ h (by simpa using ne_of h hd (by intro z; cases z))⟩)
  · exact .inr h
theorem SayL.dict {K : PySem.W.Frag} {H H' : Hp} {ws : List V} {qs : List Sv4} {d : Addr} {kvs : List (List Key × V)} (h : SayL K H ws qs) (x : Ext [d] H H') (hd : H d = some (.dT kvs)) : SayL K H' ws qs := Paired.mapP h fun _ _ ⟨b, e, g⟩ => ⟨b, e, sqT_dict x hd g⟩
theorem SayL.dt {K : PySem.W.Frag} {H : Hp} : ∀ {ws : List V} {qs : List Sv4}, SayL K H ws qs → DtAll K [] H ws (qs.map sayT)
  | _, _, .nil => .nil
  | _, _, .cons ⟨b, e, g⟩ r => by subst e; exact .cons (.tup g (by simp) (.cons (.int _) (.cons (.int _) (.cons (.int _) (.cons (.int _) .nil))))) (SayL.dt r)
noncomputable def LastOk (H : Hp) (ls : List V) : Prop := ∀ v ∈ ls, ∃ (t : Addr) (q : Sv4), v = .ref t ∧ H t = some (.tup [.int q.1.1, .int q.1.2, .int q.2.1, .int q.2.2]) ∧ okS q
theorem LastOk.map {H H' : Hp} {ls : List V} (h : LastOk H ls) (f : ∀ t xs, H t = some (.tup xs) → H' t = some (.tup xs)) : LastOk H' ls := fun v hv => by
  obtain ⟨t, q, e, g, ok⟩ := h v hv
  exact ⟨t, q, e, f _ _ g, ok⟩
noncomputable def NL (H H' : Hp) : Prop := ∀ b o, H b = some o → (∀ xs, o ≠ .lst xs) → H' b = some o
theorem nl_dk {H H' : Hp} {st c r : Addr} {m : Nat} (D : Dk H st c r m) (x : Ext [st, r] H H') : NL H H' := fun _ _ hb ho => ext_kind D x hb ho
theorem PB.nl {H H' : Hp} {d : Addr} {fs : List Ent} (P : PB H d fs) (x : NL H H') : PB H' d fs := ⟨x _ _ P.dc (fun _ z => by cases z), fun q hq => x _ _ (P.vl q hq) (fun _ z => by cases z), P.nd⟩
theorem BkAt.nl {C : Addr} {H H' : Hp} {p d : Addr} {fs : List Ent} (B : BkAt C H p d fs) (x : NL H H') : BkAt C H' p d fs := ⟨B.ob.imp fun _ e => x _ _ e (fun _ z => by cases z), B.pb.nl x⟩
theorem LastOk.nl {H H' : Hp} {ls : List V} (h : LastOk H ls) (x : NL H H') : LastOk H' ls := h.map fun _ _ g => x _ _ g (fun _ z => by cases z)
theorem PB.dict {H H' : Hp} {d e : Addr} {fs : List Ent} {kvs : List (List Key × V)} (P : PB H d fs) (x : Ext [e] H H') (he : H e = some (.dT kvs)) (n : d ≠ e) : PB H' d fs :=
  ⟨x _ _ P.dc (by simpa using n), fun q hq => x _ _ (P.vl q hq) (by simpa using ne_of (P.vl q hq) he (by intro z; cases z)), P.nd⟩
theorem BkAt.dict {C : Addr} {H H' : Hp} {p d e : Addr} {fs : List Ent} {kvs : List (List Key × V)} (B : BkAt C H p d fs) (x : Ext [e] H H') (he : H e = some (.dT kvs)) (n : d ≠ e) : BkAt C H' p d fs :=
  ⟨B.ob.imp fun _ g => x _ _ g (by simpa using ne_of g he (by intro z; cases z)), B.pb.dict x he n⟩
theorem LastOk.dict {H H' : Hp} {ls : List V} {e : Addr} {kvs : List (List Key × V)} (h : LastOk H ls) (x : Ext [e] H H') (he : H e = some (.dT kvs)) : LastOk H' ls := h.map fun _ _ g => x _ _ g (by simpa using ne_of g he (by intro z; cases z))
theorem lst_dict {H H' : Hp} {l e : Addr} {ls : List V} {kvs : List (List Key × V)} (h : H l = some (.lst ls)) (x : Ext [e] H H') (he : H e = some (.dT kvs)) : H' l = some (.lst ls) := x _ _ h (by simpa using ne_of h he (by intro z; cases z))
theorem Dk.dict {H H' : Hp} {st c r e : Addr} {m : Nat} {kvs : List (List Key × V)} (D : Dk H st c r m) (x : Ext [e] H H') (he : H e = some (.dT kvs)) : Dk H' st c r m := by
  obtain ⟨cs, rs, n, w1, w2, w3, w⟩ := D.ex
  exact ⟨cs, rs, n, lst_dict w1 x he, lst_dict w2 x he, lst_dict w3 x he, w⟩
structure Two (C : Addr) (H : Hp) (st c r : Addr) (m i : Nat) (p0 d0 e0 : Addr) (fs0 gs0 : List Ent) (p1 d1 e1 : Addr) (fs1 gs1 : List Ent) (la : Addr) (ls : List V) : Prop where
  dk : Dk H st c r m
  b0 : BkAt C H p0 d0 fs0
  b1 : BkAt C H p1 d1 fs1
  m0 : PB H e0 gs0
  m1 : PB H e1 gs1
  v0 : vw4 fs0 = vw4 gs0
  v1 : vw4 fs1 = vw4 gs1
  o0 : ∀ x ∈ vw4 fs0, okS x
  o1 : ∀ x ∈ vw4 fs1, okS x
  l0 : fs0.length ≤ i
  l1 : fs1.length ≤ i
  hl : H la = some (.lst ls)
  ll : ls.length ≤ i
  ok : LastOk H ls
section
variable {C : Addr} {H H' : Hp} {st c r : Addr} {m i : Nat} {p0 d0 e0 p1 d1 e1 la : Addr} {fs0 gs0 fs1 gs1 : List Ent} {ls : List V}
theorem Two.take {m' : Nat} (J : Two C H st c r m i p0 d0 e0 fs0 gs0 p1 d1 e1 fs1 gs1 la ls) (S : Dk H' st c r m') (x : Ext [st, r] H H') (n : la ∉ [st, c, r]) : Two C H' st c r m' i p0 d0 e0 fs0 gs0 p1 d1 e1 fs1 gs1 la ls :=
  have nl := nl_dk J.dk x
  ⟨S, J.b0.nl nl, J.b1.nl nl, J.m0.nl nl, J.m1.nl nl, J.v0, J.v1, J.o0, J.o1, J.l0, J.l1, x _ _ J.hl (nin_pr n), J.ll, J.ok.nl nl⟩
theorem Two.mono {m' i' : Nat} (J : Two C H st c r m i p0 d0 e0 fs0 gs0 p1 d1 e1 fs1 gs1 la ls) (h1 : m ≤ m') (h2 : i ≤ i') : Two C H st c r m' i' p0 d0 e0 fs0 gs0 p1 d1 e1 fs1 gs1 la ls :=
  ⟨J.dk.mono h1, J.b0, J.b1, J.m0, J.m1, J.v0, J.v1, J.o0, J.o1, Nat.le_trans J.l0 h2, Nat.le_trans J.l1 h2, J.hl, Nat.le_trans J.ll h2, J.ok⟩
end
theorem Two.dict {C : Addr} {H H' : Hp} {st c r : Addr} {m i : Nat} {p0 d0 e0 p1 d1 e1 la e : Addr} {fs0 gs0 fs1 gs1 : List Ent} {ls : List V} {kvs : List (List Key × V)} (J : Two C H st c r m i p0 d0 e0 fs0 gs0 p1 d1 e1 fs1 gs1 la ls) (x : Ext [e] H H') (he : H e = some (.dT kvs)) (n0 : d0 ≠ e) (n1 : e0 ≠ e) (n2 : d1 ≠ e) (n3 : e1 ≠ e) : Two C H' st c r m i p0 d0 e0 fs0 gs0 p1 d1 e1 fs1 gs1 la ls :=
  ⟨J.dk.dict x he, J.b0.dict x he n0, J.b1.dict x he n2, J.m0.dict x he n1, J.m1.dict x he n3, J.v0, J.v1, J.o0, J.o1, J.l0, J.l1, lst_dict J.hl x he, J.ll, J.ok.dict x he⟩
end L2
namespace Mt
open PySem L2
noncomputable def sayC (d1 d2 d3 d4 : PyData) : Bool := withinD 0 7 d1 && withinD 0 1000000000 d2 && withinD 0 1000000 d3 && (match d3 with | .int e => withinD 0 e d4 | _ => false)
noncomputable def sayD : PyData → Bool
  | .tuple [d1, d2, d3, d4] => sayC d1 d2 d3 d4
  | _ => false
theorem within_int2 {lo hi : Int} {d : PyData} (h : withinD lo hi d = true) : ∃ i, d = .int i ∧ lo ≤ i ∧ i ≤ hi := by
  cases d with
  | int i => simp [withinD] at h; exact ⟨i, rfl, h.1, h.2⟩
  | _ => simp [withinD] at h
theorem sayD_len {es : List PyData} (h : es.length ≠ 4) : sayD (.tuple es) = false := by
  unfold sayD
  split
  · rename_i e; cases e; simp at h
  · rfl
theorem sayD_tup {d : PyData} (h : isTupD d = false) : sayD d = false := by
  cases d with
  | tuple es => cases h
  | _ => rfl
theorem tup_of {d : PyData} (h : isTupD d = true) : ∃ es, d = .tuple es := by
  cases d with
  | tuple es => exact ⟨es, rfl⟩
  | _ => cases h
end Mt

namespace L2
open PySem PySem.Spec PyProof.Rows PySem.W
noncomputable def sgn (c : Nat) : Str := ⟨#[c]⟩
noncomputable def Its (z : Str) : It := ⟨fun i _ => i < z.cps.size, fun i H v H' => H' = H ∧ ∃ c, z.cps[i]? = some c ∧ v = .str (sgn c), fun i _ => i = z.cps.size⟩
theorem turn_strA {P : Program} {w : World} {K : PySem.W.Frag} {tg : Expr} (z : Str) (t : Tok) (it : Addr) : Turn P w K tg (Its z) [it] it (fun i h => h.IsStrIter it "str_ascii_iterator" z t i) where
  mem := by simp
  obj := fun i h st b hb => by
    have e : b = it := by simpa using hb
    subst e
    obtain ⟨o, e, c, d⟩ := st
    exact ⟨o, e, fun v q => by rw [d] at q; cases q⟩
  keep := fun i h h' ⟨o, e, r⟩ k => ⟨o, k it (by simp) o e, r⟩
  item := by
    intro X hP hw hK hc i pins s σ H E I hf st hi
    subst hP hw hK
    have hi : i < z.cps.size := hi
    obtain ⟨f0, f1, f2, f3, f4, f5⟩ := hf it (by simp)
    refine wpAny_pyNext_ascii_item st (c := z.cps[i]) (by simp [hi]) fun h' st' sb => ?_
    have I1 : Inv X pins σ H { s with heap := h', toks := s.toks + 1 } := I.turned (t' := s.toks + 1) (fun b o hb e => (sb.2 b hb).trans e) f0 f1 f3 f4 f5
    obtain ⟨o, e, c, d⟩ := id st'
    exact ⟨_, rfl, go_of (s := { s with heap := h', toks := s.toks + 1 }) e c d (by decide) ⟨.str (sgn z.cps[i]), H, I1, ⟨_, rfl⟩, ⟨rfl, _, by simp [hi], rfl⟩, st', fun b hb => (hf b hb).1⟩⟩
  done := by
    intro X hP hw hK hc i pins s σ H E I hf st hi
    subst hP hw hK
    have hi : i = z.cps.size := hi
    obtain ⟨f0, f1, f2, f3, f4, f5⟩ := hf it (by simp)
    exact wpAny_pyNext_ascii_end (I.ok.hd hc) st (by simp [hi]) fun h' eb => ⟨rfl, I.turned (t' := s.toks) (fun b o hb e => eb b o hb e) f0 f1 f3 f4 f5⟩
  self := fun _ _ _ _ _ st h => wpAny_pyIter_striter_ascii st h
theorem turn_strW {P : Program} {w : World} {K : PySem.W.Frag} {tg : Expr} (z : Str) (t : Tok) (it : Addr) : Turn P w K tg (Its z) [it] it (fun i h => h.IsStrIter it "str_iterator" z t i) where
  mem := by simp
  obj := fun i h st b hb => by
    have e : b = it := by simpa using hb
    subst e
    obtain ⟨o, e, c, d⟩ := st
    exact ⟨o, e, fun v q => by rw [d] at q; cases q⟩
  keep := fun i h h' ⟨o, e, r⟩ k => ⟨o, k it (by simp) o e, r⟩
  item := by
    intro X hP hw hK hc i pins s σ H E I hf st hi
    subst hP hw hK
    have hi : i < z.cps.size := hi
    obtain ⟨f0, f1, f2, f3, f4, f5⟩ := hf it (by simp)
    refine wpAny_pyNext_wide_item st (c := z.cps[i]) (by simp [hi]) fun h' st' sb => ?_
    have I1 : Inv X pins σ H { s with heap := h', toks := s.toks + 1 } := I.turned (t' := s.toks + 1) (fun b o hb e => (sb.2 b hb).trans e) f0 f1 f3 f4 f5
    obtain ⟨o, e, c, d⟩ := id st'
    exact ⟨_, rfl, go_of (s := { s with heap := h', toks := s.toks + 1 }) e c d (by decide) ⟨.str (sgn z.cps[i]), H, I1, ⟨_, rfl⟩, ⟨rfl, _, by simp [hi], rfl⟩, st', fun b hb => (hf b hb).1⟩⟩
  done := by
    intro X hP hw hK hc i pins s σ H E I hf st hi
    subst hP hw hK
    have hi : i = z.cps.size := hi
    obtain ⟨f0, f1, f2, f3, f4, f5⟩ := hf it (by simp)
    exact wpAny_pyNext_wide_end (I.ok.hd hc) st (by simp [hi]) fun h' eb => ⟨rfl, I.turned (t' := s.toks) (fun b o hb e => eb b o hb e) f0 f1 f3 f4 f5⟩
  self := fun _ _ _ _ _ st h => wpAny_pyIter_striter_wide st h
noncomputable def iStr (tl : TE) : TI := fun σ H R => tl σ H fun x H1 => ∃ z : Str, x = .str z ∧ R (Its z) H1
theorem pi_str {X : Cx} {tg l : Expr} {tl : TE} (hl : PE X l tl) : PI X tg l (iStr tl) := by
  intro pins s σ H R I h
  refine thn (hl pins s σ H _ I h) fun v s1 ⟨x, H1, I1, r1, q1⟩ => ?_
  obtain ⟨z, e, q⟩ := q1
  subst e
  obtain ⟨t, rfl⟩ := r1
  have fp : ∀ b ∈ [s1.heap.objs.size], FpOk X pins H1 b := fun b hb => by
    have e : b = s1.heap.objs.size := by simpa using hb
    subst e
    exact I1.fpOk (Nat.le_refl _) (I1.hok.fresh (Nat.le_refl _))
  cases ha : z.cps.all (· < 128) with
  | false =>
    refine wpAny_pyIter_wide ha ?_
    exact ⟨s1.heap.objs.size, [s1.heap.objs.size], _, _, H1, rfl, I1.kept (t' := s1.toks) fun b o e => Heap.get?_push_of_some _ e, turn_strW z t _, ⟨_, Heap.get?_push_size _ rfl, rfl, rfl⟩, fp, q⟩
  | true =>
    refine wpAny_pyIter_ascii ha ?_
    exact ⟨s1.heap.objs.size, [s1.heap.objs.size], _, _, H1, rfl, I1.kept (t' := s1.toks) fun b o e => Heap.get?_push_of_some _ e, turn_strA z t _, ⟨_, Heap.get?_push_size _ rfl, rfl, rfl⟩, fp, q⟩
theorem rd_istr {tl : TE} {σ : St} {H : Hp} {R : It → Hp → Prop} (h : tl σ H fun x H1 => ∃ z : Str, x = .str z ∧ R (Its z) H1) : iStr tl σ H R := h
noncomputable def ltS (a b : Str) : Bool := decide (a.cps.toList < b.cps.toList)
noncomputable def rLtS : R2 := fun x y H Q => ∃ i j, x = .str i ∧ y = .str j ∧ Q (.bl (ltS i j)) H
noncomputable def rLeS : R2 := fun x y H Q => ∃ i j, x = .str i ∧ y = .str j ∧ Q (.bl (!ltS j i)) H
noncomputable def rInS (neg : Bool) : R2 := fun x y H Q => ∃ i j, x = .str i ∧ y = .str j ∧ Q (.bl (neg ^^ !(Builtin.Str.occurrences j i 0 j.length 1).isEmpty)) H
section
variable {X : Cx}
theorem on_leS : OpR X (compareOp .LtE) rLeS := by
  intro pins s σ H x y v u Q I rx ry h
  obtain ⟨i, j, rfl, rfl, q⟩ := h
  obtain ⟨t, rfl⟩ := rx
  obtain ⟨t', rfl⟩ := ry
  exact P.le_str (fin_bl I q rfl)
theorem on_notInS : OpR X (compareOp .NotIn) (rInS true) := fun pins s σ H x y v u Q I rx ry ⟨i, j, e1, e2, q⟩ => op_notIn_str pins s σ H x y v u Q I rx ry ⟨i, j, e1, e2, by simpa using q⟩
end
theorem rd_ltS {H : Hp} {Q : VK} {i j : Str} (h : Q (.bl (ltS i j)) H) : rLtS (.str i) (.str j) H Q := ⟨i, j, rfl, rfl, h⟩
theorem rd_leS {H : Hp} {Q : VK} {i j : Str} (h : Q (.bl (!ltS j i)) H) : rLeS (.str i) (.str j) H Q := ⟨i, j, rfl, rfl, h⟩
theorem rd_inS {H : Hp} {Q : VK} {neg : Bool} {i j : Str} (h : Q (.bl (neg ^^ !(Builtin.Str.occurrences j i 0 j.length 1).isEmpty)) H) : rInS neg (.str i) (.str j) H Q := ⟨i, j, rfl, rfl, h⟩
noncomputable def lowC (c : Nat) : Bool := decide (97 ≤ c) && decide (c ≤ 122)
theorem ltS_a (c : Nat) : ltS (sgn c) "a" = decide (c < 97) := by
  show decide ([c] < [97]) = _
  apply decide_eq_decide.mpr
  constructor
  · intro h
    cases h with
    | rel h => exact h
    | cons h => cases h
  · intro h
    exact .rel h
theorem ltS_z (c : Nat) : ltS "z" (sgn c) = decide (122 < c) := by
  show decide ([122] < [c]) = _
  apply decide_eq_decide.mpr
  constructor
  · intro h
    cases h with
    | rel h => exact h
    | cons h => cases h
  · intro h
    exact .rel h
theorem occ_none {s sub : Str} {hi lim : Nat} (h : ∀ i, Builtin.Str.subAt s sub i = false) : Builtin.Str.occurrences s sub 0 hi lim = [] := by
  unfold Builtin.Str.occurrences
  simp [h]
  have : ∀ (l : List Nat) (x : Array Nat × Nat), List.foldl (fun b a => (b.fst, b.snd)) x l = x := by
    intro l
    induction l with
    | nil => intro x; rfl
    | cons a l ih => intro x; exact ih x
  rw [this]
noncomputable def abc : Str := "abcdefghijklmnopqrstuvwxyz"
theorem occ_some : ∀ k, k < 26 → (Builtin.Str.occurrences abc (sgn (97 + k)) 0 26 1).isEmpty = false := by decide +kernel
theorem occ_abc (c : Nat) : (Builtin.Str.occurrences abc (sgn c) 0 abc.length 1).isEmpty = !lowC c := by
  cases h : lowC c with
  | true =>
    unfold lowC at h
    rw [Bool.and_eq_true, decide_eq_true_eq, decide_eq_true_eq] at h
    have := occ_some (c - 97) (by omega)
    rw [show 97 + (c - 97) = c by omega] at this
    exact this
  | false =>
    rw [occ_none]
    · rfl
    intro i
    have no : ∀ j : Nat, abc.cps[j]? ≠ some c := by
      intro j e
      have hj : j < 26 := by
        have := (Array.getElem?_eq_some_iff.mp e).1
        exact this
      have all : ∀ j : Nat, j < 26 → ∃ d : Nat, abc.cps[j]? = some d ∧ lowC d = true := by
        intro j hj
        refine ⟨97 + j, ?_, ?_⟩
        · revert j; decide +kernel
        · unfold lowC; simp; omega
      obtain ⟨d, e1, e2⟩ := all j hj
      rw [e] at e1; cases e1
      rw [h] at e2; cases e2
    unfold Builtin.Str.subAt
    rw [beq_eq_false_iff_ne]
    intro e
    have : (abc.cps.extract i (i + 1))[0]? = some c := by
      have e' : abc.cps.extract i (i + 1) = #[c] := e
      rw [e']; rfl
    rw [Array.getElem?_extract] at this
    split at this
    · exact no _ this
    · cases this
section
variable {H : Hp} {Q : VK}
theorem rd_lenS {z : Str} (hl : z.length ≤ sizeLine) (h : Q (.int z.length) H) : rLenS [.str z] H Q := ⟨z, rfl, hl, h⟩
noncomputable abbrev SysK (K : PySem.W.Frag) : Prop := (K.lookup sysModules).map (·.cls) = some (.type "dict")
theorem Inv.nosys {X : Cx} {pins : List (Addr × Obj)} {σ : St} {H : Hp} {s : Shared} (hk : SysK X.K) (I : Inv X pins σ H s) : H sysModules = none := by
  cases h : X.K.lookup sysModules with
  | none => unfold SysK at hk; rw [h] at hk; cases hk
  | some o => exact (I.bs _ o (I.mod.kin _ _ h)).2
theorem SqT.nosys {K : PySem.W.Frag} {H : Hp} {a : Addr} {xs : List V} (hk : SysK K) (hs : H sysModules = none) (h : SqT K H a xs) : a ≠ sysModules := by
  rintro rfl
  rcases h with (h | ⟨o, h⟩) | ⟨o, its, n, h, z⟩
  · rw [hs] at h; cases h
  · rw [hs] at h; cases h
  · unfold SysK at hk
    rw [h] at hk
    have e : o.cls = .type "dict" := by simpa using hk
    rw [z.1] at e
    injection e with e
    exact absurd e (by decide)
theorem SqL.nosys {K : PySem.W.Frag} {H : Hp} {a : Addr} {xs : List V} (hk : SysK K) (hs : H sysModules = none) (h : SqL K H a xs) : a ≠ sysModules := by
  rintro rfl
  rcases h with (h | ⟨o, h⟩) | ⟨o, its, n, h, z⟩
  · rw [hs] at h; cases h
  · rw [hs] at h; cases h
  · unfold SysK at hk
    rw [h] at hk
    have e : o.cls = .type "dict" := by simpa using hk
    rw [z.1] at e
    injection e with e
    exact absurd e (by decide)
section
variable {K : PySem.W.Frag} {N : List Addr} {H : Hp}
theorem nin_sys {a : Addr} (n : a ∉ N) (h : a ≠ sysModules) : a ∉ sysModules :: N := fun z => by
  rcases List.mem_cons.mp z with z | z
  · exact h z
  · exact n z
mutual
theorem Dt.nosys (hk : SysK K) (hs : H sysModules = none) : ∀ {v : V} {d : PyData}, Dt K N H v d → Dt K (sysModules :: N) H v d
  | _, _, .non => .non
  | _, _, .bl b => .bl b
  | _, _, .int i => .int i
  | _, _, .str x => .str x
  | _, _, .tup h n r => .tup h (nin_sys n (h.nosys hk hs)) (DtAll.nosys hk hs r)
  | _, _, .lst h n r => .lst h (nin_sys n (h.nosys hk hs)) (DtAll.nosys hk hs r)
  | _, _, .dk0 h n => .dk0 h (nin_sys n (fun z => by subst z; rw [hs] at h; cases h))
  | _, _, .dk1 h n r => .dk1 h (nin_sys n (fun z => by subst z; rw [hs] at h; cases h)) (Dt.nosys hk hs r)
theorem DtAll.nosys (hk : SysK K) (hs : H sysModules = none) : ∀ {vs : List V} {ds : List PyData}, DtAll K N H vs ds → DtAll K (sysModules :: N) H vs ds
  | _, _, .nil => .nil
  | _, _, .cons h r => .cons (Dt.nosys hk hs h) (DtAll.nosys hk hs r)
end
end
noncomputable def rReprS (K : PySem.W.Frag) : TR := fun xs H Q => ∃ N x d, xs = [x] ∧ Dt K N H x d ∧ d.showable = true ∧ d.depth ≤ 30 ∧ d.shown.length ≤ sizeLine ∧ Q (.str d.shown) H
theorem cn_reprS {X : Cx} {k : Nat} (hr : Room k X.A) (hk : SysK X.K) : CallR X (.builtin "repr") (rReprS X.K) := fun pins s σ H xs us Q I r ⟨N, x, d, h0, h1, h3, h4, h5, h6⟩ =>
  call_reprD (N := sysModules :: N) hr pins s σ H xs us Q I r ⟨x, d, h0, h1.nosys hk (I.nosys hk), .inl (List.mem_cons_self ..), h3, h4, h5, h6⟩
theorem rd_reprS {K : PySem.W.Frag} {N : List Addr} {x : V} {d : PyData} (hd : Dt K N H x d) (h1 : d.showable = true) (h2 : d.depth ≤ 30) (h3 : d.shown.length ≤ sizeLine) (h : Q (.str d.shown) H) : rReprS K [x] H Q := ⟨N, x, d, rfl, hd, h1, h2, h3, h⟩
noncomputable def CDivB (i j : Int) : Prop := 0 < j ∧ j < 18446744073709551616
theorem op_fdivB {X : Cx} : OpR X (binaryOp .FloorDiv) (rI CDivB fun i j => .int (i / j)) := opI fun i j _ _ _ _ _ hc q => by
  have h1 : (0 : Int) < j := hc.1
  have h2 : j < 18446744073709551616 := hc.2
  refine floordiv_int (by omega) (by rw [Int.fdiv_eq_ediv_of_nonneg i (by omega)]; exact q) (.inl (PyProof.noPylong_of_log2 ?_))
  by_cases h0 : j.natAbs = 0
  · rw [h0]; decide +kernel
  · have : j.natAbs.log2 < 64 := (Nat.log2_lt h0).mpr (by omega)
    omega
theorem app_len (z : Str) (c : Nat) : (z ++ sgn c).length = z.length + 1 := by
  show (z.cps ++ #[c]).size = z.cps.size + 1
  simp
theorem app_low (z : Str) (c : Nat) : (z ++ sgn c).cps.toList.all lowC = (z.cps.toList.all lowC && lowC c) := by
  show (z.cps ++ #[c]).toList.all lowC = _
  simp
theorem StOk.accS {K : PySem.W.Frag} {H : Hp} {st acc : Addr} {vs : List V} {o : HO} (S : StOk K H st) (n : acc ≠ st) (ha : H acc = some (.lst vs)) (hr : ∀ v ∈ vs, ∀ i, v ≠ .int i) : StOk K (upd H acc o) st := by
  obtain ⟨c, cs, p, q, r, h1, h2, h3, h4, h5⟩ := S.ex
  refine ⟨c, cs, p, q, r, by rw [upd_ne (Ne.symm n)]; exact h1, ?_, h3, h4, h5⟩
  have ncf : c ≠ acc := fun z => by
    subst z
    rw [ha] at h2
    have e : vs = cs.map V.int := by injection h2 with h2; injection h2
    cases cs with
    | nil => simp at h4
    | cons i cs => exact hr (.int i) (by rw [e]; simp) i rfl
  rw [upd_ne ncf]; exact h2
theorem cat_st {K : PySem.W.Frag} {H : Hp} {st p q : Addr} {xs ys : List V} {Q : VK} (S : StOk K H st) (hp : p ≠ st) (hq : q ≠ st) (h1 : SqT K H p xs) (h2 : SqT K H q ys) (hz : xs.length + ys.length ≤ 1000)
    (h : ∀ r H', r ≠ st → Same H H' → SqT K H' r (xs ++ ys) → Q (.ref r) H') : rCatG K (.ref p) (.ref q) H Q :=
  rd_catG h1 h2 (sz hz) fun r H' hr s g => h r H' (by
    rcases hr with rfl | rfl | hr
    · exact hp
    · exact hq
    · exact S.ne hr) s g
theorem strs_noint {zs : List Str} : ∀ v ∈ zs.map V.str, ∀ i, v ≠ .int i := fun v hv i e => by
  obtain ⟨z, _, rfl⟩ := List.mem_map.mp hv
  cases e
noncomputable def rAbs : TR := fun xs H Q => ∃ i, xs = [.int i] ∧ Q (.int (if i < 0 then -i else i)) H
theorem cn_abs {X : Cx} : CallR X (.builtin "abs") rAbs := call_abs
theorem rd_abs {i : Int} (h : Q (.int (if i < 0 then -i else i)) H) : rAbs [.int i] H Q := ⟨i, rfl, h⟩
theorem abs_le (i m : Int) : decide ((if i < 0 then -i else i) ≤ m) = (decide (-m ≤ i) && decide (i ≤ m)) := by
  split
  · by_cases h : -m ≤ i
    · rw [decide_eq_true (by omega), decide_eq_true h, decide_eq_true (by omega)]; rfl
    · rw [decide_eq_false (by omega), decide_eq_false h]; rfl
  · by_cases h : i ≤ m
    · rw [decide_eq_true h, decide_eq_true (by omega)]; rfl
    · rw [decide_eq_false h, Bool.and_false]
theorem low_all (l : List Nat) : l.all lowC = decide (V.int (((l.filter fun c => !lowC c).length : Nat) : Int) = V.int 0) := by
  cases h : l.all lowC with
  | true =>
    have e : (l.filter fun c => !lowC c) = [] := by
      rw [List.filter_eq_nil_iff]
      intro c hc
      have := List.all_eq_true.mp h c hc
      simp [this]
    rw [e]; rfl
  | false =>
    symm
    rw [decide_eq_false_iff_not]
    intro z
    injection z with z
    have e : (l.filter fun c => !lowC c) = [] := List.length_eq_zero_iff.mp (by omega)
    rw [List.filter_eq_nil_iff] at e
    have : l.all lowC = true := List.all_eq_true.mpr fun c hc => by
      have := e c hc
      simpa using this
    rw [this] at h; cases h
theorem rd_ixS {z : Str} {i : Int} {c : Nat} (hl : z.length ≤ sizeLine) (ha : atI z.cps.toList i = some c) (h : Q (.str (sgn c)) H) : rIxS (.str z) (.int i) H Q := ⟨z, i, c, rfl, rfl, hl, ha, h⟩
end
theorem dt_2 {K : PySem.W.Frag} {N : List Addr} {H : Hp} {ys : List V} {es : List PyData} (h : DtAll K N H ys es) (hl : ys.length = 2) : ∃ y1 y2 e1 e2, ys = [y1, y2] ∧ es = [e1, e2] ∧ Dt K N H y1 e1 ∧ Dt K N H y2 e2 := by
  cases h with
  | nil => simp at hl
  | cons h1 h =>
  cases h with
  | nil => simp at hl
  | cons h2 h =>
  cases h with
  | nil => exact ⟨_, _, _, _, rfl, rfl, h1, h2⟩
  | cons z h => simp at hl
theorem dt_3 {K : PySem.W.Frag} {N : List Addr} {H : Hp} {ys : List V} {es : List PyData} (h : DtAll K N H ys es) (hl : ys.length = 3) : ∃ y1 y2 y3 e1 e2 e3, ys = [y1, y2, y3] ∧ es = [e1, e2, e3] ∧ Dt K N H y1 e1 ∧ Dt K N H y2 e2 ∧ Dt K N H y3 e3 := by
  cases h with
  | nil => simp at hl
  | cons h1 h =>
  cases h with
  | nil => simp at hl
  | cons h2 h =>
  cases h with
  | nil => simp at hl
  | cons h3 h =>
  cases h with
  | nil => exact ⟨_, _, _, _, _, _, rfl, rfl, h1, h2, h3⟩
  | cons z h => simp at hl
theorem dt_5 {K : PySem.W.Frag} {N : List Addr} {H : Hp} {ys : List V} {es : List PyData} (h : DtAll K N H ys es) (hl : ys.length = 5) : ∃ y1 y2 y3 y4 y5 e1 e2 e3 e4 e5, ys = [y1, y2, y3, y4, y5] ∧ es = [e1, e2, e3, e4, e5] ∧ Dt K N H y1 e1 ∧ Dt K N H y2 e2 ∧ Dt K N H y3 e3 ∧ Dt K N H y4 e4 ∧ Dt K N H y5 e5 := by
  cases h with
  | nil => simp at hl
  | cons h1 h =>
  cases h with
  | nil => simp at hl
  | cons h2 h =>
  cases h with
  | nil => simp at hl
  | cons h3 h =>
  cases h with
  | nil => simp at hl
  | cons h4 h =>
  cases h with
  | nil => simp at hl
  | cons h5 h =>
  cases h with
  | nil => exact ⟨_, _, _, _, _, _, _, _, _, _, rfl, rfl, h1, h2, h3, h4, h5⟩
  | cons z h => simp at hl
theorem dt_7 {K : PySem.W.Frag} {N : List Addr} {H : Hp} {ys : List V} {es : List PyData} (h : DtAll K N H ys es) (hl : ys.length = 7) : ∃ y1 y2 y3 y4 y5 y6 y7 e1 e2 e3 e4 e5 e6 e7, ys = [y1, y2, y3, y4, y5, y6, y7] ∧ es = [e1, e2, e3, e4, e5, e6, e7] ∧ Dt K N H y1 e1 ∧ Dt K N H y2 e2 ∧ Dt K N H y3 e3 ∧ Dt K N H y4 e4 ∧ Dt K N H y5 e5 ∧ Dt K N H y6 e6 ∧ Dt K N H y7 e7 := by
  cases h with
  | nil => simp at hl
  | cons h1 h =>
  cases h with
  | nil => simp at hl
  | cons h2 h =>
  cases h with
  | nil => simp at hl
  | cons h3 h =>
  cases h with
  | nil => simp at hl
  | cons h4 h =>
  cases h with
  | nil => simp at hl
  | cons h5 h =>
  cases h with
  | nil => simp at hl
  | cons h6 h =>
  cases h with
  | nil => simp at hl
  | cons h7 h =>
  cases h with
  | nil => exact ⟨_, _, _, _, _, _, _, _, _, _, _, _, _, _, rfl, rfl, h1, h2, h3, h4, h5, h6, h7⟩
  | cons z h => simp at hl
theorem dt_8 {K : PySem.W.Frag} {N : List Addr} {H : Hp} {ys : List V} {es : List PyData} (h : DtAll K N H ys es) (hl : ys.length = 8) : ∃ y1 y2 y3 y4 y5 y6 y7 y8 e1 e2 e3 e4 e5 e6 e7 e8, ys = [y1, y2, y3, y4, y5, y6, y7, y8] ∧ es = [e1, e2, e3, e4, e5, e6, e7, e8] ∧ Dt K N H y1 e1 ∧ Dt K N H y2 e2 ∧ Dt K N H y3 e3 ∧ Dt K N H y4 e4 ∧ Dt K N H y5 e5 ∧ Dt K N H y6 e6 ∧ Dt K N H y7 e7 ∧ Dt K N H y8 e8 := by
  cases h with
  | nil => simp at hl
  | cons h1 h =>
  cases h with
  | nil => simp at hl
  | cons h2 h =>
  cases h with
  | nil => simp at hl
  | cons h3 h =>
  cases h with
  | nil => simp at hl
  | cons h4 h =>
  cases h with
  | nil => simp at hl
  | cons h5 h =>
  cases h with
  | nil => simp at hl
  | cons h6 h =>
  cases h with
  | nil => simp at hl
  | cons h7 h =>
  cases h with
  | nil => simp at hl
  | cons h8 h =>
  cases h with
  | nil => exact ⟨_, _, _, _, _, _, _, _, _, _, _, _, _, _, _, _, rfl, rfl, h1, h2, h3, h4, h5, h6, h7, h8⟩
  | cons z h => simp at hl
end L2
namespace PySem
theorem PyData.wt_mem {d : PyData} : ∀ {ds : List PyData}, d ∈ ds → d.weight ≤ PyData.weightAll ds
  | [], h => by cases h
  | e :: r, h => by
    rcases List.mem_cons.mp h with rfl | h
    · simp only [PyData.weightAll]; omega
    · have := PyData.wt_mem h
      simp only [PyData.weightAll]; omega
theorem PyData.wt_at {i : Nat} {d : PyData} {ds : List PyData} {n : Nat} (h : ds[i]? = some d) (hw : (PyData.tuple ds).weight ≤ n) : d.weight ≤ n :=
  Nat.le_trans (PyData.wt_mem (List.mem_of_getElem? h)) hw
theorem PyData.wt_len : ∀ {ds : List PyData}, ds.length ≤ PyData.weightAll ds
  | [] => Nat.le_refl _
  | e :: r => by
    have := PyData.wt_len (ds := r)
    simp only [PyData.weightAll, List.length_cons]; omega
theorem PyData.wt_lt {ds : List PyData} (h : (PyData.tuple ds).weight ≤ 1000000) : ds.length < sizeLine := by
  have : sizeLine = 16777216 := rfl
  have h2 : PyData.weightAll ds ≤ 1000000 := h
  have := PyData.wt_len (ds := ds)
  omega
end PySem
namespace Mt
open PySem L2
theorem dt_more {K : PySem.W.Frag} {N : List Addr} {H : Hp} {ys : List V} {es : List PyData} (h : DtAll K N H ys es) (hl : 5 ≤ ys.length) : ∃ y1 y2 y3 y4 y5 yr e1 e2 e3 e4 e5 er, ys = y1 :: y2 :: y3 :: y4 :: y5 :: yr ∧ es = e1 :: e2 :: e3 :: e4 :: e5 :: er ∧ Dt K N H y1 e1 ∧ Dt K N H y2 e2 ∧ Dt K N H y3 e3 ∧ Dt K N H y4 e4 ∧ Dt K N H y5 e5 ∧ DtAll K N H yr er := by
  cases h with
  | nil => simp at hl
  | cons h1 h => cases h with
    | nil => simp at hl
    | cons h2 h => cases h with
      | nil => simp at hl
      | cons h3 h => cases h with
        | nil => simp at hl
        | cons h4 h => cases h with
          | nil => simp at hl
          | cons h5 h => exact ⟨_, _, _, _, _, _, _, _, _, _, _, _, rfl, rfl, h1, h2, h3, h4, h5, h⟩
noncomputable def keyD : PyData → Bool
  | .str z => decide (1 ≤ z.length) && decide (z.length ≤ 12) && z.cps.toList.all lowC
  | _ => false
noncomputable def setL : List PyData → Bool
  | [w, k, v] => strEq "set" w && (keyD k && withinD (-1000000000000000000) 1000000000000000000 v)
  | _ => false
noncomputable def cutL : List PyData → Bool
  | [w, k] => strEq "cut" w && keyD k
  | _ => false
noncomputable def rowD : PyData → Bool
  | .tuple ds => setL ds || cutL ds
  | _ => false
noncomputable def addrL : List PyData → Bool
  | _ :: f :: t :: n :: _ :: _ => withinD 0 7 f && (withinD 0 7 t && (numD n && (match n with | .int i => decide (1 ≤ i) | _ => false)))
  | _ => false
noncomputable def wantL : List PyData → Bool
  | [w, f, _, _, l, e, a, .tuple ss] => strEq "want" w && (sayC f l e a && ss.all sayD)
  | _ => false
noncomputable def rowsL : List PyData → Bool
  | [w, _, _, _, h, p, .tuple rs] => strEq "rows" w && (histD h && (withinD 0 1000000 p && rs.all rowD))
  | _ => false
noncomputable def goneL : List PyData → Bool
  | [w, _, _, _, p] => strEq "gone" w && withinD 0 1000000 p
  | _ => false
noncomputable def letD : PyData → Bool
  | .tuple ds => addrL ds && (wantL ds || (rowsL ds || goneL ds))
  | _ => false
theorem dt_more2 {K : PySem.W.Frag} {N : List Addr} {H : Hp} {ys : List V} {es : List PyData} (h : DtAll K N H ys es) (hl : 2 ≤ ys.length) : ∃ y1 y2 yr e1 e2 er, ys = y1 :: y2 :: yr ∧ es = e1 :: e2 :: er ∧ Dt K N H y1 e1 ∧ Dt K N H y2 e2 ∧ DtAll K N H yr er := by
  cases h with
  | nil => simp at hl
  | cons h1 h => cases h with
    | nil => simp at hl
    | cons h2 h => exact ⟨_, _, _, _, _, _, rfl, rfl, h1, h2, h⟩
theorem dt_str {K : PySem.W.Frag} {N : List Addr} {H : Hp} {x : V} {z : Str} (h : Dt K N H x (.str z)) : x = .str z := by cases h; rfl
theorem str_of {d : PyData} (h : isStrD d = true) : ∃ z, d = .str z := by
  cases d with
  | str z => exact ⟨z, rfl⟩
  | _ => cases h
theorem strEq_ns {t : Str} {d : PyData} (h : isStrD d = false) : strEq t d = false := by
  cases d with
  | str z => cases h
  | _ => rfl
theorem setL_no {w : PyData} {r : List PyData} (h : strEq "set" w = false) : setL (w :: r) = false := by
  unfold setL; split
  · rename_i e; cases e; rw [h]; rfl
  · rfl
theorem cutL_no {w : PyData} {r : List PyData} (h : strEq "cut" w = false) : cutL (w :: r) = false := by
  unfold cutL; split
  · rename_i e; cases e; rw [h]; rfl
  · rfl
theorem setL_nk {w k : PyData} {r : List PyData} (h : keyD k = false) : setL (w :: k :: r) = false := by
  unfold setL; split
  · rename_i e; cases e; rw [h]; simp
  · rfl
theorem cutL_nk {w k : PyData} {r : List PyData} (h : keyD k = false) : cutL (w :: k :: r) = false := by
  unfold cutL; split
  · rename_i e; cases e; rw [h]; simp
  · rfl
theorem goneL_no {w : PyData} {r : List PyData} (h : strEq "gone" w = false) : goneL (w :: r) = false := by
  unfold goneL; split
  · rename_i e; cases e; rw [h]; rfl
  · rfl
theorem rowsL_no {w : PyData} {r : List PyData} (h : strEq "rows" w = false) : rowsL (w :: r) = false := by
  unfold rowsL; split
  · rename_i e; cases e; rw [h]; rfl
  · rfl
theorem wantL_no {w : PyData} {r : List PyData} (h : strEq "want" w = false) : wantL (w :: r) = false := by
  unfold wantL; split
  · rename_i e; cases e; rw [h]; rfl
  · rfl
theorem strEq_s (t z : Str) : strEq t (.str z) = decide (z = t) := rfl
theorem eqS (z t : Str) : decide (V.str z = V.str t) = decide (z = t) := by
  by_cases h : z = t
  · subst h; simp
  · simp [h]
theorem hist_eq {ds : List PyData} (h1 : 1 ≤ ds.length) (h2 : ds.length ≤ 60) (hb : ds.all begunD = true) : histD (.tuple ds) = ((List.range (ds.length - 1)).all (rise ds) && first0 ds) := by
  cases hf : first0 ds with
  | true => rw [hist_of_begun h1 h2 hb hf, Bool.and_true]
  | false => simp only [histD, hf, Bool.and_false]
theorem first0_at {ds : List PyData} {a b : Int} (h : ds[0]? = some (.tuple [.int a, .int b])) : first0 ds = decide (b = 0) := by
  cases ds with
  | nil => simp at h
  | cons d r => simp only [List.getElem?_cons_zero, Option.some.injEq] at h; subst h; rfl
theorem cnt_all {α : Type} (p : α → Bool) (l : List α) : l.all p = decide (V.int (((l.filter fun c => !p c).length : Nat) : Int) = V.int 0) := by
  cases h : l.all p with
  | true =>
    have e : (l.filter fun c => !p c) = [] := by
      rw [List.filter_eq_nil_iff]
      intro c hc
      have := List.all_eq_true.mp h c hc
      simp [this]
    rw [e]; rfl
  | false =>
    symm
    rw [decide_eq_false_iff_not]
    intro z
    injection z with z
    have e : (l.filter fun c => !p c) = [] := List.length_eq_zero_iff.mp (by omega)
    rw [List.filter_eq_nil_iff] at e
    have : l.all p = true := List.all_eq_true.mpr fun c hc => by
      have := e c hc
      simpa using this
    rw [this] at h; cases h
theorem sayC_0 {f l e a : PyData} (h : withinD 0 7 f = true) : sayC f l e a = sayC (.int 0) l e a := by
  unfold sayC
  rw [h]; rfl
theorem keyD_s (z : Str) : keyD (.str z) = (decide (1 ≤ z.length) && decide (z.length ≤ 12) && z.cps.toList.all lowC) := rfl
theorem rowD_t (ds : List PyData) : rowD (.tuple ds) = (setL ds || cutL ds) := rfl
theorem letD_t (ds : List PyData) : letD (.tuple ds) = (addrL ds && (wantL ds || (rowsL ds || goneL ds))) := rfl
theorem addrL_5 (w f t n p : PyData) (r : List PyData) : addrL (w :: f :: t :: n :: p :: r) = (withinD 0 7 f && (withinD 0 7 t && (numD n && (match n with | .int i => decide (1 ≤ i) | _ => false)))) := rfl
theorem setL_3 (w k v : PyData) : setL [w, k, v] = (strEq "set" w && (keyD k && withinD (-1000000000000000000) 1000000000000000000 v)) := rfl
theorem cutL_2 (w k : PyData) : cutL [w, k] = (strEq "cut" w && keyD k) := rfl
theorem goneL_5 (w a b c p : PyData) : goneL [w, a, b, c, p] = (strEq "gone" w && withinD 0 1000000 p) := rfl
theorem rowsL_7 (w a b c h p : PyData) (rs : List PyData) : rowsL [w, a, b, c, h, p, .tuple rs] = (strEq "rows" w && (histD h && (withinD 0 1000000 p && rs.all rowD))) := rfl
theorem wantL_8 (w f b c l e a : PyData) (ss : List PyData) : wantL [w, f, b, c, l, e, a, .tuple ss] = (strEq "want" w && (sayC f l e a && ss.all sayD)) := rfl
theorem rowsL_t {w a b c h p d : PyData} (ht : isTupD d = false) : rowsL [w, a, b, c, h, p, d] = false := by
  cases d with
  | tuple z => cases ht
  | _ => rfl
theorem wantL_t {w f b c l e a d : PyData} (ht : isTupD d = false) : wantL [w, f, b, c, l, e, a, d] = false := by
  cases d with
  | tuple z => cases ht
  | _ => rfl
theorem setL_len {ds : List PyData} (h : ds.length ≠ 3) : setL ds = false := by
  unfold setL; split
  · simp at h
  · rfl
theorem cutL_len {ds : List PyData} (h : ds.length ≠ 2) : cutL ds = false := by
  unfold cutL; split
  · simp at h
  · rfl
theorem wantL_len {ds : List PyData} (h : ds.length ≠ 8) : wantL ds = false := by
  unfold wantL; split
  · simp at h
  · rfl
theorem rowsL_len {ds : List PyData} (h : ds.length ≠ 7) : rowsL ds = false := by
  unfold rowsL; split
  · simp at h
  · rfl
theorem goneL_len {ds : List PyData} (h : ds.length ≠ 5) : goneL ds = false := by
  unfold goneL; split
  · simp at h
  · rfl
theorem addrL_len {ds : List PyData} (h : ds.length < 5) : addrL ds = false := by
  unfold addrL; split
  · simp at h; omega
  · rfl
theorem rowD_tup {d : PyData} (h : isTupD d = false) : rowD d = false := by
  cases d with
  | tuple z => cases h
  | _ => rfl
theorem letD_tup {d : PyData} (h : isTupD d = false) : letD d = false := by
  cases d with
  | tuple z => cases h
  | _ => rfl
theorem key_itm {z : Str} (h : keyD (.str z) = true) : Itm 140 0 (.str z) := by
  rw [keyD_s, Bool.and_eq_true, Bool.and_eq_true, decide_eq_true_eq, decide_eq_true_eq] at h
  obtain ⟨⟨_, h2⟩, h3⟩ := h
  refine itm_str ?_ (by omega)
  unfold cpsOk
  rw [List.all_eq_true] at h3 ⊢
  intro c hc
  have := h3 c hc
  unfold lowC at this
  simp only [Bool.and_eq_true, decide_eq_true_eq] at this ⊢
  omega
structure Big (w k : Nat) (d : PyData) : Prop where
  sh : d.showable = true
  lv : d.leavesShort 60 = true
  wt : d.weight ≤ w
  dp : d.depth ≤ k
mutual
theorem lv_mono {m n : Nat} (h : m ≤ n) : ∀ {d : PyData}, d.leavesShort m = true → d.leavesShort n = true
  | .none, _ => rfl
  | .bool _, _ => rfl
  | .int i, q => by simp only [PyData.leavesShort, decide_eq_true_eq] at q ⊢; omega
  | .str _, q => q
  | .list _, q => lv_monoA h q
  | .tuple _, q => lv_monoA h q
  | .dict _, q => lv_monoK h q
theorem lv_monoA {m n : Nat} (h : m ≤ n) : ∀ {ds : List PyData}, PyData.leavesShortAll m ds = true → PyData.leavesShortAll n ds = true
  | [], _ => rfl
  | d :: ds, q => by
    simp only [PyData.leavesShortAll, Bool.and_eq_true] at q ⊢
    exact ⟨lv_mono h q.1, lv_monoA h q.2⟩
theorem lv_monoK {m n : Nat} (h : m ≤ n) : ∀ {ds : List (PyData × PyData)}, PyData.leavesShortKv m ds = true → PyData.leavesShortKv n ds = true
  | [], _ => rfl
  | (k, v) :: ds, q => by
    simp only [PyData.leavesShortKv, Bool.and_eq_true] at q ⊢
    exact ⟨⟨lv_mono h q.1.1, lv_mono h q.1.2⟩, lv_monoK h q.2⟩
end
theorem Itm.big {w k : Nat} {d : PyData} (h : Itm w k d) : Big w k d := ⟨h.sh, lv_mono (by decide) h.lv, h.wt, h.dp⟩
theorem Big.mono {w w' k k' : Nat} {d : PyData} (h : Big w k d) (h1 : w ≤ w') (h2 : k ≤ k') : Big w' k' d := ⟨h.sh, h.lv, Nat.le_trans h.wt h1, Nat.le_trans h.dp h2⟩
theorem Big.ln {w k : Nat} {d : PyData} (h : Big w k d) (hw : w ≤ 200000) : d.shown.length ≤ sizeLine := by
  have e := PyData.shown_le 60 (by decide) d h.lv
  have e2 := h.wt
  rw [sizeLine_eq]
  have e3 : (60 + 2) * d.weight ≤ 62 * 200000 := Nat.mul_le_mul_left 62 (Nat.le_trans e2 hw)
  omega
theorem deep_big : ∀ n < 18, (deepD n).showable = true ∧ (deepD n).leavesShort 60 = true ∧ (deepD n).weight ≤ 1000 ∧ (deepD n).depth ≤ n + 1 := by decide +kernel
structure BigL (w k : Nat) (ds : List PyData) : Prop where
  sh : PyData.showableAll ds = true
  lv : PyData.leavesShortAll 60 ds = true
  wt : PyData.weightAll ds ≤ w
  dp : PyData.depthAll ds ≤ k
theorem BigL.nil {k : Nat} : BigL 0 k [] := ⟨rfl, rfl, Nat.le_refl _, Nat.zero_le _⟩
theorem BigL.mono {w w' k k' : Nat} {ds : List PyData} (h : BigL w k ds) (h1 : w ≤ w') (h2 : k ≤ k') : BigL w' k' ds := ⟨h.sh, h.lv, Nat.le_trans h.wt h1, Nat.le_trans h.dp h2⟩
theorem BigL.cons {w v k : Nat} {d : PyData} {ds : List PyData} (h : Big w k d) (r : BigL v k ds) : BigL (w + 1 + v) k (d :: ds) :=
  ⟨by simp only [PyData.showableAll, h.sh, r.sh]; rfl, by simp only [PyData.leavesShortAll, h.lv, r.lv]; rfl, by
    have := h.wt; have := r.wt; simp only [PyData.weightAll]; omega, by simp only [PyData.depthAll]; exact Nat.max_le.mpr ⟨h.dp, r.dp⟩⟩
theorem BigL.head {w k : Nat} {d : PyData} {ds : List PyData} (h : BigL w k (d :: ds)) : Big d.weight k d ∧ BigL (PyData.weightAll ds) k ds ∧ d.weight + 1 + PyData.weightAll ds ≤ w := by
  obtain ⟨h1, h2, h3, h4⟩ := h
  simp only [PyData.showableAll, PyData.leavesShortAll, PyData.weightAll, PyData.depthAll, Bool.and_eq_true] at h1 h2 h3 h4
  have := Nat.max_le.mp h4
  exact ⟨⟨h1.1, h2.1, Nat.le_refl _, this.1⟩, ⟨h1.2, h2.2, Nat.le_refl _, this.2⟩, h3⟩
theorem BigL.append {v k : Nat} {es : List PyData} (r : BigL v k es) : ∀ {w : Nat} {ds : List PyData}, BigL w k ds → BigL (w + v) k (ds ++ es)
  | w, [], h => r.mono (Nat.le_add_left _ _) (Nat.le_refl _)
  | w, d :: ds, h => by
    obtain ⟨h1, h2, h3⟩ := h.head
    exact (BigL.cons h1 (BigL.append r h2)).mono (by omega) (Nat.le_refl _)
theorem BigL.drop {w k : Nat} : ∀ {n : Nat} {ds : List PyData}, BigL w k ds → BigL w k (ds.drop n)
  | 0, ds, h => h
  | n + 1, [], h => h
  | n + 1, d :: ds, h => by
    obtain ⟨_, h2, h3⟩ := h.head
    exact BigL.drop (n := n) (h2.mono (by omega) (Nat.le_refl _))
theorem BigL.take {k : Nat} : ∀ {w n : Nat} {ds : List PyData}, BigL w k ds → BigL w k (ds.take n)
  | w, 0, ds, h => BigL.nil.mono (Nat.zero_le _) (Nat.le_refl _)
  | w, n + 1, [], h => h
  | w, n + 1, d :: ds, h => by
    obtain ⟨h1, h2, h3⟩ := h.head
    exact (BigL.cons h1 (BigL.take (n := n) h2)).mono (by omega) (Nat.le_refl _)
theorem BigL.cut {w k : Nat} {lo hi : Option Int} {ds : List PyData} (h : BigL w k ds) : BigL w k (cutD ds lo hi) := by
  unfold cutD
  first | exact h.drop.take | exact h.take.drop
theorem BigL.rev {k : Nat} : ∀ {w : Nat} {ds : List PyData}, BigL w k ds → BigL w k ds.reverse
  | w, [], h => h
  | w, d :: ds, h => by
    obtain ⟨h1, h2, h3⟩ := h.head
    rw [List.reverse_cons]
    exact (BigL.append (BigL.cons h1 BigL.nil) (BigL.rev h2)).mono (by omega) (Nat.le_refl _)
theorem BigL.at {w k i : Nat} {d : PyData} : ∀ {ds : List PyData}, BigL w k ds → ds[i]? = some d → Big w k d := fun h e => by
  have m := List.mem_of_getElem? e
  clear e
  rename_i ds
  induction ds generalizing w with
  | nil => cases m
  | cons c ds ih =>
    obtain ⟨h1, h2, h3⟩ := h.head
    rcases List.mem_cons.mp m with rfl | m
    · exact h1.mono (by omega) (Nat.le_refl _)
    · exact (ih h2 m).mono (by omega) (Nat.le_refl _)
theorem BigL.tup {w k : Nat} {ds : List PyData} (h : BigL w k ds) : Big w (k + 1) (.tuple ds) := ⟨h.sh, h.lv, h.wt, Nat.succ_le_succ h.dp⟩
theorem BigL.lst {w k : Nat} {ds : List PyData} (h : BigL w k ds) : Big w (k + 1) (.list ds) := ⟨h.sh, h.lv, h.wt, Nat.succ_le_succ h.dp⟩
theorem Big.items {w k : Nat} {ds : List PyData} (h : Big w k (.tuple ds)) : BigL w (k - 1) ds := ⟨h.sh, h.lv, h.wt, by have e : (PyData.tuple ds).depth = PyData.depthAll ds + 1 := rfl; have := h.dp; omega⟩
end Mt

namespace PySem.SeqAt
open PySem PySem.MeetsSeq PyProof PyProof.Rows
theorem dict_eq_declines_none (l : Addr) (es : Array DictEntry) (ep : Nat) (dd : Option Addr) (sl : Array (Option Value)) :
    Meets (Builtin.«dict.__eq__» ⟨[.ref l, .none], []⟩) (fun _ R s => s.heap.get? l = some { cls := .type "dict", dict := dd, data := .dict es ep, slots := sl } ∧ R (.ok (.ret .notImplemented)) s) :=
  .of_wp fun prog w A R s h => by obtain ⟨hp, g, d, tk, os⟩ := s; obtain ⟨hl, h⟩ := h; have f1 := F.sub_NoneType_dict; wp_walk using wpAny_loadPart' hl, wpAny_load hl; exact ⟨_, rfl, h⟩
theorem dict_eq_declines_bool (l : Addr) (es : Array DictEntry) (ep : Nat) (dd : Option Addr) (sl : Array (Option Value)) (b : Bool) :
    Meets (Builtin.«dict.__eq__» ⟨[.ref l, .bool b], []⟩) (fun _ R s => s.heap.get? l = some { cls := .type "dict", dict := dd, data := .dict es ep, slots := sl } ∧ R (.ok (.ret .notImplemented)) s) :=
  .of_wp fun prog w A R s h => by obtain ⟨hp, g, d, tk, os⟩ := s; obtain ⟨hl, h⟩ := h; have f1 := F.sub_bool_dict; wp_walk using wpAny_loadPart' hl, wpAny_load hl; exact ⟨_, rfl, h⟩
theorem dict_eq_declines_int (l : Addr) (es : Array DictEntry) (ep : Nat) (dd : Option Addr) (sl : Array (Option Value)) (b : Int) (u : Tok) :
    Meets (Builtin.«dict.__eq__» ⟨[.ref l, .int b u], []⟩) (fun _ R s => s.heap.get? l = some { cls := .type "dict", dict := dd, data := .dict es ep, slots := sl } ∧ R (.ok (.ret .notImplemented)) s) :=
  .of_wp fun prog w A R s h => by obtain ⟨hp, g, d, tk, os⟩ := s; obtain ⟨hl, h⟩ := h; have f1 := F.sub_int_dict; wp_walk using wpAny_loadPart' hl, wpAny_load hl; exact ⟨_, rfl, h⟩
theorem dict_eq_declines_str (l : Addr) (es : Array DictEntry) (ep : Nat) (dd : Option Addr) (sl : Array (Option Value)) (b : Str) (u : Tok) :
    Meets (Builtin.«dict.__eq__» ⟨[.ref l, .str b u], []⟩) (fun _ R s => s.heap.get? l = some { cls := .type "dict", dict := dd, data := .dict es ep, slots := sl } ∧ R (.ok (.ret .notImplemented)) s) :=
  .of_wp fun prog w A R s h => by obtain ⟨hp, g, d, tk, os⟩ := s; obtain ⟨hl, h⟩ := h; have f1 := F.sub_str_dict; wp_walk using wpAny_loadPart' hl, wpAny_load hl; exact ⟨_, rfl, h⟩
theorem bool_eq_declines_dict (b : Bool) (l : Addr) (c : Value) (es : Array DictEntry) (ep : Nat) (dd : Option Addr) (sl : Array (Option Value)) :
    Meets (Builtin.«int.__eq__» ⟨[.bool b, .ref l], []⟩) (fun _ R s => s.heap.get? l = some { cls := c, dict := dd, data := .dict es ep, slots := sl } ∧ R (.ok (.ret .notImplemented)) s) :=
  .of_wp fun prog w A R s h => by obtain ⟨hp, g, d, tk, os⟩ := s; obtain ⟨hl, h⟩ := h; wp_walk using wpAny_loadPart' hl, wpAny_load hl; exact ⟨_, rfl, h⟩
theorem int_eq_declines_dict (b : Int) (u : Tok) (l : Addr) (c : Value) (es : Array DictEntry) (ep : Nat) (dd : Option Addr) (sl : Array (Option Value)) :
    Meets (Builtin.«int.__eq__» ⟨[.int b u, .ref l], []⟩) (fun _ R s => s.heap.get? l = some { cls := c, dict := dd, data := .dict es ep, slots := sl } ∧ R (.ok (.ret .notImplemented)) s) :=
  .of_wp fun prog w A R s h => by obtain ⟨hp, g, d, tk, os⟩ := s; obtain ⟨hl, h⟩ := h; wp_walk using wpAny_loadPart' hl, wpAny_load hl; exact ⟨_, rfl, h⟩
theorem str_eq_declines_dict (b : Str) (u : Tok) (l : Addr) (c : Value) (es : Array DictEntry) (ep : Nat) (dd : Option Addr) (sl : Array (Option Value)) :
    Meets (Builtin.«str.__eq__» ⟨[.str b u, .ref l], []⟩) (fun _ R s => s.heap.get? l = some { cls := c, dict := dd, data := .dict es ep, slots := sl } ∧ R (.ok (.ret .notImplemented)) s) :=
  .of_wp fun prog w A R s h => by obtain ⟨hp, g, d, tk, os⟩ := s; obtain ⟨hl, h⟩ := h; wp_walk using wpAny_loadPart' hl, wpAny_load hl; exact ⟨_, rfl, h⟩
theorem dict_eq_declines_list (l m : Addr) (es : Array DictEntry) (ep : Nat) (dd : Option Addr) (sl : Array (Option Value)) (items : Array Value) (n : Nat) (dd2 : Option Addr) (sl2 : Array (Option Value)) :
    Meets (Builtin.«dict.__eq__» ⟨[.ref l, .ref m], []⟩) (fun _ R s => s.heap.get? l = some { cls := .type "dict", dict := dd, data := .dict es ep, slots := sl } ∧ s.heap.get? m = some { cls := .type "list", dict := dd2, data := .seq items n, slots := sl2 } ∧ R (.ok (.ret .notImplemented)) s) :=
  .of_wp fun prog w A R s h => by obtain ⟨hp, g, d, tk, os⟩ := s; obtain ⟨hl, hm, h⟩ := h; have f1 := F.sub_list_dict; wp_walk using wpAny_loadPart' hl, wpAny_load hl, wpAny_loadPart' hm, wpAny_load hm; exact ⟨_, rfl, h⟩
theorem list_eq_declines_dict (l m : Addr) (es : Array DictEntry) (ep : Nat) (dd : Option Addr) (sl : Array (Option Value)) (items : Array Value) (n : Nat) (dd2 : Option Addr) (sl2 : Array (Option Value)) :
    Meets (Builtin.«list.__eq__» ⟨[.ref m, .ref l], []⟩) (fun _ R s => s.heap.get? l = some { cls := .type "dict", dict := dd, data := .dict es ep, slots := sl } ∧ s.heap.get? m = some { cls := .type "list", dict := dd2, data := .seq items n, slots := sl2 } ∧ R (.ok (.ret .notImplemented)) s) :=
  .of_wp fun prog w A R s h => by obtain ⟨hp, g, d, tk, os⟩ := s; obtain ⟨hl, hm, h⟩ := h; have f1 := F.sub_dict_list; wp_walk using wpAny_loadPart' hl, wpAny_load hl, wpAny_loadPart' hm, wpAny_load hm; exact ⟨_, rfl, h⟩
theorem dict_eq_declines_tuple (l m : Addr) (es : Array DictEntry) (ep : Nat) (dd : Option Addr) (sl : Array (Option Value)) (items : Array Value) (n : Nat) (dd2 : Option Addr) (sl2 : Array (Option Value)) :
    Meets (Builtin.«dict.__eq__» ⟨[.ref l, .ref m], []⟩) (fun _ R s => s.heap.get? l = some { cls := .type "dict", dict := dd, data := .dict es ep, slots := sl } ∧ s.heap.get? m = some { cls := .type "tuple", dict := dd2, data := .seq items n, slots := sl2 } ∧ R (.ok (.ret .notImplemented)) s) :=
  .of_wp fun prog w A R s h => by obtain ⟨hp, g, d, tk, os⟩ := s; obtain ⟨hl, hm, h⟩ := h; have f1 := F.sub_tuple_dict; wp_walk using wpAny_loadPart' hl, wpAny_load hl, wpAny_loadPart' hm, wpAny_load hm; exact ⟨_, rfl, h⟩
theorem tuple_eq_declines_dict (l m : Addr) (es : Array DictEntry) (ep : Nat) (dd : Option Addr) (sl : Array (Option Value)) (items : Array Value) (n : Nat) (dd2 : Option Addr) (sl2 : Array (Option Value)) :
    Meets (Builtin.«tuple.__eq__» ⟨[.ref m, .ref l], []⟩) (fun _ R s => s.heap.get? l = some { cls := .type "dict", dict := dd, data := .dict es ep, slots := sl } ∧ s.heap.get? m = some { cls := .type "tuple", dict := dd2, data := .seq items n, slots := sl2 } ∧ R (.ok (.ret .notImplemented)) s) :=
  .of_wp fun prog w A R s h => by obtain ⟨hp, g, d, tk, os⟩ := s; obtain ⟨hl, hm, h⟩ := h; have f1 := F.sub_dict_tuple; wp_walk using wpAny_loadPart' hl, wpAny_load hl, wpAny_loadPart' hm, wpAny_load hm; exact ⟨_, rfl, h⟩
section
variable {A : Around} {s : Shared}
noncomputable def IsDic (h : Heap) (l : Addr) : Prop := ∃ o, h.get? l = some o ∧ o.cls = .type "dict" ∧ ∃ es ep, o.data = .dict es ep
theorem RcAt.dict_none {l : Addr} (hl : IsDic s.heap l) (hu : A.units < cLine) : RcAt A s (.ref l) (.none) false := fun prog w E Q h => by
  obtain ⟨⟨cls, dd, data, sl⟩, ho, hc, es, ep, hd⟩ := id hl
  simp only at hc hd
  subst hc hd
  exact rc_eq_decline_or (k := false) ⟨_, ho, rfl⟩ rfl (by decide) F.sub_NoneType_dict F.slot_dict_eq F.slot_NoneType_eq_refl
    (fun _ hq => call_meets F.slot_dict_eq ⟨_, ho, rfl⟩ F.entry_dict_eq (F.args_dict_eq_2 _ _) (dict_eq_declines_none l es ep dd sl ) ⟨ho, hq⟩)
    (fun _ hq => call_gives F.slot_NoneType_eq_refl rfl F.entry_NoneType_eq (F.args_NoneType_eq_2 _ _) (NoneType___eq___none_ref_0 l) hq)
    (fun _ hq => wpAny_of_eq (rfl : isSame (.ref l) (.none) = pure false) hq) (.inr hu) h
theorem EqAt.dict_none {l : Addr} (hl : IsDic s.heap l) (hu : A.units < cLine) : EqAt A s (.ref l) (.none) false := fun prog w E Q h => by
  unfold eqBool
  refine wpAny_holding ?_
  refine wpAny_ite_split (fun hab => absurd (eq_of_beq hab) nofun) (fun _ => ?_)
  exact wpAny_bind (RcAt.dict_none  hl hu prog w E _ (wpAny_truthy_bool h))
theorem RcAt.dict_bool {l : Addr} (b : Bool) (hl : IsDic s.heap l) (hu : A.units < cLine) : RcAt A s (.ref l) (.bool b) false := fun prog w E Q h => by
  obtain ⟨⟨cls, dd, data, sl⟩, ho, hc, es, ep, hd⟩ := id hl
  simp only at hc hd
  subst hc hd
  exact rc_eq_decline_or (k := false) ⟨_, ho, rfl⟩ rfl (by decide) F.sub_bool_dict F.slot_dict_eq F.slot_bool_eq_refl
    (fun _ hq => call_meets F.slot_dict_eq ⟨_, ho, rfl⟩ F.entry_dict_eq (F.args_dict_eq_2 _ _) (dict_eq_declines_bool l es ep dd sl b) ⟨ho, hq⟩)
    (fun _ hq => call_meets F.slot_bool_eq_refl rfl F.entry_int_eq (F.args_int_eq_2 _ _) (bool_eq_declines_dict b l (.type "dict") es ep dd sl) ⟨ho, hq⟩)
    (fun _ hq => wpAny_of_eq (rfl : isSame (.ref l) (.bool b) = pure false) hq) (.inr hu) h
theorem EqAt.dict_bool {l : Addr} (b : Bool) (hl : IsDic s.heap l) (hu : A.units < cLine) : EqAt A s (.ref l) (.bool b) false := fun prog w E Q h => by
  unfold eqBool
  refine wpAny_holding ?_
  refine wpAny_ite_split (fun hab => absurd (eq_of_beq hab) nofun) (fun _ => ?_)
  exact wpAny_bind (RcAt.dict_bool b hl hu prog w E _ (wpAny_truthy_bool h))
theorem RcAt.dict_int {l : Addr} (b : Int) (u : Tok) (hl : IsDic s.heap l) (hu : A.units < cLine) : RcAt A s (.ref l) (.int b u) false := fun prog w E Q h => by
  obtain ⟨⟨cls, dd, data, sl⟩, ho, hc, es, ep, hd⟩ := id hl
  simp only at hc hd
  subst hc hd
  exact rc_eq_decline_or (k := false) ⟨_, ho, rfl⟩ (typeIs_int s b u) (by decide) F.sub_int_dict F.slot_dict_eq F.slot_int_eq_refl
    (fun _ hq => call_meets F.slot_dict_eq ⟨_, ho, rfl⟩ F.entry_dict_eq (F.args_dict_eq_2 _ _) (dict_eq_declines_int l es ep dd sl b u) ⟨ho, hq⟩)
    (fun _ hq => call_meets F.slot_int_eq_refl (typeIs_int s b u) F.entry_int_eq (F.args_int_eq_2 _ _) (int_eq_declines_dict b u l (.type "dict") es ep dd sl) ⟨ho, hq⟩)
    (fun _ hq => wpAny_of_eq (rfl : isSame (.ref l) (.int b u) = pure false) hq) (.inr hu) h
theorem EqAt.dict_int {l : Addr} (b : Int) (u : Tok) (hl : IsDic s.heap l) (hu : A.units < cLine) : EqAt A s (.ref l) (.int b u) false := fun prog w E Q h => by
  unfold eqBool
  refine wpAny_holding ?_
  refine wpAny_ite_split (fun hab => absurd (eq_of_beq hab) nofun) (fun _ => ?_)
  exact wpAny_bind (RcAt.dict_int b u hl hu prog w E _ (wpAny_truthy_bool h))
theorem RcAt.dict_str {l : Addr} (b : Str) (u : Tok) (hl : IsDic s.heap l) (hu : A.units < cLine) : RcAt A s (.ref l) (.str b u) false := fun prog w E Q h => by
  obtain ⟨⟨cls, dd, data, sl⟩, ho, hc, es, ep, hd⟩ := id hl
  simp only at hc hd
  subst hc hd
  exact rc_eq_decline_or (k := false) ⟨_, ho, rfl⟩ (typeIs_str s b u) (by decide) F.sub_str_dict F.slot_dict_eq F.slot_str_eq_refl
    (fun _ hq => call_meets F.slot_dict_eq ⟨_, ho, rfl⟩ F.entry_dict_eq (F.args_dict_eq_2 _ _) (dict_eq_declines_str l es ep dd sl b u) ⟨ho, hq⟩)
    (fun _ hq => call_meets F.slot_str_eq_refl (typeIs_str s b u) F.entry_str_eq (F.args_str_eq_2 _ _) (str_eq_declines_dict b u l (.type "dict") es ep dd sl) ⟨ho, hq⟩)
    (fun _ hq => wpAny_of_eq (rfl : isSame (.ref l) (.str b u) = pure false) hq) (.inr hu) h
theorem EqAt.dict_str {l : Addr} (b : Str) (u : Tok) (hl : IsDic s.heap l) (hu : A.units < cLine) : EqAt A s (.ref l) (.str b u) false := fun prog w E Q h => by
  unfold eqBool
  refine wpAny_holding ?_
  refine wpAny_ite_split (fun hab => absurd (eq_of_beq hab) nofun) (fun _ => ?_)
  exact wpAny_bind (RcAt.dict_str b u hl hu prog w E _ (wpAny_truthy_bool h))
theorem RcAt.dict_list {l b : Addr} {items : Array Value} (hl : IsDic s.heap l) (hb : s.heap.IsList b items) (hu : A.units < cLine) : RcAt A s (.ref l) (.ref b) false := fun prog w E Q h => by
  obtain ⟨⟨cls, dd, data, sl⟩, ho, hc, es, ep, hd⟩ := id hl
  obtain ⟨⟨cls2, dd2, data2, sl2⟩, ho2, hc2, n2, hd2⟩ := id hb
  simp only at hc hd hc2 hd2
  subst hc hd hc2 hd2
  have hne : b ≠ l := fun z => by
    subst z
    have := congrArg (fun o => o.map Obj.cls) (ho.symm.trans ho2)
    simp at this
  exact (rc_eq_decline_or (k := false) ⟨_, ho, rfl⟩ ⟨_, ho2, rfl⟩ (by decide) F.sub_list_dict F.slot_dict_eq F.slot_list_eq_refl
    (fun _ hq => call_meets F.slot_dict_eq ⟨_, ho, rfl⟩ F.entry_dict_eq (F.args_dict_eq_2 _ _) (dict_eq_declines_list l b es ep dd sl items n2 dd2 sl2) ⟨ho, ho2, hq⟩)
    (fun _ hq => call_meets F.slot_list_eq_refl ⟨_, ho2, rfl⟩ F.entry_list_eq (F.args_list_eq_2 _ _) (list_eq_declines_dict l b es ep dd sl items n2 dd2 sl2) ⟨ho, ho2, hq⟩)
    (fun _ hq => wpAny_isSame_ref_other (Ne.symm hne) ho ho2 (by simp) hq) (.inr hu) h)
theorem EqAt.dict_list {l b : Addr} {items : Array Value} (hl : IsDic s.heap l) (hb : s.heap.IsList b items) (hu : A.units < cLine) : EqAt A s (.ref l) (.ref b) false := by
  obtain ⟨o, ho, hc, es, ep, hd⟩ := id hl
  obtain ⟨o2, ho2, hc2, n2, hd2⟩ := id hb
  have hne : l ≠ b := fun z => by
    subst z
    rw [ho] at ho2
    injection ho2 with ho2
    subst ho2
    rw [hd] at hd2
    cases hd2
  exact EqAt.of_refs hne (RcAt.dict_list hl hb hu)
theorem RcAt.dict_tuple {l b : Addr} {items : Array Value} (hl : IsDic s.heap l) (hb : s.heap.IsTuple b items) (hu : A.units < cLine) : RcAt A s (.ref l) (.ref b) false := fun prog w E Q h => by
  obtain ⟨⟨cls, dd, data, sl⟩, ho, hc, es, ep, hd⟩ := id hl
  obtain ⟨⟨cls2, dd2, data2, sl2⟩, ho2, hc2, n2, hd2⟩ := id hb
  simp only at hc hd hc2 hd2
  subst hc hd hc2 hd2
  have hne : b ≠ l := fun z => by
    subst z
    have := congrArg (fun o => o.map Obj.cls) (ho.symm.trans ho2)
    simp at this
  exact (rc_eq_decline_or (k := false) ⟨_, ho, rfl⟩ ⟨_, ho2, rfl⟩ (by decide) F.sub_tuple_dict F.slot_dict_eq F.slot_tuple_eq_refl
    (fun _ hq => call_meets F.slot_dict_eq ⟨_, ho, rfl⟩ F.entry_dict_eq (F.args_dict_eq_2 _ _) (dict_eq_declines_tuple l b es ep dd sl items n2 dd2 sl2) ⟨ho, ho2, hq⟩)
    (fun _ hq => call_meets F.slot_tuple_eq_refl ⟨_, ho2, rfl⟩ F.entry_tuple_eq (F.args_tuple_eq_2 _ _) (tuple_eq_declines_dict l b es ep dd sl items n2 dd2 sl2) ⟨ho, ho2, hq⟩)
    (fun _ hq => wpAny_isSame_ref_other (Ne.symm hne) ho ho2 (by simp) hq) (.inr hu) h)
theorem EqAt.dict_tuple {l b : Addr} {items : Array Value} (hl : IsDic s.heap l) (hb : s.heap.IsTuple b items) (hu : A.units < cLine) : EqAt A s (.ref l) (.ref b) false := by
  obtain ⟨o, ho, hc, es, ep, hd⟩ := id hl
  obtain ⟨o2, ho2, hc2, n2, hd2⟩ := id hb
  have hne : l ≠ b := fun z => by
    subst z
    rw [ho] at ho2
    injection ho2 with ho2
    subst ho2
    rw [hd] at hd2
    cases hd2
  exact EqAt.of_refs hne (RcAt.dict_tuple hl hb hu)
end
theorem pick {n m : Nat} {P : Nat → Bool → Prop} (h : ∀ j, j < n → j < m → ∃ k, P j k) : ∃ e : Nat → Bool, ∀ j, j < n → j < m → P j (e j) := by
  classical
  refine ⟨fun j => if hj : j < n ∧ j < m then Classical.choose (h j hj.1 hj.2) else false, fun j h1 h2 => ?_⟩
  have hj : j < n ∧ j < m := ⟨h1, h2⟩
  show P j (if hj : j < n ∧ j < m then Classical.choose (h j hj.1 hj.2) else false)
  rw [dif_pos hj]
  exact Classical.choose_spec (h j hj.1 hj.2)
mutual
theorem eqAtX : ∀ (da db : PyData) (A : Around) (s : Shared) (a b : Value) (as bs : List Addr), Reads s.heap a da as → Reads s.heap b db bs → db.canLay0 = true → A.units + min da.depth db.depth < cLine → ∃ k, EqAt A s a b k
  | .none, db, A, s, a, b, as, bs, ra, rb, hb, hu => ⟨_, eqAt_reads .none db A s a b as bs ra rb rfl hb hu⟩
  | .bool x, db, A, s, a, b, as, bs, ra, rb, hb, hu => ⟨_, eqAt_reads (.bool x) db A s a b as bs ra rb rfl hb hu⟩
  | .int x, db, A, s, a, b, as, bs, ra, rb, hb, hu => ⟨_, eqAt_reads (.int x) db A s a b as bs ra rb rfl hb hu⟩
  | .str x, db, A, s, _, _, _, _, ra, rb, hb, hu => by
    cases ra with
    | str _ t =>
      cases rb with
      | none => exact ⟨_, EqAt.str_none x t⟩
      | bool y => exact ⟨_, EqAt.str_bool x t y⟩
      | int y u => exact ⟨_, EqAt.str_int x t y u⟩
      | str y u => exact ⟨_, EqAt.str_str x t y u⟩
      | list k1 k2 k3 k4 => exact ⟨_, EqAt.str_list x t ⟨_, k1, k2, _, k3⟩ (room_here hu)⟩
      | tuple k1 k2 k3 k4 => exact ⟨_, EqAt.str_tuple x t ⟨_, k1, k2, _, k3⟩ (room_here hu)⟩
      | dict => exact nomatch hb
  | .dict kvs, db, A, s, _, _, _, _, ra, rb, hb, hu => by
    cases ra with
    | dict h1 h2 h3 h4 h5 =>
      have hl := (⟨_, h1, h2, _, _, h3⟩ : IsDic s.heap _)
      cases rb with
      | none => exact ⟨_, EqAt.dict_none hl (room_here hu)⟩
      | bool y => exact ⟨_, EqAt.dict_bool y hl (room_here hu)⟩
      | int y u => exact ⟨_, EqAt.dict_int y u hl (room_here hu)⟩
      | str y u => exact ⟨_, EqAt.dict_str y u hl (room_here hu)⟩
      | list k1 k2 k3 k4 => exact ⟨_, EqAt.dict_list hl ⟨_, k1, k2, _, k3⟩ (room_here hu)⟩
      | tuple k1 k2 k3 k4 => exact ⟨_, EqAt.dict_tuple hl ⟨_, k1, k2, _, k3⟩ (room_here hu)⟩
      | dict => exact nomatch hb
  | .list xs, db, A, s, _, _, _, _, ra, rb, hb, hu => by
    cases ra with
    | @list l o vs n _ as₁ h1 h2 h3 h4 =>
      have hl : s.heap.IsList l vs := ⟨_, h1, h2, _, h3⟩
      cases rb with
      | none => exact ⟨_, EqAt.list_none hl (room_here hu)⟩
      | bool y => exact ⟨_, EqAt.list_bool y hl (room_here hu)⟩
      | int y u => exact ⟨_, EqAt.list_int y u hl (room_here hu)⟩
      | str y u => exact ⟨_, EqAt.list_str y u hl (room_here hu)⟩
      | tuple k1 k2 k3 k4 => exact ⟨_, EqAt.list_tuple hl ⟨_, k1, k2, _, k3⟩ (room_here hu)⟩
      | dict => exact nomatch hb
      | @list l' o' vs' n' ys bs₁ k1 k2 k3 k4 =>
        have hl' : s.heap.IsList l' vs' := ⟨_, k1, k2, _, k3⟩
        by_cases hll : l = l'
        · subst hll
          exact ⟨_, EqAt.same _⟩
        · by_cases hsz : vs.size = vs'.size
          · obtain ⟨e, he⟩ := pick (n := vs.size) (m := vs'.size) (P := fun j k => ∀ (j1 : j < vs.size) (j2 : j < vs'.size), EqAt A.in1 s vs[j] vs'[j] k) fun j j1 j2 => by
              obtain ⟨k, hk⟩ := eqAtXs xs ys A.in1 s vs.toList vs'.toList _ _ h4 k4 hb (room_in hu) j (by simpa using j1) (by simpa using j2)
              exact ⟨k, fun _ _ => by simpa using hk⟩
            exact ⟨_, EqAt.of_refs hll (RcAt.lists hl hl' hsz (room_here hu) fun j j1 j2 => he j j1 j2 j1 j2)⟩
          · exact ⟨_, EqAt.of_refs hll (RcAt.lists_lengths hl hl' (by simpa using hsz) (room_here hu))⟩
  | .tuple xs, db, A, s, _, _, _, _, ra, rb, hb, hu => by
    cases ra with
    | @tuple l o vs n _ as₁ h1 h2 h3 h4 =>
      have hl : s.heap.IsTuple l vs := ⟨_, h1, h2, _, h3⟩
      cases rb with
      | none => exact ⟨_, EqAt.tuple_none hl (room_here hu)⟩
      | bool y => exact ⟨_, EqAt.tuple_bool y hl (room_here hu)⟩
      | int y u => exact ⟨_, EqAt.tuple_int y u hl (room_here hu)⟩
      | str y u => exact ⟨_, EqAt.tuple_str y u hl (room_here hu)⟩
      | list k1 k2 k3 k4 => exact ⟨_, EqAt.tuple_list hl ⟨_, k1, k2, _, k3⟩ (room_here hu)⟩
      | dict => exact nomatch hb
      | @tuple l' o' vs' n' ys bs₁ k1 k2 k3 k4 =>
        have hl' : s.heap.IsTuple l' vs' := ⟨_, k1, k2, _, k3⟩
        by_cases hll : l = l'
        · subst hll
          exact ⟨_, EqAt.same _⟩
        · obtain ⟨e, he⟩ := pick (n := vs.size) (m := vs'.size) (P := fun j k => ∀ (j1 : j < vs.size) (j2 : j < vs'.size), EqAt A.in1 s vs[j] vs'[j] k) fun j j1 j2 => by
            obtain ⟨k, hk⟩ := eqAtXs xs ys A.in1 s vs.toList vs'.toList _ _ h4 k4 hb (room_in hu) j (by simpa using j1) (by simpa using j2)
            exact ⟨k, fun _ _ => by simpa using hk⟩
          exact ⟨_, EqAt.of_refs hll (RcAt.tuples hl hl' (room_here hu) fun j j1 j2 => he j j1 j2 j1 j2)⟩
theorem eqAtXs : ∀ (xs ys : List PyData) (A : Around) (s : Shared) (vs ws : List Value) (as bs : List Addr), ReadsAll s.heap vs xs as → ReadsAll s.heap ws ys bs → PyData.canLayAll0 ys = true →
    A.units + min (PyData.depthAll xs) (PyData.depthAll ys) < cLine → ∀ j (h1 : j < vs.length) (h2 : j < ws.length), ∃ k, EqAt A s vs[j] ws[j] k
  | [], _, _, _, _, _, _, _, ra, _, _, _, j, h1, _ => by cases ra; exact absurd h1 (Nat.not_lt_zero _)
  | _ :: _, [], _, _, _, _, _, _, _, rb, _, _, j, _, h2 => by cases rb; exact absurd h2 (Nat.not_lt_zero _)
  | x :: xs, y :: ys, A, s, _, _, _, _, ra, rb, hb, hu, j, h1, h2 => by
    have hb' : y.canLay0 = true ∧ PyData.canLayAll0 ys = true := by simpa [PyData.canLayAll0] using hb
    cases ra with
    | cons r rs =>
      cases rb with
      | cons r' rs' =>
        cases j with
        | zero => exact eqAtX x y A s _ _ _ _ r r' hb'.1 (room_head hu)
        | succ j => exact eqAtXs xs ys A s _ _ _ _ rs rs' hb'.2 (room_tail hu) j (Nat.lt_of_succ_lt_succ h1) (Nat.lt_of_succ_lt_succ h2)
end
theorem pairsX {xs ys : List PyData} {A : Around} {s : Shared} {vs ws : Array Value} {as bs : List Addr} (h4 : ReadsAll s.heap vs.toList xs as) (k4 : ReadsAll s.heap ws.toList ys bs) (hb : PyData.canLayAll0 ys = true) (hu : A.in1.units + min (PyData.depthAll xs) (PyData.depthAll ys) < cLine) :
    ∃ e : Nat → Bool, ∀ j (h1 : j < vs.size) (h2 : j < ws.size), EqAt A.in1 s vs[j] ws[j] (e j) := by
  obtain ⟨e, he⟩ := pick (n := vs.size) (m := ws.size) (P := fun j k => ∀ (j1 : j < vs.size) (j2 : j < ws.size), EqAt A.in1 s vs[j] ws[j] k) fun j j1 j2 => by
    obtain ⟨k, hk⟩ := eqAtXs xs ys A.in1 s vs.toList ws.toList _ _ h4 k4 hb hu j (by simpa using j1) (by simpa using j2)
    exact ⟨k, fun _ _ => by simpa using hk⟩
  exact ⟨e, fun j j1 j2 => he j j1 j2 j1 j2⟩
theorem rcAtX {da : PyData} {ys : List PyData} {A : Around} {s : Shared} {a b : Value} {as bs : List Addr} (ra : Reads s.heap a da as) (rb : Reads s.heap b (.tuple ys) bs) (hb : PyData.canLayAll0 ys = true) (hu : A.units + min da.depth (PyData.tuple ys).depth < cLine) : ∃ k, RcAt A s a b k := by
  cases rb with
  | @tuple l' o' vs' n' _ bs₁ k1 k2 k3 k4 =>
    have hl' : s.heap.IsTuple l' vs' := ⟨_, k1, k2, _, k3⟩
    cases ra with
    | none => exact ⟨_, RcAt.none_tuple hl' (room_here hu)⟩
    | bool x => exact ⟨_, RcAt.bool_tuple x hl' (room_here hu)⟩
    | int x t => exact ⟨_, RcAt.int_tuple x t hl' (room_here hu)⟩
    | str x t => exact ⟨_, RcAt.str_tuple x t hl' (room_here hu)⟩
    | list h1 h2 h3 h4 => exact ⟨_, RcAt.list_tuple ⟨_, h1, h2, _, h3⟩ hl' (room_here hu)⟩
    | dict h1 h2 h3 h4 h5 => exact ⟨_, RcAt.dict_tuple ⟨_, h1, h2, _, _, h3⟩ hl' (room_here hu)⟩
    | @tuple l o vs n xs as₁ h1 h2 h3 h4 =>
      obtain ⟨e, he⟩ := pairsX (A := A) h4 k4 hb (room_in hu)
      exact ⟨_, RcAt.tuples ⟨_, h1, h2, _, h3⟩ hl' (room_here hu) he⟩
theorem rcNeAtX {xs ys : List PyData} {A : Around} {s : Shared} {a b : Value} {as bs : List Addr} (ra : Reads s.heap a (.tuple xs) as) (rb : Reads s.heap b (.tuple ys) bs) (hb : PyData.canLayAll0 ys = true) (hu : A.units + min (PyData.tuple xs).depth (PyData.tuple ys).depth < cLine) : ∃ k, RcNeAt A s a b k := by
  cases rb with
  | @tuple l' o' vs' n' _ bs₁ k1 k2 k3 k4 =>
    have hl' : s.heap.IsTuple l' vs' := ⟨_, k1, k2, _, k3⟩
    cases ra with
    | @tuple l o vs n _ as₁ h1 h2 h3 h4 =>
      obtain ⟨e, he⟩ := pairsX (A := A) h4 k4 hb (room_in hu)
      exact ⟨_, RcNeAt.tuples ⟨_, h1, h2, _, h3⟩ hl' (room_here hu) he⟩
end PySem.SeqAt
namespace L2
open PySem PySem.Spec PyProof.Rows
noncomputable def rEqX (K : PySem.W.Frag) : R2 := fun x y H Q => ∃ (N M : List Addr) (d : PyData) (ys : List PyData), Dt K N H x d ∧ Dt K M H y (.tuple ys) ∧ PyData.canLayAll0 ys = true ∧ d.depth ≤ 60 ∧ ∀ b, Q (.bl b) H
noncomputable def rNeX (K : PySem.W.Frag) : R2 := fun x y H Q => ∃ (N M : List Addr) (xs ys : List PyData), Dt K N H x (.tuple xs) ∧ Dt K M H y (.tuple ys) ∧ PyData.canLayAll0 ys = true ∧ (PyData.tuple xs).depth ≤ 60 ∧ ∀ b, Q (.bl b) H
theorem on_eqX {X : Cx} {k : Nat} (hr : Room k X.A) : OpR X (compareOp .Eq) (rEqX X.K) := by
  intro pins s σ H x y v u Q I rx ry ⟨N, M, d, ys, hd, he, sd, dp, q⟩
  obtain ⟨as, ra, _⟩ := hd.reads I rx
  obtain ⟨bs, rb, _⟩ := he.reads I ry
  obtain ⟨b, hb⟩ := SeqAt.rcAtX (A := X.A) ra rb sd (by have := hr.units; have := Nat.min_le_left d.depth (PyData.tuple ys).depth; omega)
  exact hb X.prog X.w _ _ ⟨.bl b, H, I, rfl, q b⟩
theorem on_neX {X : Cx} {k : Nat} (hr : Room k X.A) : OpR X (compareOp .NotEq) (rNeX X.K) := by
  intro pins s σ H x y v u Q I rx ry ⟨N, M, xs, ys, hd, he, sd, dp, q⟩
  obtain ⟨as, ra, _⟩ := hd.reads I rx
  obtain ⟨bs, rb, _⟩ := he.reads I ry
  obtain ⟨b, hb⟩ := SeqAt.rcNeAtX (A := X.A) ra rb sd (by have := hr.units; have := Nat.min_le_left (PyData.tuple xs).depth (PyData.tuple ys).depth; omega)
  exact hb X.prog X.w _ _ ⟨.bl b, H, I, rfl, q b⟩
theorem rd_eqX {K : PySem.W.Frag} {N M : List Addr} {x y : V} {d : PyData} {ys : List PyData} {H : Hp} {Q : VK} (hd : Dt K N H x d) (he : Dt K M H y (.tuple ys)) (h1 : PyData.canLayAll0 ys = true) (h2 : d.depth ≤ 60) (h : ∀ b, Q (.bl b) H) : rEqX K x y H Q := ⟨N, M, d, ys, hd, he, h1, h2, h⟩
theorem rd_neX {K : PySem.W.Frag} {N M : List Addr} {x y : V} {xs ys : List PyData} {H : Hp} {Q : VK} (hd : Dt K N H x (.tuple xs)) (he : Dt K M H y (.tuple ys)) (h1 : PyData.canLayAll0 ys = true) (h2 : (PyData.tuple xs).depth ≤ 60) (h : ∀ b, Q (.bl b) H) : rNeX K x y H Q := ⟨N, M, xs, ys, hd, he, h1, h2, h⟩
end L2

namespace L2
open PySem PySem.Spec PyProof.Rows PySem.W
theorem adjust_rev (n : Nat) : Builtin.Slice.sliceAdjust none none (-1) (n : Int) = ((n : Int) - 1, -1) := by
  unfold Builtin.Slice.sliceAdjust
  simp
theorem places_rev (n : Nat) : Builtin.Slice.slicePlaces ((n : Int) - 1) (-1) (-1) = n := by
  unfold Builtin.Slice.slicePlaces
  simp
  split <;> omega
theorem rev_pick (its : List Value) : ((List.range its.length).filterMap fun (k : Nat) => its.toArray[((its.length : Int) - 1 + (k : Int) * (-1)).toNat]?) = its.reverse := by
  have e : (List.range its.length).filterMap (fun (k : Nat) => its.toArray[((its.length : Int) - 1 + (k : Int) * (-1)).toNat]?) = (List.range its.length).filterMap (fun k => its.reverse[k]?) := by
    apply fm_congr
    intro k hk
    have hk := List.mem_range.mp hk
    have : ((its.length : Int) - 1 + (k : Int) * (-1)).toNat = its.length - 1 - k := by omega
    rw [this, List.getElem?_reverse hk]; simp
  rw [e]
  have g : ∀ xs : List Value, (List.range xs.length).filterMap (fun k => xs[k]?) = xs := by
    intro xs
    induction xs with
    | nil => rfl
    | cons x xs ih => rw [List.length_cons, List.range_succ_eq_map, List.filterMap_cons]; simp [List.filterMap_map, Function.comp_def, ih]
  have := g its.reverse
  rw [List.length_reverse] at this
  exact this
end L2
namespace HT
open PySem PySem.Spec PyProof.Rows PySem.W
section
variable {prog : Program} {w : World} {A : Around} {E : Value → Shared → Prop} {s : Shared}
theorem sliceApplied_rev {sl : Addr} {tk : Tok} {n : Nat} {Q : Int × Int × Nat → Shared → Prop} (hs : s.heap.IsSliceOf sl .none .none (.int (-1) tk)) (h : Q ((n : Int) - 1, -1, n) s) : wpAny (model prog w) A (Builtin.Slice.sliceApplied (.ref sl) (pure (n : Int))) Q E s := by
  obtain ⟨os, hos, hcs, hds⟩ := id hs
  unfold Builtin.Slice.sliceApplied Builtin.Slice.sliceFields
  refine wpAny_bind (wpAny_bind (wpAny_field hos hds (x := .none) rfl (wpAny_bind (wpAny_field hos hds (x := .none) rfl (wpAny_bind (wpAny_field hos hds (x := .int (-1) tk) rfl (wpAny_pure ?_)))))))
  refine wpAny_bind (slicePart_ (.int (-1) tk) ?_)
  show wpAny _ _ (if ((-1 : Int) == 0) = true then _ else _) _ _ s
  rw [if_neg (by decide)]
  refine wpAny_bind (slicePart_ .none (wpAny_bind (slicePart_ .none (wpAny_bind (wpAny_pure ?_)))))
  show wpAny _ _ (match Builtin.Slice.sliceAdjust none none (-1) (n : Int) with | (lo, hi) => pure (lo, (-1 : Int), Builtin.Slice.slicePlaces lo hi (-1))) _ _ s
  rw [L2.adjust_rev]
  show wpAny _ _ (pure ((n : Int) - 1, (-1 : Int), Builtin.Slice.slicePlaces ((n : Int) - 1) (-1) (-1))) _ _ s
  rw [L2.places_rev]
  exact wpAny_pure h
theorem getItem_tuple_rev {t sl : Addr} {its : List Value} {tk : Tok} {Q : Value → Shared → Prop} (ht : IsTup s.heap t its.toArray) (hs : s.heap.IsSliceOf sl .none .none (.int (-1) tk))
    (h : Q (.ref s.heap.objs.size) { s with heap := s.heap.push { cls := .type "tuple", data := .seq its.reverse.toArray } }) (hsz : its.length ≤ sizeLine) : wpAny (model prog w) A (getItem (.ref t) (.ref sl)) Q E s := by
  have htake : sizeOk (.seq its.reverse.toArray) := by
    show its.reverse.toArray.size ≤ sizeLine
    rw [List.size_toArray, List.length_reverse]
    exact hsz
  obtain ⟨os, hos, hcs, hds⟩ := id hs
  have hTs : s.TypeIs (.ref sl) "slice" := ⟨os, hos, hcs⟩
  unfold getItem
  try with_reducible refine wpAny_holding ?_
  first | refine wpAny_bind (wpAny_pure ?_) | skip
  refine wpAny_bind (wpAny_sequenceKey ht.typeIs (by decide) ?_)
  refine wpAny_bind (wpAny_callSpecial?_slot (name := Str.ofString "__getitem__") ht.typeIs PyProof.Rows.slot_tuple_getitem
    (wpAny_call_entry PyProof.Rows.slot_tuple_getitem ht.typeIs entry_tuple_getitem ?_ (args_tuple_getitem _ _)))
  show wpAny _ _ (Builtin.Tuple.tupleItemsOf (.ref t) >>= _) _ _ s
  refine wpAny_bind (tupleItemsOf_ ht ?_)
  refine wpAny_bind (wpAny_typeOf hTs ?_)
  rw [if_pos (by decide)]
  refine wpAny_bind (sliceApplied_rev hs ?_)
  rw [List.size_toArray]
  show wpAny _ _ (if (((its.length : Int) - 1) == 0 && (-1 : Int) == 1 && its.length == its.length) = true then _ else _) _ _ s
  rw [if_neg (by simp), L2.rev_pick]
  first
    | exact wpAny_bind (m := Builtin.Tuple.tupleExact _) (wpAny_newObj_type (wpAny_pure ⟨_, rfl, wpAny_pure h⟩) htake)
    | exact wpAny_bind (m := Builtin.Tuple.tupleExact _) (wpAny_newObj_type (wpAny_bind (wpAny_pure (wpAny_pure ⟨_, rfl, wpAny_pure h⟩))) htake)
    | exact wpAny_bind (wpAny_bind (m := Builtin.Tuple.tupleExact _) (wpAny_newObj_type (wpAny_pure (wpAny_pure ⟨_, rfl, wpAny_pure h⟩)) htake))
    | exact wpAny_bind (wpAny_bind (m := Builtin.Tuple.tupleExact _) (wpAny_newObj_type (wpAny_pure ⟨_, rfl, wpAny_pure h⟩) htake))
end
end HT
namespace L2
open PySem PySem.Spec PyProof.Rows PySem.W
noncomputable def tSlRevT (K : PySem.W.Frag) (te ts : TE) : TE := fun σ H Q => te σ H fun x H1 => ∃ a xs, x = .ref a ∧ ts σ H1 fun y H2 => y = .int (-1) ∧ SqT K H2 a xs ∧ ∀ p H', H2 p = none → Same H2 H' → H' p = some (.tup xs.reverse) → Q (.ref p) H'
theorem pe_sliceRevT {X : Cx} {e st : Expr} {te ts : TE} {p2 pos : Pos} (he : PE X e te) (hs : PE X st ts) : PE X (.Subscript e (.Slice none none (some st) p2) pos) (tSlRevT X.K te ts) := by
  intro pins s σ H Q I h
  refine Subscript_ (thn (he pins s σ H _ I h) fun v s1 ⟨x, H1, I1, r1, a, xs, ex, q1⟩ => ?_)
  subst ex
  obtain rfl : v = Value.ref a := r1
  refine wpAny_Slice ?_
  rw [evalPart_none]
  refine wpAny_pure ?_
  refine wpAny_pure ?_
  show wpAny _ _ (eval st X.env) _ _ _
  refine thn (hs pins s1 σ H1 _ I1 q1) fun vs s3 ⟨y, H3, I3, ry, ey, hx, q⟩ => ?_
  subst ey
  obtain ⟨tk, rfl⟩ := ry
  have I4 : Inv X pins σ H3 { s3 with heap := s3.heap.push { cls := .type "slice", data := .fields #[.none, .none, .int (-1) tk] } } := I3.kept (t' := s3.toks) fun b ob q => Heap.get?_push_of_some _ q
  obtain ⟨its, r, ht, hz⟩ := I4.tuple hx
  have hlen := r.length
  show wpAny (model X.prog X.w) X.A (subscriptTail e (.Slice none none (some st) p2) (.ref a) (.ref s3.heap.objs.size)) (EP X pins σ Q) X.xe _
  refine tail_any (ops := [.ref a, .ref s3.heap.objs.size]) ht.typeIs slot_tuple_getitem.lookup ?_ (by with_unfolding_all rfl)
  refine HT.getItem_tuple_rev ht (Heap.IsSliceOf.new ..) ?_ (by omega)
  have hf := I4.hok.fresh (Nat.le_refl _)
  refine ⟨.ref _, _, I4.laid (t' := s3.toks) (o := .tup xs.reverse) (fun b ob q => Heap.get?_push_of_some _ q) (Nat.le_refl _) ?_, rfl, q _ _ hf (Same.upd hf) upd_same⟩
  exact ⟨by rw [List.length_reverse]; exact hz, _, vals_rev r, IsTup.new _ _⟩
theorem rd_slRevT {K : PySem.W.Frag} {te ts : TE} {σ : St} {H : Hp} {Q : VK} (h : te σ H fun x H1 => ∃ a xs, x = .ref a ∧ ts σ H1 fun y H2 => y = .int (-1) ∧ SqT K H2 a xs ∧ ∀ p H', H2 p = none → Same H2 H' → H' p = some (.tup xs.reverse) → Q (.ref p) H') : tSlRevT K te ts σ H Q := h
end L2

namespace L2
open PySem
structure StOkT (K : PySem.W.Frag) (H H' : Hp) (st : Addr) : Prop extends StOk K H' st where
  keep : ∀ (c : Addr) (a : List V), H st = some (.lst (.ref c :: a)) → ∃ b, H' st = some (.lst (.ref c :: b))
instance {K : PySem.W.Frag} {H H' : Hp} {st : Addr} : CoeOut (StOkT K H H' st) (StOk K H' st) := ⟨StOkT.toStOk⟩
section
variable {K : PySem.W.Frag} {H H1 H2 : Hp} {st acc c : Addr}
theorem StOkT.same (h : StOkT K H H1 st) (s : Same H1 H2) : StOkT K H H2 st := ⟨h.toStOk.same s, fun c a e => by obtain ⟨b, e⟩ := h.keep c a e; exact ⟨b, s _ _ e⟩⟩
theorem StOkT.trans (h : StOkT K H H1 st) (g : StOkT K H1 H2 st) : StOkT K H H2 st := ⟨g.toStOk, fun c a e => by obtain ⟨b, e⟩ := h.keep c a e; exact g.keep c b e⟩
theorem StOkT.pre (s : Same H H1) (g : StOkT K H1 H2 st) : StOkT K H H2 st := ⟨g.toStOk, fun c a e => g.keep c a (s _ _ e)⟩
theorem StOk.cell (h : StOk K H st) : ∃ c a, H st = some (.lst (.ref c :: a)) ∧ c ≠ st ∧ H c ≠ none := by
  obtain ⟨c, cs, p, q, r, h1, h2, h3, _⟩ := h.ex
  exact ⟨c, _, h1, h3, by rw [h2]; simp⟩
theorem StOk.accC {a : List V} {o : HO} (h : StOk K H st) (e : H st = some (.lst (.ref c :: a))) (n : acc ≠ c) (n2 : acc ≠ st) : StOk K (upd H acc o) st := by
  obtain ⟨c', cs, p, q, r, h1, h2, h3⟩ := h.ex
  rw [e] at h1
  have z : c = c' := by
    injection h1 with h1; injection h1 with h1; injection h1 with h1 _; injection h1
  subst z
  refine ⟨c, cs, p, q, r, by rw [upd_ne (Ne.symm n2), e, h1], by rw [upd_ne (Ne.symm n)]; exact h2, h3⟩
theorem rd_ifJ {tc : TT} {a b : TS} {D : Ends} {σ : St} {H : Hp} (P R : Hp → Prop) (ha : ∀ H', P H' → a D σ H') (hb : ∀ H', R H' → b D σ H')
    (h : (∀ H', P H' → a D σ H') → (∀ H', R H' → b D σ H') → tc σ H fun c H1 => if c = true then a D σ H1 else b D σ H1) : tIfS tc a b D σ H := h ha hb
theorem dt_tupN {N : List Addr} {x : V} {es : List PyData} (h : Dt K N H x (.tuple es)) : ∃ b ys, x = .ref b ∧ b ∉ N ∧ SqT K H b ys ∧ DtAll K N H ys es := by
  cases h with
  | tup h n r => exact ⟨_, _, rfl, n, h, r⟩
theorem trN {N : List Addr} {H' : Hp} (S' : StOk K H' st) (x : Ext [st] H H') (h : ∀ b ∈ N, H b ≠ none) : ∀ b ∈ N, H' b ≠ none := fun b hb e => by
  by_cases z : b = st
  · subst z; exact S'.ne e rfl
  · cases q : H b with
    | none => exact h b hb q
    | some o => rw [x b o q (by simpa using z)] at e; cases e
end
end L2
namespace Mt
open PySem L2
theorem BigL.swap {v k : Nat} {e : PyData} (he : Big v k e) : ∀ {w j : Nat} {d : PyData} {ds : List PyData}, BigL w k ds → ds[j]? = some d → d.weight ≤ w ∧ BigL (w - d.weight + v) k (ds.take j ++ e :: ds.drop (j + 1))
  | w, j, d, [], h, q => by simp at q
  | w, 0, d, c :: ds, h, q => by
    obtain ⟨h1, h2, h3⟩ := h.head
    have : c = d := by simpa using q
    subst this
    exact ⟨by omega, (BigL.cons he h2).mono (by omega) (Nat.le_refl _)⟩
  | w, j + 1, d, c :: ds, h, q => by
    obtain ⟨h1, h2, h3⟩ := h.head
    obtain ⟨g1, g2⟩ := BigL.swap he (j := j) h2 (by simpa using q)
    exact ⟨by omega, (BigL.cons h1 g2).mono (by omega) (Nat.le_refl _)⟩
theorem BigL.out {k : Nat} : ∀ {w j : Nat} {ds : List PyData}, BigL w k ds → BigL w k (ds.take j ++ ds.drop (j + 1))
  | w, j, [], h => by simpa using h
  | w, 0, c :: ds, h => by
    obtain ⟨h1, h2, h3⟩ := h.head
    exact h2.mono (by omega) (Nat.le_refl _)
  | w, j + 1, c :: ds, h => by
    obtain ⟨h1, h2, h3⟩ := h.head
    exact (BigL.cons h1 (BigL.out (j := j) h2)).mono (by omega) (Nat.le_refl _)
theorem BigL.up {w k k' : Nat} {ds : List PyData} (h : BigL w k ds) (e : k ≤ k') : BigL w k' ds := h.mono (Nat.le_refl _) e
theorem int_short {i : Int} (h : (PyData.int i).leavesShort 50 = true) : i.natAbs < 10 ^ 50 := by
  have e' : (PyData.shown (.int i)).length = (toString i).length := ofString_length _
  simp only [PyData.leavesShort, decide_eq_true_eq, e'] at h
  have key : ∀ n : Nat, (Nat.repr n).length ≤ 50 → n < 10 ^ 50 := fun n h => by
    rw [Nat.repr_eq_ofList_toDigits, String.length_ofList] at h
    exact (Nat.length_toDigits_le_iff (b := 10) (by decide) (by decide)).mp h
  cases i with
  | ofNat m => exact key m h
  | negSucc m =>
    have e : toString (Int.negSucc m) = "-" ++ Nat.repr (m + 1) := rfl
    rw [e, String.length_append] at h
    have := key (m + 1) (by omega)
    simpa using this
theorem log_short {i : Int} (h : i.natAbs < 10 ^ 50) : i.natAbs.log2 < 1920 := by
  by_cases h0 : i.natAbs = 0
  · rw [h0]; decide
  · have : i.natAbs.log2 < 180 := (Nat.log2_lt h0).mpr (Nat.lt_of_lt_of_le h (by decide))
    omega
theorem big_int {i : Int} (h : i.natAbs < 10 ^ 51) : Big 200 0 (.int i) := by
  have hl : i.natAbs.log2 < 180 := by
    by_cases h0 : i.natAbs = 0
    · rw [h0]; decide
    · exact (Nat.log2_lt h0).mpr (Nat.lt_of_lt_of_le h (by decide))
  refine ⟨?_, ?_, ?_, Nat.le_refl _⟩
  · simp only [PyData.showable, decide_eq_true_eq]; omega
  · have e := int_text_length_le10 (k := 51) (by decide) h
    have e' : (PyData.shown (.int i)).length = (toString i).length := ofString_length _
    simp only [PyData.leavesShort, decide_eq_true_eq, e']; omega
  · simp only [PyData.weight]
    split <;> omega
theorem big_text {i : Int} (h : i.natAbs < 10 ^ 51) : Big 200 0 (.str (Str.ofString (toString i))) := by
  have e := int_text_length_le10 (k := 51) (by decide) h
  refine ⟨rfl, cps_lv (cps_ofString _), ?_, Nat.le_refl _⟩
  have e' : (Str.ofString (toString i)).length = (toString i).length := ofString_length _
  show (Str.ofString (toString i)).length ≤ 200
  rw [e']; omega
theorem itms_big {w k : Nat} {ds : List PyData} (h : ∀ d ∈ ds, Itm w k d) : BigL (ds.length * (w + 1)) k ds := ⟨all_showable h, lv_monoA (by decide) (all_leaves h), all_weight h, all_depth h⟩
theorem lv_mem {m : Nat} {d : PyData} : ∀ {ds : List PyData}, PyData.leavesShortAll m ds = true → d ∈ ds → d.leavesShort m = true
  | [], _, h => by cases h
  | e :: r, q, h => by
    simp only [PyData.leavesShortAll, Bool.and_eq_true] at q
    rcases List.mem_cons.mp h with rfl | h
    · exact q.1
    · exact lv_mem q.2 h
theorem lv_at {m i : Nat} {d : PyData} {ds : List PyData} (h : (PyData.tuple ds).leavesShort m = true) (e : ds[i]? = some d) : d.leavesShort m = true := lv_mem h (List.mem_of_getElem? e)
end Mt

set_option maxHeartbeats 0
local macro_rules | `(tactic| walk_at "vis") => `(tactic| first | exact Or.inl rfl | exact Or.inr (Or.inl rfl) | exact Or.inr (Or.inr rfl))
local macro_rules | `(tactic| walk_at "cond") => `(tactic| first | assumption | decide | omega | (simp only [L2.CDiv, L2.CDivB, L2.CMul, L2.CPow]; first | decide | omega))
local macro_rules | `(tactic| walk_at "sq") => `(tactic| first | assumption | exact L2.SqL.of (by assumption) | exact L2.SqT.of (by assumption) | exact L2.SqL.of L2.upd_same | exact L2.SqT.of L2.upd_same)
local macro_rules | `(tactic| walk_at "lk") => `(tactic| first | assumption | exact L2.upd_same)
local macro_rules | `(tactic| walk_at "ty") => `(tactic| first | assumption | exact L2.TyS.non | exact L2.TyS.bl _ | exact L2.TyS.int _ | exact L2.TyS.str _ | exact L2.TyS.tup (by assumption) | exact L2.TyS.lst (by assumption))
local macro_rules | `(tactic| walk_at "rs") => `(tactic| repeat (first
  | with_reducible refine L2.rd_if ?_ | with_reducible refine L2.rd_asg ?_ | with_reducible refine L2.rd_drop ?_ | with_reducible refine L2.rd_ret ?_ | with_reducible refine L2.rd_next ?_
  | with_reducible refine L2.rd_op ?_ | with_reducible refine L2.rd_un ?_ | ((with_reducible apply L2.rd_var); (case e => exact rfl)) | with_reducible refine L2.rd_c ?_
  | with_reducible refine L2.rd_I0 ?_ | ((with_reducible apply L2.rd_I); (case hc => walk_at "cond")) | with_reducible refine L2.rd_U ?_
  | with_reducible refine L2.rd_test ?_ | with_reducible refine L2.rd_tB ?_ | with_reducible refine L2.rd_bl' ?_ | ((with_reducible apply L2.rd_eq); (case hs => exact rfl)) | ((with_reducible apply L2.rd_ne); (case hs => exact rfl))
  | ((with_reducible apply L2.rd_ixL); (case hq => walk_at "sq"); (case ha => exact rfl)) | ((with_reducible apply L2.rd_ixT); (case hq => walk_at "sq"); (case ha => exact rfl))
  | with_reducible refine L2.rd_name ?_ | with_reducible refine L2.rd_sub ?_ | ((with_reducible apply L2.rd_setL); (case hp => walk_at "lk"); (case hi => exact rfl))
  | with_reducible refine L2.rd_CB ?_ | with_reducible refine L2.rd_nil ?_ | with_reducible refine L2.rd_cons ?_ | with_reducible refine L2.rd_and ?_ | with_reducible refine L2.rd_or ?_ | with_reducible refine L2.rd_not ?_
  | with_reducible refine L2.rd_andV ?_ | with_reducible refine L2.rd_orV ?_ | with_reducible refine L2.rd_notV ?_ | with_reducible refine L2.rd_ifE ?_ | with_reducible refine L2.rd_call ?_ | with_reducible refine L2.rd_callX ?_ | with_reducible refine L2.rd_raise0 ?_ | with_reducible refine L2.rd_raise1 ?_ | with_reducible refine L2.rd_try ?_ | with_reducible refine L2.rd_xat ?_ | with_reducible refine L2.rd_unx ?_ | with_reducible refine L2.rd_star ?_ | with_reducible refine L2.rd_par3 ?_ | with_reducible refine L2.rd_slRev ?_ | with_reducible refine L2.rd_slRevT ?_ | with_reducible refine L2.rd_din ?_ | with_reducible refine L2.rd_dnotin ?_ | with_reducible refine L2.rd_dget ?_ | with_reducible refine L2.rd_dput ?_ | with_reducible refine L2.rd_disp1 ?_ | with_reducible refine L2.rd_tupS ?_ | with_reducible refine L2.rd_lstS ?_ | with_reducible refine L2.rd_rng2 ?_ | with_reducible refine L2.rd_starL ?_ | with_reducible refine L2.rd_tupRev ?_ | with_reducible refine L2.rd_izipL ?_ | with_reducible refine L2.rd_izipM ?_ | ((with_reducible apply L2.rd_glst); (case hq => walk_at "sq"); (case hl => exact rfl)) | with_reducible refine L2.rd_range ?_ | with_reducible refine L2.rd_callK ?_ | with_reducible refine L2.rd_fld ?_ | with_reducible refine L2.rd_sfld ?_ | with_reducible refine L2.rd_meth ?_ | with_reducible refine L2.rd_make ?_ | with_reducible refine L2.rd_ddel ?_ | with_reducible refine L2.rd_dget1 ?_ | with_reducible refine L2.rd_dget2 ?_ | with_reducible refine L2.rd_idict ?_ | with_reducible refine L2.rd_methX ?_ | with_reducible refine L2.rd_irev ?_ | with_reducible refine L2.rd_callKX ?_ | with_reducible refine L2.rd_ienum ?_ | with_reducible refine L2.rd_intB ?_ | with_reducible refine L2.rd_intI ?_ | with_reducible refine L2.rd_dcomp ?_ | with_reducible refine L2.rd_sortVR ?_ | ((with_reducible apply L2.rd_callV); (case hi => exact rfl))
  | with_reducible refine L2.rd_tup ?_ | with_reducible refine L2.rd_tupA ?_ | with_reducible refine L2.rd_lstA ?_ | with_reducible refine L2.rd_dnewA ?_ | with_reducible refine L2.rd_lst ?_ | with_reducible refine L2.rd_chain ?_ | with_reducible refine L2.rd_sl ?_ | with_reducible refine L2.rd_nopart ?_ | with_reducible refine L2.rd_part ?_ | with_reducible refine L2.rd_int ?_
  | ((with_reducible apply L2.rd_slL); (case hq => walk_at "sq")) | ((with_reducible apply L2.rd_slG); (case hq => walk_at "sq"))
  | with_reducible refine L2.rd_gnil ?_ | with_reducible refine L2.rd_gcons ?_ | ((with_reducible apply L2.rd_tupT); (case hq => walk_at "sq"); (case hl => exact rfl)) | with_reducible refine L2.rd_BM ?_ | with_reducible refine L2.rd_for ?_ | with_reducible refine L2.rd_rng1 ?_ | with_reducible refine L2.rd_rngV ?_ | with_reducible refine L2.rd_ilist ?_ | with_reducible refine L2.rd_itup ?_ | with_reducible refine L2.rd_comp ?_ | with_reducible refine L2.rd_izip ?_
  | ((with_reducible apply L2.rd_slA); (case hq => walk_at "sq")) | ((with_reducible apply L2.rd_listAL); (case hq => walk_at "sq")) | ((with_reducible apply L2.rd_listAT); (case hq => walk_at "sq")) | ((with_reducible apply L2.rd_tupleAL); (case hq => walk_at "sq")) | ((with_reducible apply L2.rd_lenL); (case hq => walk_at "sq")) | ((with_reducible apply L2.rd_lenT); (case hq => walk_at "sq")) | ((with_reducible apply L2.rd_listFT); (case hq => walk_at "sq")) | ((with_reducible apply L2.rd_listFL); (case hq => walk_at "sq")) | ((with_reducible apply L2.rd_listL); (case hq => walk_at "sq")) | ((with_reducible apply L2.rd_listT); (case hq => walk_at "sq"))
  | ((with_reducible apply L2.rd_tupleL); (case hq => walk_at "sq")) | ((with_reducible apply L2.rd_isiTup); (case hd => assumption)) | ((with_reducible apply L2.rd_isiInt); (case hd => assumption)) | ((with_reducible apply L2.rd_isiBool); (case hd => assumption)) | ((with_reducible apply L2.rd_isiStr); (case hd => assumption)) | ((with_reducible apply L2.rd_isiList); (case hd => assumption)) | with_reducible refine L2.rd_min ?_ | with_reducible refine L2.rd_max ?_ | refine L2.rd_iteT ?_ | refine L2.rd_iteF ?_ | with_reducible refine L2.rd_isN ?_ | with_reducible refine L2.rd_isnB ?_ | with_reducible refine L2.rd_isnA ?_ | with_reducible refine L2.rd_isA ?_ | with_reducible refine L2.rd_isB ?_ | with_reducible refine L2.rd_notN ?_ | ((with_reducible apply L2.rd_str); (case hl => walk_at "cond")) | with_reducible refine L2.rd_istr ?_ | with_reducible refine L2.rd_ltS ?_ | with_reducible refine L2.rd_leS ?_ | with_reducible refine L2.rd_inS ?_ | with_reducible refine L2.rd_abs ?_ | ((with_reducible apply L2.rd_lenS); (case hl => first | assumption | decide)) | dsimp only))
local macro_rules | `(tactic| walk_at "rd") => `(tactic| repeat (first
  | with_reducible refine L2.rd_seq ?_ | with_reducible refine L2.rd_if ?_ | with_reducible refine L2.rd_asg ?_ | with_reducible refine L2.rd_drop ?_ | with_reducible refine L2.rd_ret ?_ | with_reducible refine L2.rd_next ?_
  | with_reducible refine L2.rd_op ?_ | with_reducible refine L2.rd_un ?_ | ((with_reducible apply L2.rd_var); (case e => exact rfl)) | with_reducible refine L2.rd_c ?_
  | with_reducible refine L2.rd_I0 ?_ | ((with_reducible apply L2.rd_I); (case hc => walk_at "cond")) | with_reducible refine L2.rd_U ?_
  | with_reducible refine L2.rd_test ?_ | with_reducible refine L2.rd_tB ?_ | with_reducible refine L2.rd_bl' ?_ | ((with_reducible apply L2.rd_eq); (case hs => exact rfl)) | ((with_reducible apply L2.rd_ne); (case hs => exact rfl))
  | ((with_reducible apply L2.rd_ixL); (case hq => walk_at "sq"); (case ha => exact rfl)) | ((with_reducible apply L2.rd_ixT); (case hq => walk_at "sq"); (case ha => exact rfl))
  | with_reducible refine L2.rd_name ?_ | with_reducible refine L2.rd_sub ?_ | ((with_reducible apply L2.rd_setL); (case hp => walk_at "lk"); (case hi => exact rfl))
  | with_reducible refine L2.rd_CB ?_ | with_reducible refine L2.rd_nil ?_ | with_reducible refine L2.rd_cons ?_ | with_reducible refine L2.rd_and ?_ | with_reducible refine L2.rd_or ?_ | with_reducible refine L2.rd_not ?_
  | with_reducible refine L2.rd_andV ?_ | with_reducible refine L2.rd_orV ?_ | with_reducible refine L2.rd_notV ?_ | with_reducible refine L2.rd_ifE ?_ | with_reducible refine L2.rd_call ?_ | with_reducible refine L2.rd_callX ?_ | with_reducible refine L2.rd_raise0 ?_ | with_reducible refine L2.rd_raise1 ?_ | with_reducible refine L2.rd_try ?_ | with_reducible refine L2.rd_xat ?_ | with_reducible refine L2.rd_unx ?_ | with_reducible refine L2.rd_star ?_ | with_reducible refine L2.rd_par3 ?_ | with_reducible refine L2.rd_slRev ?_ | with_reducible refine L2.rd_slRevT ?_ | with_reducible refine L2.rd_din ?_ | with_reducible refine L2.rd_dnotin ?_ | with_reducible refine L2.rd_dget ?_ | with_reducible refine L2.rd_dput ?_ | with_reducible refine L2.rd_disp1 ?_ | with_reducible refine L2.rd_tupS ?_ | with_reducible refine L2.rd_lstS ?_ | with_reducible refine L2.rd_rng2 ?_ | with_reducible refine L2.rd_starL ?_ | with_reducible refine L2.rd_tupRev ?_ | with_reducible refine L2.rd_izipL ?_ | with_reducible refine L2.rd_izipM ?_ | ((with_reducible apply L2.rd_glst); (case hq => walk_at "sq"); (case hl => exact rfl)) | with_reducible refine L2.rd_range ?_ | with_reducible refine L2.rd_callK ?_ | with_reducible refine L2.rd_fld ?_ | with_reducible refine L2.rd_sfld ?_ | with_reducible refine L2.rd_meth ?_ | with_reducible refine L2.rd_make ?_ | with_reducible refine L2.rd_ddel ?_ | with_reducible refine L2.rd_dget1 ?_ | with_reducible refine L2.rd_dget2 ?_ | with_reducible refine L2.rd_idict ?_ | with_reducible refine L2.rd_methX ?_ | with_reducible refine L2.rd_irev ?_ | with_reducible refine L2.rd_callKX ?_ | with_reducible refine L2.rd_ienum ?_ | with_reducible refine L2.rd_intB ?_ | with_reducible refine L2.rd_intI ?_ | with_reducible refine L2.rd_dcomp ?_ | with_reducible refine L2.rd_sortVR ?_ | ((with_reducible apply L2.rd_callV); (case hi => exact rfl))
  | with_reducible refine L2.rd_tup ?_ | with_reducible refine L2.rd_tupA ?_ | with_reducible refine L2.rd_lstA ?_ | with_reducible refine L2.rd_dnewA ?_ | with_reducible refine L2.rd_lst ?_ | with_reducible refine L2.rd_chain ?_ | with_reducible refine L2.rd_sl ?_ | with_reducible refine L2.rd_nopart ?_ | with_reducible refine L2.rd_part ?_ | with_reducible refine L2.rd_int ?_
  | ((with_reducible apply L2.rd_slL); (case hq => walk_at "sq")) | ((with_reducible apply L2.rd_slG); (case hq => walk_at "sq"))
  | with_reducible refine L2.rd_gnil ?_ | with_reducible refine L2.rd_gcons ?_ | ((with_reducible apply L2.rd_tupT); (case hq => walk_at "sq"); (case hl => exact rfl)) | with_reducible refine L2.rd_BM ?_ | with_reducible refine L2.rd_for ?_ | with_reducible refine L2.rd_rng1 ?_ | with_reducible refine L2.rd_rngV ?_ | with_reducible refine L2.rd_ilist ?_ | with_reducible refine L2.rd_itup ?_ | with_reducible refine L2.rd_comp ?_ | with_reducible refine L2.rd_izip ?_
  | ((with_reducible apply L2.rd_slA); (case hq => walk_at "sq")) | ((with_reducible apply L2.rd_listAL); (case hq => walk_at "sq")) | ((with_reducible apply L2.rd_listAT); (case hq => walk_at "sq")) | ((with_reducible apply L2.rd_tupleAL); (case hq => walk_at "sq")) | ((with_reducible apply L2.rd_lenL); (case hq => walk_at "sq")) | ((with_reducible apply L2.rd_lenT); (case hq => walk_at "sq")) | ((with_reducible apply L2.rd_listFT); (case hq => walk_at "sq")) | ((with_reducible apply L2.rd_listFL); (case hq => walk_at "sq")) | ((with_reducible apply L2.rd_listL); (case hq => walk_at "sq")) | ((with_reducible apply L2.rd_listT); (case hq => walk_at "sq"))
  | ((with_reducible apply L2.rd_tupleL); (case hq => walk_at "sq")) | ((with_reducible apply L2.rd_isiTup); (case hd => assumption)) | ((with_reducible apply L2.rd_isiInt); (case hd => assumption)) | ((with_reducible apply L2.rd_isiBool); (case hd => assumption)) | ((with_reducible apply L2.rd_isiStr); (case hd => assumption)) | ((with_reducible apply L2.rd_isiList); (case hd => assumption)) | with_reducible refine L2.rd_min ?_ | with_reducible refine L2.rd_max ?_ | refine L2.rd_iteT ?_ | refine L2.rd_iteF ?_ | with_reducible refine L2.rd_isN ?_ | with_reducible refine L2.rd_isnB ?_ | with_reducible refine L2.rd_isnA ?_ | with_reducible refine L2.rd_isA ?_ | with_reducible refine L2.rd_isB ?_ | with_reducible refine L2.rd_notN ?_ | ((with_reducible apply L2.rd_str); (case hl => walk_at "cond")) | with_reducible refine L2.rd_istr ?_ | with_reducible refine L2.rd_ltS ?_ | with_reducible refine L2.rd_leS ?_ | with_reducible refine L2.rd_inS ?_ | with_reducible refine L2.rd_abs ?_ | ((with_reducible apply L2.rd_lenS); (case hl => first | assumption | decide)) | dsimp only))
local macro_rules | `(tactic| walk_at "rq") => `(tactic| repeat (first
  | with_reducible refine L2.rd_seq ?_ | with_reducible refine L2.rd_if ?_ | with_reducible refine L2.rd_asg ?_ | with_reducible refine L2.rd_drop ?_ | with_reducible refine L2.rd_ret ?_ | with_reducible refine L2.rd_next ?_
  | with_reducible refine L2.rd_op ?_ | with_reducible refine L2.rd_un ?_ | ((with_reducible apply L2.rd_var); (case e => exact rfl)) | with_reducible refine L2.rd_c ?_
  | with_reducible refine L2.rd_I0 ?_ | ((with_reducible apply L2.rd_I); (case hc => walk_at "cond")) | with_reducible refine L2.rd_U ?_
  | with_reducible refine L2.rd_test ?_ | with_reducible refine L2.rd_tB ?_ | with_reducible refine L2.rd_bl' ?_ | ((with_reducible apply L2.rd_eq); (case hs => exact rfl)) | ((with_reducible apply L2.rd_ne); (case hs => exact rfl))
  | ((with_reducible apply L2.rd_ixL); (case hq => walk_at "sq"); (case ha => exact rfl)) | ((with_reducible apply L2.rd_ixT); (case hq => walk_at "sq"); (case ha => exact rfl))
  | with_reducible refine L2.rd_name ?_ | with_reducible refine L2.rd_sub ?_ | ((with_reducible apply L2.rd_setL); (case hp => walk_at "lk"); (case hi => exact rfl))
  | with_reducible refine L2.rd_CB ?_ | with_reducible refine L2.rd_nil ?_ | with_reducible refine L2.rd_cons ?_ | with_reducible refine L2.rd_and ?_ | with_reducible refine L2.rd_or ?_ | with_reducible refine L2.rd_not ?_
  | with_reducible refine L2.rd_andV ?_ | with_reducible refine L2.rd_orV ?_ | with_reducible refine L2.rd_notV ?_ | with_reducible refine L2.rd_ifE ?_ | with_reducible refine L2.rd_call ?_ | with_reducible refine L2.rd_callX ?_ | with_reducible refine L2.rd_raise0 ?_ | with_reducible refine L2.rd_raise1 ?_ | with_reducible refine L2.rd_try ?_ | with_reducible refine L2.rd_xat ?_ | with_reducible refine L2.rd_unx ?_ | with_reducible refine L2.rd_star ?_ | with_reducible refine L2.rd_par3 ?_ | with_reducible refine L2.rd_slRev ?_ | with_reducible refine L2.rd_slRevT ?_ | with_reducible refine L2.rd_din ?_ | with_reducible refine L2.rd_dnotin ?_ | with_reducible refine L2.rd_dget ?_ | with_reducible refine L2.rd_dput ?_ | with_reducible refine L2.rd_disp1 ?_ | with_reducible refine L2.rd_tupS ?_ | with_reducible refine L2.rd_lstS ?_ | with_reducible refine L2.rd_rng2 ?_ | with_reducible refine L2.rd_starL ?_ | with_reducible refine L2.rd_tupRev ?_ | with_reducible refine L2.rd_izipL ?_ | with_reducible refine L2.rd_izipM ?_ | ((with_reducible apply L2.rd_glst); (case hq => walk_at "sq"); (case hl => exact rfl)) | with_reducible refine L2.rd_range ?_ | with_reducible refine L2.rd_callK ?_ | with_reducible refine L2.rd_fld ?_ | with_reducible refine L2.rd_sfld ?_ | with_reducible refine L2.rd_meth ?_ | with_reducible refine L2.rd_make ?_ | with_reducible refine L2.rd_ddel ?_ | with_reducible refine L2.rd_dget1 ?_ | with_reducible refine L2.rd_dget2 ?_ | with_reducible refine L2.rd_idict ?_ | with_reducible refine L2.rd_methX ?_ | with_reducible refine L2.rd_irev ?_ | with_reducible refine L2.rd_callKX ?_ | with_reducible refine L2.rd_ienum ?_ | with_reducible refine L2.rd_intB ?_ | with_reducible refine L2.rd_intI ?_ | with_reducible refine L2.rd_dcomp ?_ | with_reducible refine L2.rd_sortVR ?_ | ((with_reducible apply L2.rd_callV); (case hi => exact rfl))
  | with_reducible refine L2.rd_tup ?_ | with_reducible refine L2.rd_tupA ?_ | with_reducible refine L2.rd_lstA ?_ | with_reducible refine L2.rd_dnewA ?_ | with_reducible refine L2.rd_lst ?_ | with_reducible refine L2.rd_chain ?_ | with_reducible refine L2.rd_sl ?_ | with_reducible refine L2.rd_nopart ?_ | with_reducible refine L2.rd_part ?_ | with_reducible refine L2.rd_int ?_
  | ((with_reducible apply L2.rd_slL); (case hq => walk_at "sq")) | ((with_reducible apply L2.rd_slG); (case hq => walk_at "sq"))
  | with_reducible refine L2.rd_gnil ?_ | with_reducible refine L2.rd_gcons ?_ | ((with_reducible apply L2.rd_tupT); (case hq => walk_at "sq"); (case hl => exact rfl)) | with_reducible refine L2.rd_BM ?_ | with_reducible refine L2.rd_for ?_ | with_reducible refine L2.rd_rng1 ?_ | with_reducible refine L2.rd_rngV ?_ | with_reducible refine L2.rd_ilist ?_ | with_reducible refine L2.rd_itup ?_ | with_reducible refine L2.rd_comp ?_ | with_reducible refine L2.rd_izip ?_
  | ((with_reducible apply L2.rd_slA); (case hq => walk_at "sq")) | ((with_reducible apply L2.rd_listAL); (case hq => walk_at "sq")) | ((with_reducible apply L2.rd_listAT); (case hq => walk_at "sq")) | ((with_reducible apply L2.rd_tupleAL); (case hq => walk_at "sq")) | ((with_reducible apply L2.rd_lenL); (case hq => walk_at "sq")) | ((with_reducible apply L2.rd_lenT); (case hq => walk_at "sq")) | ((with_reducible apply L2.rd_listFT); (case hq => walk_at "sq")) | ((with_reducible apply L2.rd_listFL); (case hq => walk_at "sq")) | ((with_reducible apply L2.rd_listL); (case hq => walk_at "sq")) | ((with_reducible apply L2.rd_listT); (case hq => walk_at "sq"))
  | ((with_reducible apply L2.rd_tupleL); (case hq => walk_at "sq")) | ((with_reducible apply L2.rd_isiTup); (case hd => assumption)) | ((with_reducible apply L2.rd_isiInt); (case hd => assumption)) | ((with_reducible apply L2.rd_isiBool); (case hd => assumption)) | ((with_reducible apply L2.rd_isiStr); (case hd => assumption)) | ((with_reducible apply L2.rd_isiList); (case hd => assumption)) | with_reducible refine L2.rd_min ?_ | with_reducible refine L2.rd_max ?_ | ((with_reducible refine L2.rd_iteG ?_); first | refine L2.rd_iteT ?_ | refine L2.rd_iteF ?_) | with_reducible refine L2.rd_isN ?_ | with_reducible refine L2.rd_isnB ?_ | with_reducible refine L2.rd_isnA ?_ | with_reducible refine L2.rd_isA ?_ | with_reducible refine L2.rd_isB ?_ | with_reducible refine L2.rd_notN ?_ | ((with_reducible apply L2.rd_str); (case hl => walk_at "cond")) | with_reducible refine L2.rd_istr ?_ | with_reducible refine L2.rd_ltS ?_ | with_reducible refine L2.rd_leS ?_ | with_reducible refine L2.rd_inS ?_ | with_reducible refine L2.rd_abs ?_ | ((with_reducible apply L2.rd_lenS); (case hl => first | assumption | decide)) | dsimp only))
namespace My
open PySem L2
noncomputable abbrev s_is_number : Stmt := top 2
noncomputable abbrev s_is_within : Stmt := top 3
noncomputable abbrev s_is_place : Stmt := top 4
noncomputable abbrev s_is_line : Stmt := top 8
noncomputable abbrev s_is_line_and_place : Stmt := top 9
noncomputable abbrev s_is_history : Stmt := top 10
noncomputable abbrev s_is_key : Stmt := top 14
noncomputable abbrev s_is_value : Stmt := top 15
noncomputable abbrev s_is_word : Stmt := top 16
noncomputable abbrev s_is_set : Stmt := top 17
noncomputable abbrev s_is_cut : Stmt := top 18
noncomputable abbrev s_is_row : Stmt := top 19
noncomputable abbrev s_is_house : Stmt := top 22
noncomputable abbrev s_is_saying : Stmt := top 24
noncomputable abbrev s_is_addressed : Stmt := top 27
noncomputable abbrev s_is_want : Stmt := top 28
noncomputable abbrev s_is_rows_letter : Stmt := top 29
noncomputable abbrev s_is_gone : Stmt := top 30
noncomputable abbrev s_is_letter : Stmt := top 31
noncomputable abbrev s_law_state : Stmt := top 33
noncomputable abbrev s_law_next : Stmt := top 34
noncomputable abbrev s_law_whole : Stmt := top 35
noncomputable abbrev s_law_key : Stmt := top 36
noncomputable abbrev s_law_amount : Stmt := top 37
noncomputable abbrev s_law_row : Stmt := top 38
noncomputable abbrev s_law_keys : Stmt := top 39
noncomputable abbrev s_law_says : Stmt := top 40
noncomputable abbrev s_law_deep : Stmt := top 41
noncomputable abbrev s_law_upto : Stmt := top 42
noncomputable abbrev s_law_is_key : Stmt := top 43
noncomputable abbrev s_law_is_row : Stmt := top 44
noncomputable abbrev s_law_is_past : Stmt := top 45
noncomputable abbrev s_law_is_said : Stmt := top 46
noncomputable abbrev s_law_is_letter : Stmt := top 47
noncomputable abbrev s_law_place : Stmt := top 48
noncomputable abbrev s_law_line : Stmt := top 49
noncomputable abbrev s_law_past : Stmt := top 50
noncomputable abbrev s_law_said : Stmt := top 51
noncomputable abbrev s_law_letter : Stmt := top 52
noncomputable abbrev s_law_odd : Stmt := top 53
noncomputable abbrev s_law_bent : Stmt := top 54
noncomputable abbrev s_law_applied_fits : Stmt := top 55
noncomputable abbrev s_law : Stmt := top 56
theorem sc_is_number : FnScope ["thing"] ["thing"] (defScope s_is_number) := ⟨rfl, rfl, rfl, by decide +kernel, rfl, by decide +kernel, by decide +kernel⟩
theorem sc_is_within : FnScope ["thing", "least", "most"] ["thing", "least", "most"] (defScope s_is_within) := ⟨rfl, rfl, rfl, by decide +kernel, rfl, by decide +kernel, by decide +kernel⟩
theorem sc_is_place : FnScope ["thing"] ["thing"] (defScope s_is_place) := ⟨rfl, rfl, rfl, by decide +kernel, rfl, by decide +kernel, by decide +kernel⟩
theorem sc_is_line : FnScope ["thing"] ["thing"] (defScope s_is_line) := ⟨rfl, rfl, rfl, by decide +kernel, rfl, by decide +kernel, by decide +kernel⟩
theorem sc_is_line_and_place : FnScope ["thing"] ["thing"] (defScope s_is_line_and_place) := ⟨rfl, rfl, rfl, by decide +kernel, rfl, by decide +kernel, by decide +kernel⟩
theorem sc_is_history : FnScope ["thing"] ["thing"] (defScope s_is_history) := ⟨rfl, rfl, rfl, by decide +kernel, rfl, by decide +kernel, by decide +kernel⟩
theorem sc_is_key : FnScope ["thing"] ["thing"] (defScope s_is_key) := ⟨rfl, rfl, rfl, by decide +kernel, rfl, by decide +kernel, by decide +kernel⟩
theorem sc_is_value : FnScope ["thing"] ["thing"] (defScope s_is_value) := ⟨rfl, rfl, rfl, by decide +kernel, rfl, by decide +kernel, by decide +kernel⟩
theorem sc_is_word : FnScope ["thing", "word"] ["thing", "word"] (defScope s_is_word) := ⟨rfl, rfl, rfl, by decide +kernel, rfl, by decide +kernel, by decide +kernel⟩
theorem sc_is_set : FnScope ["thing"] ["thing"] (defScope s_is_set) := ⟨rfl, rfl, rfl, by decide +kernel, rfl, by decide +kernel, by decide +kernel⟩
theorem sc_is_cut : FnScope ["thing"] ["thing"] (defScope s_is_cut) := ⟨rfl, rfl, rfl, by decide +kernel, rfl, by decide +kernel, by decide +kernel⟩
theorem sc_is_row : FnScope ["thing"] ["thing"] (defScope s_is_row) := ⟨rfl, rfl, rfl, by decide +kernel, rfl, by decide +kernel, by decide +kernel⟩
theorem sc_is_house : FnScope ["thing", "houses"] ["thing", "houses"] (defScope s_is_house) := ⟨rfl, rfl, rfl, by decide +kernel, rfl, by decide +kernel, by decide +kernel⟩
theorem sc_is_saying : FnScope ["thing", "house", "line", "end", "applied"] ["thing"] (defScope s_is_saying) := ⟨rfl, rfl, rfl, by decide +kernel, rfl, by decide +kernel, by decide +kernel⟩
theorem sc_is_addressed : FnScope ["thing"] ["thing"] (defScope s_is_addressed) := ⟨rfl, rfl, rfl, by decide +kernel, rfl, by decide +kernel, by decide +kernel⟩
theorem sc_is_want : FnScope ["thing", "of_itself"] ["thing"] (defScope s_is_want) := ⟨rfl, rfl, rfl, by decide +kernel, rfl, by decide +kernel, by decide +kernel⟩
theorem sc_is_rows_letter : FnScope ["thing"] ["thing"] (defScope s_is_rows_letter) := ⟨rfl, rfl, rfl, by decide +kernel, rfl, by decide +kernel, by decide +kernel⟩
theorem sc_is_gone : FnScope ["thing"] ["thing"] (defScope s_is_gone) := ⟨rfl, rfl, rfl, by decide +kernel, rfl, by decide +kernel, by decide +kernel⟩
theorem sc_is_letter : FnScope ["thing"] ["thing"] (defScope s_is_letter) := ⟨rfl, rfl, rfl, by decide +kernel, rfl, by decide +kernel, by decide +kernel⟩
theorem sc_law_state : FnScope ["_law_script", "_law_seed", "_law_cells"] ["_law_script", "_law_seed"] (defScope s_law_state) := ⟨rfl, rfl, rfl, by decide +kernel, rfl, by decide +kernel, by decide +kernel⟩
theorem sc_law_next : FnScope ["_law_state_here", "_law_below", "_law_found", "_law_cells", "_law_cell"] ["_law_state_here", "_law_below"] (defScope s_law_next) := ⟨rfl, rfl, rfl, by decide +kernel, rfl, by decide +kernel, by decide +kernel⟩
theorem sc_law_whole : FnScope ["_law_found"] ["_law_found"] (defScope s_law_whole) := ⟨rfl, rfl, rfl, by decide +kernel, rfl, by decide +kernel, by decide +kernel⟩
theorem sc_law_key : FnScope ["_law_state_here", "_law_letters", "_law_found", "_law_k"] ["_law_state_here"] (defScope s_law_key) := ⟨rfl, rfl, rfl, by decide +kernel, rfl, by decide +kernel, by decide +kernel⟩
theorem sc_law_amount : FnScope ["_law_state_here", "_law_way"] ["_law_state_here"] (defScope s_law_amount) := ⟨rfl, rfl, rfl, by decide +kernel, rfl, by decide +kernel, by decide +kernel⟩
theorem sc_law_row : FnScope ["_law_state_here", "_law_keys_here", "_law_key_here"] ["_law_state_here", "_law_keys_here"] (defScope s_law_row) := ⟨rfl, rfl, rfl, by decide +kernel, rfl, by decide +kernel, by decide +kernel⟩
theorem sc_law_keys : FnScope ["_law_state_here"] ["_law_state_here"] (defScope s_law_keys) := ⟨rfl, rfl, rfl, by decide +kernel, rfl, by decide +kernel, by decide +kernel⟩
theorem sc_law_says : FnScope ["_law_found", "_law_due"] ["_law_found", "_law_due"] (defScope s_law_says) := ⟨rfl, rfl, rfl, by decide +kernel, rfl, by decide +kernel, by decide +kernel⟩
theorem sc_law_deep : FnScope ["_law_many", "_law_found", "_law_k"] ["_law_many"] (defScope s_law_deep) := ⟨rfl, rfl, rfl, by decide +kernel, rfl, by decide +kernel, by decide +kernel⟩
theorem sc_law_upto : FnScope ["_law_thing", "_law_most"] ["_law_thing", "_law_most"] (defScope s_law_upto) := ⟨rfl, rfl, rfl, by decide +kernel, rfl, by decide +kernel, by decide +kernel⟩
theorem sc_law_is_key : FnScope ["_law_thing"] ["_law_thing"] (defScope s_law_is_key) := ⟨rfl, rfl, rfl, by decide +kernel, rfl, by decide +kernel, by decide +kernel⟩
theorem sc_law_is_row : FnScope ["_law_thing"] ["_law_thing"] (defScope s_law_is_row) := ⟨rfl, rfl, rfl, by decide +kernel, rfl, by decide +kernel, by decide +kernel⟩
theorem sc_law_is_past : FnScope ["_law_thing", "_law_pair", "_law_k"] ["_law_thing"] (defScope s_law_is_past) := ⟨rfl, rfl, rfl, by decide +kernel, rfl, by decide +kernel, by decide +kernel⟩
theorem sc_law_is_said : FnScope ["_law_thing"] ["_law_thing"] (defScope s_law_is_said) := ⟨rfl, rfl, rfl, by decide +kernel, rfl, by decide +kernel, by decide +kernel⟩
theorem sc_law_is_letter : FnScope ["_law_thing"] ["_law_thing"] (defScope s_law_is_letter) := ⟨rfl, rfl, rfl, by decide +kernel, rfl, by decide +kernel, by decide +kernel⟩
theorem sc_law_place : FnScope ["_law_state_here"] ["_law_state_here"] (defScope s_law_place) := ⟨rfl, rfl, rfl, by decide +kernel, rfl, by decide +kernel, by decide +kernel⟩
theorem sc_law_line : FnScope ["_law_state_here"] ["_law_state_here"] (defScope s_law_line) := ⟨rfl, rfl, rfl, by decide +kernel, rfl, by decide +kernel, by decide +kernel⟩
theorem sc_law_past : FnScope ["_law_state_here", "_law_found", "_law_k", "_law_line_here", "_law_fork", "_law_later"] ["_law_state_here"] (defScope s_law_past) := ⟨rfl, rfl, rfl, by decide +kernel, rfl, by decide +kernel, by decide +kernel⟩
theorem sc_law_said : FnScope ["_law_state_here", "_law_end"] ["_law_state_here"] (defScope s_law_said) := ⟨rfl, rfl, rfl, by decide +kernel, rfl, by decide +kernel, by decide +kernel⟩
theorem sc_law_letter : FnScope ["_law_state_here", "_law_under", "_law_head", "_law_way", "_law_sayings", "_law_keys_here", "_law_rows"] ["_law_state_here"] (defScope s_law_letter) := ⟨rfl, rfl, rfl, by decide +kernel, rfl, by decide +kernel, by decide +kernel⟩
theorem sc_law_odd : FnScope ["_law_state_here", "_law_things"] ["_law_state_here"] (defScope s_law_odd) := ⟨rfl, rfl, rfl, by decide +kernel, rfl, by decide +kernel, by decide +kernel⟩
theorem sc_law_bent : FnScope ["_law_state_here", "_law_thing", "_law_depth", "_law_way", "_law_at"] ["_law_state_here", "_law_thing", "_law_depth"] (defScope s_law_bent) := ⟨rfl, rfl, rfl, by decide +kernel, rfl, by decide +kernel, by decide +kernel⟩
theorem sc_law_applied_fits : FnScope ["_law_thing"] ["_law_thing"] (defScope s_law_applied_fits) := ⟨rfl, rfl, rfl, by decide +kernel, rfl, by decide +kernel, by decide +kernel⟩
theorem sc_law : FnScope ["_law_script", "_law_state_here", "_law_turn", "_law_letter_here", "_law_thing", "_law_was"] ["_law_script"] (defScope s_law) := ⟨rfl, rfl, rfl, by decide +kernel, rfl, by decide +kernel, by decide +kernel⟩
set_option genInjectivity false in
set_option genSizeOfSpec false in
structure Adr where
  f_is_number : Addr
  d_is_number : FuncData
  f_is_within : Addr
  d_is_within : FuncData
  f_is_place : Addr
  d_is_place : FuncData
  f_is_line : Addr
  d_is_line : FuncData
  f_is_line_and_place : Addr
  d_is_line_and_place : FuncData
  f_is_history : Addr
  d_is_history : FuncData
  f_is_key : Addr
  d_is_key : FuncData
  f_is_value : Addr
  d_is_value : FuncData
  f_is_word : Addr
  d_is_word : FuncData
  f_is_set : Addr
  d_is_set : FuncData
  f_is_cut : Addr
  d_is_cut : FuncData
  f_is_row : Addr
  d_is_row : FuncData
  f_is_house : Addr
  d_is_house : FuncData
  f_is_saying : Addr
  d_is_saying : FuncData
  f_is_addressed : Addr
  d_is_addressed : FuncData
  f_is_want : Addr
  d_is_want : FuncData
  f_is_rows_letter : Addr
  d_is_rows_letter : FuncData
  f_is_gone : Addr
  d_is_gone : FuncData
  f_is_letter : Addr
  d_is_letter : FuncData
  f_law_state : Addr
  d_law_state : FuncData
  f_law_next : Addr
  d_law_next : FuncData
  f_law_whole : Addr
  d_law_whole : FuncData
  f_law_key : Addr
  d_law_key : FuncData
  f_law_amount : Addr
  d_law_amount : FuncData
  f_law_row : Addr
  d_law_row : FuncData
  f_law_keys : Addr
  d_law_keys : FuncData
  f_law_says : Addr
  d_law_says : FuncData
  f_law_deep : Addr
  d_law_deep : FuncData
  f_law_upto : Addr
  d_law_upto : FuncData
  f_law_is_key : Addr
  d_law_is_key : FuncData
  f_law_is_row : Addr
  d_law_is_row : FuncData
  f_law_is_past : Addr
  d_law_is_past : FuncData
  f_law_is_said : Addr
  d_law_is_said : FuncData
  f_law_is_letter : Addr
  d_law_is_letter : FuncData
  f_law_place : Addr
  d_law_place : FuncData
  f_law_line : Addr
  d_law_line : FuncData
  f_law_past : Addr
  d_law_past : FuncData
  f_law_said : Addr
  d_law_said : FuncData
  f_law_letter : Addr
  d_law_letter : FuncData
  f_law_odd : Addr
  d_law_odd : FuncData
  f_law_bent : Addr
  d_law_bent : FuncData
  f_law_applied_fits : Addr
  d_law_applied_fits : FuncData
  f_law : Addr
  d_law : FuncData
  u_HOUSES : Value
  u_LAST_LINE : Value
  u_LAST_PLACE : Value
  u_LETTERS : Value
  u_LINES : Value
  u_LONGEST_KEY : Value
  u_MOST : Value
set_option genInjectivity false in
set_option genSizeOfSpec false in
structure Txt (P : Program) (K : PySem.W.Frag) (mg : Str → Option Value) (a : Adr) : Prop where
  sysK : SysK K
  c_HOUSES : mg "HOUSES" = some a.u_HOUSES ∧ RelV (.int 8) a.u_HOUSES
  c_LAST_LINE : mg "LAST_LINE" = some a.u_LAST_LINE ∧ RelV (.int 1000000000) a.u_LAST_LINE
  c_LAST_PLACE : mg "LAST_PLACE" = some a.u_LAST_PLACE ∧ RelV (.int 1000000) a.u_LAST_PLACE
  c_LETTERS : mg "LETTERS" = some a.u_LETTERS ∧ RelV (.int 2000) a.u_LETTERS
  c_LINES : mg "LINES" = some a.u_LINES ∧ RelV (.int 60) a.u_LINES
  c_LONGEST_KEY : mg "LONGEST_KEY" = some a.u_LONGEST_KEY ∧ RelV (.int 12) a.u_LONGEST_KEY
  c_MOST : mg "MOST" = some a.u_MOST ∧ RelV (.int 1000000000000000000) a.u_MOST
  b_abs : mg "abs" = none
  b_all : mg "all" = none
  b_bool : mg "bool" = none
  b_int : mg "int" = none
  b_isinstance : mg "isinstance" = none
  b_len : mg "len" = none
  b_list : mg "list" = none
  b_min : mg "min" = none
  b_range : mg "range" = none
  b_repr : mg "repr" = none
  b_str : mg "str" = none
  b_tuple : mg "tuple" = none
  b_zip : mg "zip" = none
  F_is_number : Fun K "is_number" "is_number" s_is_number a.f_is_number a.d_is_number
  m_is_number : mg "is_number" = some (.ref a.f_is_number)
  k_is_number : PySem.W.keepIn K (.ref a.f_is_number) = true
  bd_is_number : Binds K a.d_is_number ["thing"] []
  F_is_within : Fun K "is_within" "is_within" s_is_within a.f_is_within a.d_is_within
  m_is_within : mg "is_within" = some (.ref a.f_is_within)
  k_is_within : PySem.W.keepIn K (.ref a.f_is_within) = true
  bd_is_within : Binds K a.d_is_within ["thing", "least", "most"] []
  F_is_place : Fun K "is_place" "is_place" s_is_place a.f_is_place a.d_is_place
  m_is_place : mg "is_place" = some (.ref a.f_is_place)
  k_is_place : PySem.W.keepIn K (.ref a.f_is_place) = true
  bd_is_place : Binds K a.d_is_place ["thing"] []
  F_is_line : Fun K "is_line" "is_line" s_is_line a.f_is_line a.d_is_line
  m_is_line : mg "is_line" = some (.ref a.f_is_line)
  k_is_line : PySem.W.keepIn K (.ref a.f_is_line) = true
  bd_is_line : Binds K a.d_is_line ["thing"] []
  F_is_line_and_place : Fun K "is_line_and_place" "is_line_and_place" s_is_line_and_place a.f_is_line_and_place a.d_is_line_and_place
  m_is_line_and_place : mg "is_line_and_place" = some (.ref a.f_is_line_and_place)
  k_is_line_and_place : PySem.W.keepIn K (.ref a.f_is_line_and_place) = true
  bd_is_line_and_place : Binds K a.d_is_line_and_place ["thing"] []
  F_is_history : Fun K "is_history" "is_history" s_is_history a.f_is_history a.d_is_history
  m_is_history : mg "is_history" = some (.ref a.f_is_history)
  k_is_history : PySem.W.keepIn K (.ref a.f_is_history) = true
  bd_is_history : Binds K a.d_is_history ["thing"] []
  F_is_key : Fun K "is_key" "is_key" s_is_key a.f_is_key a.d_is_key
  m_is_key : mg "is_key" = some (.ref a.f_is_key)
  k_is_key : PySem.W.keepIn K (.ref a.f_is_key) = true
  bd_is_key : Binds K a.d_is_key ["thing"] []
  F_is_value : Fun K "is_value" "is_value" s_is_value a.f_is_value a.d_is_value
  m_is_value : mg "is_value" = some (.ref a.f_is_value)
  k_is_value : PySem.W.keepIn K (.ref a.f_is_value) = true
  bd_is_value : Binds K a.d_is_value ["thing"] []
  F_is_word : Fun K "is_word" "is_word" s_is_word a.f_is_word a.d_is_word
  m_is_word : mg "is_word" = some (.ref a.f_is_word)
  k_is_word : PySem.W.keepIn K (.ref a.f_is_word) = true
  bd_is_word : Binds K a.d_is_word ["thing", "word"] []
  F_is_set : Fun K "is_set" "is_set" s_is_set a.f_is_set a.d_is_set
  m_is_set : mg "is_set" = some (.ref a.f_is_set)
  k_is_set : PySem.W.keepIn K (.ref a.f_is_set) = true
  bd_is_set : Binds K a.d_is_set ["thing"] []
  F_is_cut : Fun K "is_cut" "is_cut" s_is_cut a.f_is_cut a.d_is_cut
  m_is_cut : mg "is_cut" = some (.ref a.f_is_cut)
  k_is_cut : PySem.W.keepIn K (.ref a.f_is_cut) = true
  bd_is_cut : Binds K a.d_is_cut ["thing"] []
  F_is_row : Fun K "is_row" "is_row" s_is_row a.f_is_row a.d_is_row
  m_is_row : mg "is_row" = some (.ref a.f_is_row)
  k_is_row : PySem.W.keepIn K (.ref a.f_is_row) = true
  bd_is_row : Binds K a.d_is_row ["thing"] []
  F_is_house : Fun K "is_house" "is_house" s_is_house a.f_is_house a.d_is_house
  m_is_house : mg "is_house" = some (.ref a.f_is_house)
  k_is_house : PySem.W.keepIn K (.ref a.f_is_house) = true
  kb_is_house : KBinds K a.d_is_house ["thing", "houses"] ["houses"] kg2 kg2
  F_is_saying : Fun K "is_saying" "is_saying" s_is_saying a.f_is_saying a.d_is_saying
  m_is_saying : mg "is_saying" = some (.ref a.f_is_saying)
  k_is_saying : PySem.W.keepIn K (.ref a.f_is_saying) = true
  bd_is_saying : Binds K a.d_is_saying ["thing"] []
  F_is_addressed : Fun K "is_addressed" "is_addressed" s_is_addressed a.f_is_addressed a.d_is_addressed
  m_is_addressed : mg "is_addressed" = some (.ref a.f_is_addressed)
  k_is_addressed : PySem.W.keepIn K (.ref a.f_is_addressed) = true
  bd_is_addressed : Binds K a.d_is_addressed ["thing"] []
  F_is_want : Fun K "is_want" "is_want" s_is_want a.f_is_want a.d_is_want
  m_is_want : mg "is_want" = some (.ref a.f_is_want)
  k_is_want : PySem.W.keepIn K (.ref a.f_is_want) = true
  bd_is_want : Binds K a.d_is_want ["thing"] []
  F_is_rows_letter : Fun K "is_rows_letter" "is_rows_letter" s_is_rows_letter a.f_is_rows_letter a.d_is_rows_letter
  m_is_rows_letter : mg "is_rows_letter" = some (.ref a.f_is_rows_letter)
  k_is_rows_letter : PySem.W.keepIn K (.ref a.f_is_rows_letter) = true
  bd_is_rows_letter : Binds K a.d_is_rows_letter ["thing"] []
  F_is_gone : Fun K "is_gone" "is_gone" s_is_gone a.f_is_gone a.d_is_gone
  m_is_gone : mg "is_gone" = some (.ref a.f_is_gone)
  k_is_gone : PySem.W.keepIn K (.ref a.f_is_gone) = true
  bd_is_gone : Binds K a.d_is_gone ["thing"] []
  F_is_letter : Fun K "is_letter" "is_letter" s_is_letter a.f_is_letter a.d_is_letter
  m_is_letter : mg "is_letter" = some (.ref a.f_is_letter)
  k_is_letter : PySem.W.keepIn K (.ref a.f_is_letter) = true
  bd_is_letter : Binds K a.d_is_letter ["thing"] []
  F_law_state : Fun K "_law_state" "_law_state" s_law_state a.f_law_state a.d_law_state
  m__law_state : mg "_law_state" = some (.ref a.f_law_state)
  k__law_state : PySem.W.keepIn K (.ref a.f_law_state) = true
  bd__law_state : Binds K a.d_law_state ["_law_script", "_law_seed"] []
  F_law_next : Fun K "_law_next" "_law_next" s_law_next a.f_law_next a.d_law_next
  m__law_next : mg "_law_next" = some (.ref a.f_law_next)
  k__law_next : PySem.W.keepIn K (.ref a.f_law_next) = true
  bd__law_next : Binds K a.d_law_next ["_law_state_here", "_law_below"] []
  F_law_whole : Fun K "_law_whole" "_law_whole" s_law_whole a.f_law_whole a.d_law_whole
  m__law_whole : mg "_law_whole" = some (.ref a.f_law_whole)
  k__law_whole : PySem.W.keepIn K (.ref a.f_law_whole) = true
  bd__law_whole : Binds K a.d_law_whole ["_law_found"] []
  F_law_key : Fun K "_law_key" "_law_key" s_law_key a.f_law_key a.d_law_key
  m__law_key : mg "_law_key" = some (.ref a.f_law_key)
  k__law_key : PySem.W.keepIn K (.ref a.f_law_key) = true
  bd__law_key : Binds K a.d_law_key ["_law_state_here"] []
  F_law_amount : Fun K "_law_amount" "_law_amount" s_law_amount a.f_law_amount a.d_law_amount
  m__law_amount : mg "_law_amount" = some (.ref a.f_law_amount)
  k__law_amount : PySem.W.keepIn K (.ref a.f_law_amount) = true
  bd__law_amount : Binds K a.d_law_amount ["_law_state_here"] []
  F_law_row : Fun K "_law_row" "_law_row" s_law_row a.f_law_row a.d_law_row
  m__law_row : mg "_law_row" = some (.ref a.f_law_row)
  k__law_row : PySem.W.keepIn K (.ref a.f_law_row) = true
  bd__law_row : Binds K a.d_law_row ["_law_state_here", "_law_keys_here"] []
  F_law_keys : Fun K "_law_keys" "_law_keys" s_law_keys a.f_law_keys a.d_law_keys
  m__law_keys : mg "_law_keys" = some (.ref a.f_law_keys)
  k__law_keys : PySem.W.keepIn K (.ref a.f_law_keys) = true
  bd__law_keys : Binds K a.d_law_keys ["_law_state_here"] []
  F_law_says : Fun K "_law_says" "_law_says" s_law_says a.f_law_says a.d_law_says
  m__law_says : mg "_law_says" = some (.ref a.f_law_says)
  k__law_says : PySem.W.keepIn K (.ref a.f_law_says) = true
  bd__law_says : Binds K a.d_law_says ["_law_found", "_law_due"] []
  F_law_deep : Fun K "_law_deep" "_law_deep" s_law_deep a.f_law_deep a.d_law_deep
  m__law_deep : mg "_law_deep" = some (.ref a.f_law_deep)
  k__law_deep : PySem.W.keepIn K (.ref a.f_law_deep) = true
  bd__law_deep : Binds K a.d_law_deep ["_law_many"] []
  F_law_upto : Fun K "_law_upto" "_law_upto" s_law_upto a.f_law_upto a.d_law_upto
  m__law_upto : mg "_law_upto" = some (.ref a.f_law_upto)
  k__law_upto : PySem.W.keepIn K (.ref a.f_law_upto) = true
  bd__law_upto : Binds K a.d_law_upto ["_law_thing", "_law_most"] []
  F_law_is_key : Fun K "_law_is_key" "_law_is_key" s_law_is_key a.f_law_is_key a.d_law_is_key
  m__law_is_key : mg "_law_is_key" = some (.ref a.f_law_is_key)
  k__law_is_key : PySem.W.keepIn K (.ref a.f_law_is_key) = true
  bd__law_is_key : Binds K a.d_law_is_key ["_law_thing"] []
  F_law_is_row : Fun K "_law_is_row" "_law_is_row" s_law_is_row a.f_law_is_row a.d_law_is_row
  m__law_is_row : mg "_law_is_row" = some (.ref a.f_law_is_row)
  k__law_is_row : PySem.W.keepIn K (.ref a.f_law_is_row) = true
  bd__law_is_row : Binds K a.d_law_is_row ["_law_thing"] []
  F_law_is_past : Fun K "_law_is_past" "_law_is_past" s_law_is_past a.f_law_is_past a.d_law_is_past
  m__law_is_past : mg "_law_is_past" = some (.ref a.f_law_is_past)
  k__law_is_past : PySem.W.keepIn K (.ref a.f_law_is_past) = true
  bd__law_is_past : Binds K a.d_law_is_past ["_law_thing"] []
  F_law_is_said : Fun K "_law_is_said" "_law_is_said" s_law_is_said a.f_law_is_said a.d_law_is_said
  m__law_is_said : mg "_law_is_said" = some (.ref a.f_law_is_said)
  k__law_is_said : PySem.W.keepIn K (.ref a.f_law_is_said) = true
  bd__law_is_said : Binds K a.d_law_is_said ["_law_thing"] []
  F_law_is_letter : Fun K "_law_is_letter" "_law_is_letter" s_law_is_letter a.f_law_is_letter a.d_law_is_letter
  m__law_is_letter : mg "_law_is_letter" = some (.ref a.f_law_is_letter)
  k__law_is_letter : PySem.W.keepIn K (.ref a.f_law_is_letter) = true
  bd__law_is_letter : Binds K a.d_law_is_letter ["_law_thing"] []
  F_law_place : Fun K "_law_place" "_law_place" s_law_place a.f_law_place a.d_law_place
  m__law_place : mg "_law_place" = some (.ref a.f_law_place)
  k__law_place : PySem.W.keepIn K (.ref a.f_law_place) = true
  bd__law_place : Binds K a.d_law_place ["_law_state_here"] []
  F_law_line : Fun K "_law_line" "_law_line" s_law_line a.f_law_line a.d_law_line
  m__law_line : mg "_law_line" = some (.ref a.f_law_line)
  k__law_line : PySem.W.keepIn K (.ref a.f_law_line) = true
  bd__law_line : Binds K a.d_law_line ["_law_state_here"] []
  F_law_past : Fun K "_law_past" "_law_past" s_law_past a.f_law_past a.d_law_past
  m__law_past : mg "_law_past" = some (.ref a.f_law_past)
  k__law_past : PySem.W.keepIn K (.ref a.f_law_past) = true
  bd__law_past : Binds K a.d_law_past ["_law_state_here"] []
  F_law_said : Fun K "_law_said" "_law_said" s_law_said a.f_law_said a.d_law_said
  m__law_said : mg "_law_said" = some (.ref a.f_law_said)
  k__law_said : PySem.W.keepIn K (.ref a.f_law_said) = true
  bd__law_said : Binds K a.d_law_said ["_law_state_here"] []
  F_law_letter : Fun K "_law_letter" "_law_letter" s_law_letter a.f_law_letter a.d_law_letter
  m__law_letter : mg "_law_letter" = some (.ref a.f_law_letter)
  k__law_letter : PySem.W.keepIn K (.ref a.f_law_letter) = true
  bd__law_letter : Binds K a.d_law_letter ["_law_state_here"] []
  F_law_odd : Fun K "_law_odd" "_law_odd" s_law_odd a.f_law_odd a.d_law_odd
  m__law_odd : mg "_law_odd" = some (.ref a.f_law_odd)
  k__law_odd : PySem.W.keepIn K (.ref a.f_law_odd) = true
  bd__law_odd : Binds K a.d_law_odd ["_law_state_here"] []
  F_law_bent : Fun K "_law_bent" "_law_bent" s_law_bent a.f_law_bent a.d_law_bent
  m__law_bent : mg "_law_bent" = some (.ref a.f_law_bent)
  k__law_bent : PySem.W.keepIn K (.ref a.f_law_bent) = true
  bd__law_bent : Binds K a.d_law_bent ["_law_state_here", "_law_thing", "_law_depth"] []
  F_law_applied_fits : Fun K "_law_applied_fits" "_law_applied_fits" s_law_applied_fits a.f_law_applied_fits a.d_law_applied_fits
  m__law_applied_fits : mg "_law_applied_fits" = some (.ref a.f_law_applied_fits)
  k__law_applied_fits : PySem.W.keepIn K (.ref a.f_law_applied_fits) = true
  bd__law_applied_fits : Binds K a.d_law_applied_fits ["_law_thing"] []
  F_law : Fun K "law" "law" s_law a.f_law a.d_law
  m_law : mg "law" = some (.ref a.f_law)
  k_law : PySem.W.keepIn K (.ref a.f_law) = true
  bd_law : Binds K a.d_law ["_law_script"] []
  dB_is_house : Binds K a.d_is_house ["thing", "houses"] [a.u_HOUSES]
  bl_law : ∀ (s : Shared) (u : Value), BindsTo s a.d_law ⟨[u], []⟩ [("_law_script", u)]
section
variable {P : Program} {w : World} {K : PySem.W.Frag} {mg : Str → Option Value} {base : Heap} {a : Adr}
noncomputable def sp_is_number (K : PySem.W.Frag) : Sp := fun vs H Q _ => ∃ (N : List Addr) (x : V) (d : PyData), vs = [x] ∧ Dt K N H x d ∧ Q (.bl (Mt.numD d)) H
theorem ok_is_number (T : Txt P K mg a)  : FnOk P w K mg base CX0 1 a.f_is_number a.d_is_number ["thing"] (sp_is_number K) := by
  refine T.F_is_number.ok sc_is_number (fun vs H Q E h => ?_) (fun cdv A outer s H vs Q E hr h => ?_)
  · obtain ⟨N, x, d, rfl, _⟩ := h; rfl
  · obtain ⟨N, x, d, rfl, hd, k⟩ := h
    refine exW ⟨_, (qss_one (qs_ret (pe_and (qe_callB cn_isi (by rfl) T.b_isinstance (by decide +kernel) (qa (pv 0 (by rfl) (by walk_at "vis") (by decide) (by decide)) (qa (pe_bltn (by rfl) T.b_int (by decide +kernel) (v := .ty "int") rfl (by decide) (by decide)) qa_nil (by rfl)) (by rfl)) (by decide) (by decide) (by rfl) (by rfl)) (pe_one (pe_not (qe_callB cn_isi (by rfl) T.b_isinstance (by decide +kernel) (qa (pv 0 (by rfl) (by walk_at "vis") (by decide) (by decide)) (qa (pe_bltn (by rfl) T.b_bool (by decide +kernel) (v := .ty "bool") rfl (by decide) (by decide)) qa_nil (by rfl)) (by rfl)) (by decide) (by decide) (by rfl) (by rfl))))))), ?_⟩
    try dsimp only [cxOf]
    walk_at "rd"
    cases d with
    | int i => dsimp only [isIntD]; walk_at "rd"; dsimp only [isBoolD]; walk_at "rd"; exact k
    | bool b => dsimp only [isIntD]; walk_at "rd"; dsimp only [isBoolD]; walk_at "rd"; exact k
    | _ => dsimp only [isIntD]; walk_at "rd"; exact k

noncomputable def sp_is_within (K : PySem.W.Frag) : Sp := fun vs H Q _ => ∃ (N : List Addr) (x : V) (d : PyData) (lo hi : Int), vs = [x, .int lo, .int hi] ∧ Dt K N H x d ∧ Q (.bl (Mt.withinD lo hi d)) H
theorem ok_is_within (T : Txt P K mg a) (G_is_number : FnOk P w K mg base CX0 1 a.f_is_number a.d_is_number ["thing"] (sp_is_number K)) : FnOk P w K mg base CX0 2 a.f_is_within a.d_is_within ["thing", "least", "most"] (sp_is_within K) := by
  refine T.F_is_within.ok sc_is_within (fun vs H Q E h => ?_) (fun cdv A outer s H vs Q E hr h => ?_)
  · obtain ⟨N, x, d, lo, hi, rfl, _⟩ := h; rfl
  · obtain ⟨N, x, d, lo, hi, rfl, hd, k⟩ := h
    refine exW ⟨_, (qss_one (qs_ret (pe_and (qe_call G_is_number (hr.mono (by decide)) (by rfl) T.m_is_number T.k_is_number T.bd_is_number .nil pass0 (qa (pv 0 (by rfl) (by walk_at "vis") (by decide) (by decide)) qa_nil (by rfl)) (by decide) (by rfl) (by rfl)) (pe_one (pe_chain op_le op_le (pv 1 (by rfl) (by walk_at "vis") (by decide) (by decide)) (pv 0 (by rfl) (by walk_at "vis") (by decide) (by decide)) (pv 2 (by rfl) (by walk_at "vis") (by decide) (by decide)) (by with_unfolding_all rfl)))))), ?_⟩
    try dsimp only [cxOf]
    walk_at "rd"
    refine ⟨N, x, d, rfl, hd, rd_bl' ?_⟩
    cases hd with
    | int i =>
      dsimp only [Mt.numD]
      walk_at "rd"
      refine rd_ite2 (fun hc => ?_) (fun hc => ?_)
      · walk_at "rd"
        simpa only [Mt.withinD, hc, Bool.true_and] using k
      · simpa only [Mt.withinD, hc, Bool.false_and] using k
    | _ => dsimp only [Mt.numD]; walk_at "rd"; exact k

noncomputable def sp_is_place (K : PySem.W.Frag) : Sp := fun vs H Q _ => ∃ (N : List Addr) (x : V) (d : PyData), vs = [x] ∧ Dt K N H x d ∧ Q (.bl (Mt.withinD 0 1000000 d)) H
theorem ok_is_place (T : Txt P K mg a) (G_is_within : FnOk P w K mg base CX0 2 a.f_is_within a.d_is_within ["thing", "least", "most"] (sp_is_within K)) : FnOk P w K mg base CX0 3 a.f_is_place a.d_is_place ["thing"] (sp_is_place K) := by
  refine T.F_is_place.ok sc_is_place (fun vs H Q E h => ?_) (fun cdv A outer s H vs Q E hr h => ?_)
  · obtain ⟨N, x, d, rfl, _⟩ := h; rfl
  · obtain ⟨N, x, d, rfl, hd, k⟩ := h
    refine exW ⟨_, (qss_one (qs_ret (qe_call G_is_within (hr.mono (by decide)) (by rfl) T.m_is_within T.k_is_within T.bd_is_within .nil pass0 (qa (pv 0 (by rfl) (by walk_at "vis") (by decide) (by decide)) (qa pe_int (qa (pe_glob (by rfl) T.c_LAST_PLACE.1 T.c_LAST_PLACE.2 (by decide)) qa_nil (by rfl)) (by rfl)) (by rfl)) (by decide) (by rfl) (by rfl)))), ?_⟩
    try dsimp only [cxOf]
    walk_at "rd"
    exact ⟨N, x, d, 0, 1000000, rfl, hd, k⟩

noncomputable def sp_is_line (K : PySem.W.Frag) : Sp := fun vs H Q _ => ∃ (N : List Addr) (x : V) (d : PyData), vs = [x] ∧ Dt K N H x d ∧ Q (.bl (Mt.withinD 0 1000000000 d)) H
theorem ok_is_line (T : Txt P K mg a) (G_is_within : FnOk P w K mg base CX0 2 a.f_is_within a.d_is_within ["thing", "least", "most"] (sp_is_within K)) : FnOk P w K mg base CX0 3 a.f_is_line a.d_is_line ["thing"] (sp_is_line K) := by
  refine T.F_is_line.ok sc_is_line (fun vs H Q E h => ?_) (fun cdv A outer s H vs Q E hr h => ?_)
  · obtain ⟨N, x, d, rfl, _⟩ := h; rfl
  · obtain ⟨N, x, d, rfl, hd, k⟩ := h
    refine exW ⟨_, (qss_one (qs_ret (qe_call G_is_within (hr.mono (by decide)) (by rfl) T.m_is_within T.k_is_within T.bd_is_within .nil pass0 (qa (pv 0 (by rfl) (by walk_at "vis") (by decide) (by decide)) (qa pe_int (qa (pe_glob (by rfl) T.c_LAST_LINE.1 T.c_LAST_LINE.2 (by decide)) qa_nil (by rfl)) (by rfl)) (by rfl)) (by decide) (by rfl) (by rfl)))), ?_⟩
    try dsimp only [cxOf]
    walk_at "rd"
    exact ⟨N, x, d, 0, 1000000000, rfl, hd, k⟩

noncomputable def sp_is_line_and_place (K : PySem.W.Frag) : Sp := fun vs H Q _ => ∃ (N : List Addr) (x : V) (d : PyData), vs = [x] ∧ Dt K N H x d ∧ Q (.bl (Mt.begunD d)) H
theorem ok_is_line_and_place (T : Txt P K mg a) (G_is_line : FnOk P w K mg base CX0 3 a.f_is_line a.d_is_line ["thing"] (sp_is_line K)) (G_is_place : FnOk P w K mg base CX0 3 a.f_is_place a.d_is_place ["thing"] (sp_is_place K)) : FnOk P w K mg base CX0 4 a.f_is_line_and_place a.d_is_line_and_place ["thing"] (sp_is_line_and_place K) := by
  refine T.F_is_line_and_place.ok sc_is_line_and_place (fun vs H Q E h => ?_) (fun cdv A outer s H vs Q E hr h => ?_)
  · obtain ⟨N, x, d, rfl, _⟩ := h; rfl
  · obtain ⟨N, x, d, rfl, hd, k⟩ := h
    refine exW ⟨_, (qss_one (qs_ret (pe_and (qe_callB cn_isi (by rfl) T.b_isinstance (by decide +kernel) (qa (pv 0 (by rfl) (by walk_at "vis") (by decide) (by decide)) (qa (pe_bltn (by rfl) T.b_tuple (by decide +kernel) (v := .ty "tuple") rfl (by decide) (by decide)) qa_nil (by rfl)) (by rfl)) (by decide) (by decide) (by rfl) (by rfl)) (pe_and (pe_cmpR op_eq (qe_callB cn_len (by rfl) T.b_len (by decide +kernel) (qa (pv 0 (by rfl) (by walk_at "vis") (by decide) (by decide)) qa_nil (by rfl)) (by decide) (by decide) (by rfl) (by rfl)) pe_int (nomark _)) (pe_and (qe_call G_is_line (hr.mono (by decide)) (by rfl) T.m_is_line T.k_is_line T.bd_is_line .nil pass0 (qa (pe_ix ix_tup (pv 0 (by rfl) (by walk_at "vis") (by decide) (by decide)) pe_int (fun _ _ => rfl)) qa_nil (by rfl)) (by decide) (by rfl) (by rfl)) (pe_one (qe_call G_is_place (hr.mono (by decide)) (by rfl) T.m_is_place T.k_is_place T.bd_is_place .nil pass0 (qa (pe_ix ix_tup (pv 0 (by rfl) (by walk_at "vis") (by decide) (by decide)) pe_int (fun _ _ => rfl)) qa_nil (by rfl)) (by decide) (by rfl) (by rfl)))))))), ?_⟩
    try dsimp only [cxOf]
    walk_at "rd"
    cases hd with
    | tup hq hn hr =>
      rename_i p xs ds
      dsimp only [isTupD]
      walk_at "rd"
      have hlen := hr.length
      refine rd_ite2 (fun hc => ?_) (fun hc => ?_)
      · have e2 : ds.length = 2 := by
          have := of_decide_eq_true hc
          injection this with this
          omega
        cases hr with
        | nil => simp at e2
        | cons q1 hr => cases hr with
          | nil => simp at e2
          | cons q2 hr => cases hr with
            | cons q3 hr => simp at e2
            | nil =>
              rename_i d1 x1 d2 x2
              walk_at "rd"
              refine ⟨N, _, _, rfl, q1, rd_bl' ?_⟩
              refine rd_ite2 (fun h1 => ?_) (fun h1 => ?_)
              · walk_at "rd"
                refine ⟨N, _, _, rfl, q2, ?_⟩
                simpa only [Mt.begunD, h1, Bool.true_and] using k
              · simpa only [Mt.begunD, h1, Bool.false_and] using k
      · have e2 : ds.length ≠ 2 := by
          intro e
          rw [hlen, e] at hc
          simp at hc
        have : Mt.begunD (.tuple ds) = false := by
          unfold Mt.begunD
          split
          · rename_i heq; cases heq; simp at e2
          · rfl
        rw [this] at k
        exact k
    | _ => dsimp only [isTupD]; walk_at "rd"; exact k

noncomputable def sp_is_history (K : PySem.W.Frag) : Sp := fun vs H Q _ => ∃ (N : List Addr) (x : V) (d : PyData), vs = [x] ∧ Dt K N H x d ∧ ∀ H', Same H H' → Q (.bl (Mt.histD d)) H'
theorem ok_is_history (T : Txt P K mg a) (G_is_line_and_place : FnOk P w K mg base CX0 4 a.f_is_line_and_place a.d_is_line_and_place ["thing"] (sp_is_line_and_place K)) : FnOk P w K mg base CX0 5 a.f_is_history a.d_is_history ["thing"] (sp_is_history K) := by
  refine T.F_is_history.ok sc_is_history (fun vs H Q E h => ?_) (fun cdv A outer s H vs Q E hr h => ?_)
  · obtain ⟨N, x, d, rfl, _⟩ := h; rfl
  · obtain ⟨N, x, d, rfl, hd, k⟩ := h
    refine exW ⟨_, (qss_cons (qs_if (pw_or (pt_not (pt_val (qe_callB cn_isi (by rfl) T.b_isinstance (by decide +kernel) (qa (pv 0 (by rfl) (by walk_at "vis") (by decide) (by decide)) (qa (pe_bltn (by rfl) T.b_tuple (by decide +kernel) (v := .ty "tuple") rfl (by decide) (by decide)) qa_nil (by rfl)) (by rfl)) (by decide) (by decide) (by rfl) (by rfl)) (by intro _; rfl))) (pw_or1 (pt_not (pt_chain op_le op_le pe_int (qe_callB cn_len (by rfl) T.b_len (by decide +kernel) (qa (pv 0 (by rfl) (by walk_at "vis") (by decide) (by decide)) qa_nil (by rfl)) (by decide) (by decide) (by rfl) (by rfl)) (pe_glob (by rfl) T.c_LINES.1 T.c_LINES.2 (by decide)) (by with_unfolding_all rfl))))).pt
        (qss_one (qs_ret pe_bl))
        qss_nil)
      (qss_cons (qs_if (pw_or (pt_not (pt_val (qe_callB (cn_all (by rfl)) (by rfl) T.b_all (by decide +kernel) (qa (by
        refine' pe_comp (NC := ["pair"]) (fr := [none]) ?B1 rfl ?hi1 ?hg1 ?ht1 ?he1 (by intro _; rfl)
        case B1 => exact ⟨rfl, rfl, by decide +kernel, by decide +kernel, rfl, ⟨trivial, trivial⟩⟩
        case hi1 => exact (pi_tup (pv 0 (by rfl) (by walk_at "vis") (by decide) (by decide)))
        case hg1 => intro _ _ _; exact (pg_name (i := 0) (show (["pair"] : List Str).Nodup by decide +kernel) rfl (Or.inl rfl) (by first | exact Or.inl rfl | exact Or.inr rfl))
        case ht1 => intro _ _ _; exact pf_nil
        case he1 => intro _ _ _; exact (qe_call G_is_line_and_place (hr.mono (by decide)) (by rfl) T.m_is_line_and_place T.k_is_line_and_place T.bd_is_line_and_place .nil pass0 (qa (pv 0 (by rfl) (by walk_at "vis") (by decide) (by decide)) qa_nil (by rfl)) (by decide) (by rfl) (by rfl))) qa_nil (by rfl)) (by decide) (by decide) (by rfl) (by rfl)) (by intro _; rfl))) (pw_or1 (pt_cmpR op_ne (pe_ix ix_tup (pe_ix ix_tup (pv 0 (by rfl) (by walk_at "vis") (by decide) (by decide)) pe_int (fun _ _ => rfl)) pe_int (fun _ _ => rfl)) pe_int (nomark _)))).pt
        (qss_one (qs_ret pe_bl))
        qss_nil)
      (qss_one (qs_ret (qe_callB (cn_all (by rfl)) (by rfl) T.b_all (by decide +kernel) (qa (by
        refine' pe_comp (NC := ["ahead", "behind"]) (fr := [none, none]) ?B2 rfl ?hi2 ?hg2 ?ht2 ?he2 (by intro _; rfl)
        case B2 => exact ⟨rfl, rfl, by decide +kernel, by decide +kernel, rfl, ⟨trivial, trivial, trivial⟩⟩
        case hi2 => exact (qi_zip (by rfl) T.b_zip (qa (pv 0 (by rfl) (by walk_at "vis") (by decide) (by decide)) (qa (pe_slice sl_tupG (pv 0 (by rfl) (by walk_at "vis") (by decide) (by decide)) (po_some pe_int) po_none) qa_nil (by rfl)) (by rfl)) (by rfl) (by rfl))
        case hg2 => intro _ _ _; exact (pg_tupK (K := K) (n := 2) (by rfl) rfl (pgs_cons (pg_name (i := 0) (show (["ahead", "behind"] : List Str).Nodup by decide +kernel) rfl (Or.inl rfl) (by first | exact Or.inl rfl | exact Or.inr rfl)) (pgs_cons (pg_name (i := 1) (show (["ahead", "behind"] : List Str).Nodup by decide +kernel) rfl (Or.inl rfl) (by first | exact Or.inl rfl | exact Or.inr rfl)) pgs_nil (by rfl)) (by rfl)) (by rfl) (by rfl))
        case ht2 => intro _ _ _; exact pf_nil
        case he2 => intro _ _ _; exact (pe_and (pe_cmpR op_lt (pe_ix (ix_tupK (K := K) (by rfl)) (pv 0 (by rfl) (by walk_at "vis") (by decide) (by decide)) pe_int (fun _ _ => rfl)) (pe_ix (ix_tupK (K := K) (by rfl)) (pv 1 (by rfl) (by walk_at "vis") (by decide) (by decide)) pe_int (fun _ _ => rfl)) (nomark _)) (pe_one (pe_cmpR op_le (pe_ix (ix_tupK (K := K) (by rfl)) (pv 0 (by rfl) (by walk_at "vis") (by decide) (by decide)) pe_int (fun _ _ => rfl)) (pe_ix (ix_tupK (K := K) (by rfl)) (pv 1 (by rfl) (by walk_at "vis") (by decide) (by decide)) pe_int (fun _ _ => rfl)) (nomark _))))) qa_nil (by rfl)) (by decide) (by decide) (by rfl) (by rfl)))))), ?_⟩
    try dsimp only [cxOf]
    walk_at "rd"
    cases hd with
    | tup hq hn hr =>
      rename_i p xs ds
      have hlen := hr.length
      dsimp only [isTupD]
      walk_at "rd"
      have short : ¬ (1 ≤ ds.length ∧ ds.length ≤ 60) → Q (.bl false) H := fun hs => by
        have e : Mt.histD (.tuple ds) = false := by
          simp only [Mt.histD, Bool.and_eq_false_iff, decide_eq_false_iff_not]
          omega
        have := k H (Same.refl H)
        rwa [e] at this
      refine rd_ite2 (fun h1 => ?_) (fun h1 => ?_)
      · walk_at "rd"
        refine rd_ite2 (fun h2 => ?_) (fun h2 => ?_)
        · have h2' := h2
          simp only [Bool.not_eq_true', decide_eq_false_iff_not] at h2'
          walk_at "rd"
          exact short (by omega)
        · have g1 := of_decide_eq_true h1
          simp only [Bool.not_eq_false', decide_eq_true_eq] at h2
          have l1 : 1 ≤ ds.length := by omega
          have l2 : ds.length ≤ 60 := by omega
          walk_at "rd"
          refine ⟨p, rfl, ⟨xs, hq⟩, ?_⟩
          intro acc hacc nka
          refine comp_by ds.length ?_ (fun i vs σc H' => Same H H' ∧ (∃ o, σc = [o]) ∧ vs = (ds.take i).map fun d => V.bl (Mt.begunD d)) ?_ ?_ ?_
          · have : sizeLine = 16777216 := rfl
            omega
          · exact ⟨(Same.refl H).upd2 hacc, ⟨none, rfl⟩, by simp⟩
          · rintro i vs σc H' hi hl ha ⟨sm, ⟨o, rfl⟩, rfl⟩
            obtain ⟨v, d, e1, e2, e3⟩ := hr.at hi
            refine ⟨⟨xs, v, sm.tupS hq, e1⟩, ?_⟩
            rintro x H2 ⟨rfl, hx⟩ R hR
            have ex := hx xs (sm.tupS hq)
            rw [e1] at ex; cases ex
            walk_at "rd"
            refine ⟨N, v, d, rfl, e3.ext (Ext.same sm), hR _ _ _ ha ⟨sm.upd2 hacc, ⟨some v, rfl⟩, ?_⟩⟩
            rw [List.take_add_one, e2]
            simp
          · rintro vs σc H' hl ha ⟨sm, _, rfl⟩
            refine ⟨⟨xs, sm.tupS hq, by omega⟩, ?_⟩
            rw [List.take_length] at ha
            have hbs : SqL K H' acc ((ds.map Mt.begunD).map V.bl) := SqL.of (by rw [ha, List.map_map]; rfl)
            walk_at "rd"
            refine rd_all hbs ?_
            have eall : (ds.map Mt.begunD).all id = ds.all Mt.begunD := by rw [List.all_map]; rfl
            rw [eall]
            walk_at "rd"
            have no : Mt.histD (.tuple ds) = false → ∀ H2, Same H H2 → Q (.bl false) H2 := fun e H2 s2 => by
              have := k H2 s2
              rwa [e] at this
            refine rd_ite2 (fun hb => ?_) (fun hb => ?_)
            · simp only [Bool.not_eq_true'] at hb
              walk_at "rd"
              exact no (Mt.hist_not_begun hb) _ sm
            · simp only [Bool.not_eq_false'] at hb
              have pairs : ∀ i, i < ds.length → ∃ v a b, xs[i]? = some v ∧ ds[i]? = some (.tuple [.int a, .int b]) ∧ ∃ q, v = .ref q ∧ SqT K H q [.int a, .int b] := fun i hi => by
                obtain ⟨v, d, e1, e2, e3⟩ := hr.at hi
                obtain ⟨a, b, rfl, _⟩ := Mt.begun_shape (List.all_eq_true.mp hb d (List.mem_of_getElem? e2))
                obtain ⟨q, rfl, hq2, _⟩ := e3.pair
                exact ⟨_, a, b, e1, e2, q, rfl, hq2⟩
              obtain ⟨v0, a0, b0, e1, e2, q0, rfl, hq0⟩ := pairs 0 (by omega)
              walk_at "rd"
              refine rd_ixT (sm.tupS hq) (atI_nat (j := 0) e1) ?_
              refine rd_c ?_
              refine rd_ixT (sm.tupS hq0) (atI_nat (j := 1) rfl) ?_
              walk_at "rd"
              have f0 : Mt.first0 ds = decide (b0 = 0) := by
                cases ds with
                | nil => simp at l1
                | cons d r => simp only [List.getElem?_cons_zero, Option.some.injEq] at e2; subst e2; rfl
              refine rd_ite2 (fun hz => ?_) (fun hz => ?_)
              · walk_at "rd"
                refine no ?_ _ sm
                have : Mt.first0 ds = false := by
                  rw [f0]
                  simpa using hz
                simp only [Mt.histD, this, Bool.and_false]
              · have hf : Mt.first0 ds = true := by
                  rw [f0]
                  simpa using hz
                walk_at "rd"
                refine rd_slG (sm.tupS hq) ?_
                intro q H2 _ s2 hq2
                rw [cutV_tail] at hq2
                walk_at "rd"
                have sm2 : Same H H2 := sm.trans s2
                refine ⟨p, q, rfl, ⟨xs, sm2.tupS hq⟩, ⟨xs.drop 1, hq2⟩, ?_⟩
                intro ac2 hac2 nka2
                refine comp_by (ds.length - 1) ?_ (fun i vs σc H' => Same H2 H' ∧ (∃ o1 o2, σc = [o1, o2]) ∧ vs = (List.range i).map fun j => V.bl (Mt.rise ds j)) ?_ ?_ ?_
                · have : sizeLine = 16777216 := rfl
                  omega
                · exact ⟨(Same.refl H2).upd2 hac2, ⟨none, none, rfl⟩, by simp⟩
                · rintro i vs σc H3 hi hl3 ha3 ⟨s3, ⟨o1, o2, rfl⟩, rfl⟩
                  obtain ⟨v1, a1, b1, f1, f2, r1, rfl, g1'⟩ := pairs i (by omega)
                  obtain ⟨v2, a2, b2, f3, f4, r2, rfl, g2'⟩ := pairs (i + 1) (by omega)
                  have f3' : (xs.drop 1)[i]? = some (.ref r2) := by rw [List.getElem?_drop, Nat.add_comm]; exact f3
                  have m3 : Same H H3 := sm2.trans s3
                  refine ⟨⟨xs, xs.drop 1, _, _, m3.tupS hq, s3.tupS hq2, f1, f3'⟩, ?_⟩
                  rintro x H4 ⟨t, y1, y2, ht, hy1, hy2, rfl, rfl⟩ R hR
                  have ey1 := hy1 xs (m3.tupS hq)
                  have ey2 := hy2 _ (s3.tupS hq2)
                  rw [f1] at ey1; cases ey1
                  rw [f3'] at ey2; cases ey2
                  have m4 : Same H (upd H3 t (.tup [.ref r1, .ref r2])) := m3.trans (Same.upd ht)
                  have k1 := m4.tupS g1'
                  have k2 := m4.tupS g2'
                  have nt : ac2 ≠ t := fun z => by rw [z, ht] at ha3; cases ha3
                  have ris : Mt.rise ds i = (decide (a1 < a2) && decide (b1 ≤ b2)) := by simp only [Mt.rise, f2, f4]
                  have fin : ∀ b : Bool, Mt.rise ds i = b → R [some (.ref r1), some (.ref r2)] (.bl b) (upd H3 t (.tup [.ref r1, .ref r2])) := fun b e => by
                    refine hR _ _ _ (by rw [upd_ne nt]; exact ha3) ⟨?_, ⟨_, _, rfl⟩, ?_⟩
                    · exact (s3.trans (Same.upd ht)).upd2 hac2
                    · rw [List.range_succ, List.map_append, ← e]; rfl
                  walk_at "rd"
                  refine rd_ite2 (fun hx => ?_) (fun hx => ?_)
                  · walk_at "rd"
                    exact fin _ (by rw [ris, hx, Bool.true_and])
                  · exact fin _ (by rw [ris, hx, Bool.false_and])
                · rintro vs σc H3 hl3 ha3 ⟨s3, _, rfl⟩
                  have m3 : Same H H3 := sm2.trans s3
                  refine ⟨⟨xs, xs.drop 1, m3.tupS hq, s3.tupS hq2, .inr (by rw [List.length_drop]; omega)⟩, ?_⟩
                  walk_at "rd"
                  have hbs2 : SqL K H3 ac2 (((List.range (ds.length - 1)).map (Mt.rise ds)).map V.bl) := SqL.of (by rw [ha3, List.map_map]; rfl)
                  refine rd_all hbs2 ?_
                  have := k H3 m3
                  rw [Mt.hist_of_begun l1 l2 hb hf] at this
                  rw [List.all_map]
                  exact this
      · walk_at "rd"
        simp only [decide_eq_false_iff_not] at h1
        exact short (by omega)
    | _ => dsimp only [isTupD]; walk_at "rd"; exact k H (Same.refl H)

noncomputable def sp_is_key (K : PySem.W.Frag) : Sp := fun vs H Q _ => ∃ (N : List Addr) (x : V) (d : PyData), vs = [x] ∧ Dt K N H x d ∧ d.weight ≤ 1000000 ∧ ∀ H', Same H H' → Q (.bl (Mt.keyD d)) H'
theorem ok_is_key (T : Txt P K mg a)  : FnOk P w K mg base CX0 1 a.f_is_key a.d_is_key ["thing"] (sp_is_key K) := by
  refine T.F_is_key.ok sc_is_key (fun vs H Q E h => ?_) (fun cdv A outer s H vs Q E hr h => ?_)
  · obtain ⟨N, x, d, rfl, _⟩ := h; rfl
  · obtain ⟨N, x, d, rfl, hd, hw, k⟩ := h
    refine exW ⟨_, (qss_cons (qs_if (pw_or (pt_not (pt_val (qe_callB cn_isi (by rfl) T.b_isinstance (by decide +kernel) (qa (pv 0 (by rfl) (by walk_at "vis") (by decide) (by decide)) (qa (pe_bltn (by rfl) T.b_str (by decide +kernel) (v := .ty "str") rfl (by decide) (by decide)) qa_nil (by rfl)) (by rfl)) (by decide) (by decide) (by rfl) (by rfl)) (by intro _; rfl))) (pw_or1 (pt_not (pt_chain op_le op_le pe_int (qe_callB cn_lenS (by rfl) T.b_len (by decide +kernel) (qa (pv 0 (by rfl) (by walk_at "vis") (by decide) (by decide)) qa_nil (by rfl)) (by decide) (by decide) (by rfl) (by rfl)) (pe_glob (by rfl) T.c_LONGEST_KEY.1 T.c_LONGEST_KEY.2 (by decide)) (by with_unfolding_all rfl))))).pt
        (qss_one (qs_ret pe_bl))
        qss_nil)
      (qss_one (qs_ret (qe_callB (cn_all (by rfl)) (by rfl) T.b_all (by decide +kernel) (qa (by
        refine' pe_comp (NC := ["letter"]) (fr := [none]) ?B3 rfl ?hi3 ?hg3 ?ht3 ?he3 (by intro _; rfl)
        case B3 => exact ⟨rfl, rfl, by decide +kernel, by decide +kernel, rfl, ⟨trivial, trivial⟩⟩
        case hi3 => exact (pi_str (pv 0 (by rfl) (by walk_at "vis") (by decide) (by decide)))
        case hg3 => intro _ _ _; exact (pg_name (i := 0) (show (["letter"] : List Str).Nodup by decide +kernel) rfl (Or.inl rfl) (by first | exact Or.inl rfl | exact Or.inr rfl))
        case ht3 => intro _ _ _; exact pf_nil
        case he3 => intro _ _ _; exact (pe_chain on_leS on_leS pe_str (pv 0 (by rfl) (by walk_at "vis") (by decide) (by decide)) pe_str (by with_unfolding_all rfl))) qa_nil (by rfl)) (by decide) (by decide) (by rfl) (by rfl))))), ?_⟩
    try dsimp only [cxOf]
    have k0 := k H (Same.refl H)
    walk_at "rd"
    cases hd with
    | str z =>
      have hz : z.length ≤ sizeLine := by
        have e : (PyData.str z).weight = z.length := rfl
        have : sizeLine = 16777216 := rfl
        omega
      dsimp only [isStrD]
      walk_at "rd"
      have short : ¬ (1 ≤ z.length ∧ z.length ≤ 12) → Q (.bl false) H := fun hs => by
        have e : Mt.keyD (.str z) = false := by
          simp only [Mt.keyD, Bool.and_eq_false_iff, decide_eq_false_iff_not]
          omega
        rwa [e] at k0
      refine rd_ite2 (fun h1 => ?_) (fun h1 => ?_)
      · walk_at "rd"
        refine rd_ite2 (fun h2 => ?_) (fun h2 => ?_)
        · simp only [Bool.not_eq_true', decide_eq_false_iff_not] at h2
          walk_at "rd"
          exact short (by omega)
        · have g1 := of_decide_eq_true h1
          simp only [Bool.not_eq_false', decide_eq_true_eq] at h2
          have l1 : 1 ≤ z.length := by omega
          have l2 : z.length ≤ 12 := by omega
          have lz : z.length = z.cps.toList.length := by simp [Str.length]
          walk_at "rd"
          refine ⟨z, rfl, ?_⟩
          intro acc hacc nka
          refine comp_by z.length ?_ (fun i vs σc H' => Same H H' ∧ (∃ o, σc = [o]) ∧ vs = (z.cps.toList.take i).map fun c => V.bl (lowC c)) ?_ ?_ ?_
          · have : sizeLine = 16777216 := rfl
            omega
          · exact ⟨(Same.refl H).upd2 hacc, ⟨none, rfl⟩, by simp⟩
          · rintro i vs σc H' hi hl ha ⟨sm, ⟨o, rfl⟩, rfl⟩
            refine ⟨hi, ?_⟩
            rintro x H2 ⟨rfl, c, hc, rfl⟩ R hR
            have fin : ∀ b : Bool, lowC c = b → R [some (.str (sgn c))] (.bl b) H2 := fun b e => by
              refine hR _ _ _ ha ⟨sm.upd2 hacc, ⟨_, rfl⟩, ?_⟩
              rw [List.take_add_one, show z.cps.toList[i]? = some c by rw [← hc]; simp, ← e]
              simp
            walk_at "rd"
            rw [ltS_a]
            refine rd_ite2 (fun hx => ?_) (fun hx => ?_)
            · walk_at "rd"
              rw [ltS_z]
              simp only [Bool.not_eq_true', decide_eq_false_iff_not] at hx
              refine fin _ ?_
              unfold lowC
              rw [decide_eq_true (by omega), Bool.true_and]
              by_cases h9 : c ≤ 122
              · rw [decide_eq_true h9, decide_eq_false (by omega)]; rfl
              · rw [decide_eq_false h9, decide_eq_true (by omega)]; rfl
            · simp only [Bool.not_eq_false', decide_eq_true_eq] at hx
              refine fin _ ?_
              unfold lowC
              rw [decide_eq_false (by omega), Bool.false_and]
          · rintro vs σc H' hl ha ⟨sm, _, rfl⟩
            refine ⟨rfl, ?_⟩
            rw [lz, List.take_length] at ha
            have hbs : SqL K H' acc ((z.cps.toList.map lowC).map V.bl) := SqL.of (by rw [ha, List.map_map]; rfl)
            walk_at "rd"
            refine rd_all hbs ?_
            have eall : (z.cps.toList.map lowC).all id = z.cps.toList.all lowC := by rw [List.all_map]; rfl
            rw [eall]
            have k1 := k H' sm
            have e : Mt.keyD (.str z) = z.cps.toList.all lowC := by
              rw [Mt.keyD_s, decide_eq_true l1, decide_eq_true l2]; rfl
            rwa [e] at k1
      · walk_at "rd"
        simp only [decide_eq_false_iff_not] at h1
        exact short (by omega)
    | _ => dsimp only [isStrD]; walk_at "rd"; exact k0

noncomputable def sp_is_value (K : PySem.W.Frag) : Sp := fun vs H Q _ => ∃ (N : List Addr) (x : V) (d : PyData), vs = [x] ∧ Dt K N H x d ∧ Q (.bl (Mt.withinD (-1000000000000000000) 1000000000000000000 d)) H
theorem ok_is_value (T : Txt P K mg a) (G_is_within : FnOk P w K mg base CX0 2 a.f_is_within a.d_is_within ["thing", "least", "most"] (sp_is_within K)) : FnOk P w K mg base CX0 3 a.f_is_value a.d_is_value ["thing"] (sp_is_value K) := by
  refine T.F_is_value.ok sc_is_value (fun vs H Q E h => ?_) (fun cdv A outer s H vs Q E hr h => ?_)
  · obtain ⟨N, x, d, rfl, _⟩ := h; rfl
  · obtain ⟨N, x, d, rfl, hd, k⟩ := h
    refine exW ⟨_, (qss_one (qs_ret (qe_call G_is_within (hr.mono (by decide)) (by rfl) T.m_is_within T.k_is_within T.bd_is_within .nil pass0 (qa (pv 0 (by rfl) (by walk_at "vis") (by decide) (by decide)) (qa (pe_un un_neg (pe_glob (by rfl) T.c_MOST.1 T.c_MOST.2 (by decide))) (qa (pe_glob (by rfl) T.c_MOST.1 T.c_MOST.2 (by decide)) qa_nil (by rfl)) (by rfl)) (by rfl)) (by decide) (by rfl) (by rfl)))), ?_⟩
    try dsimp only [cxOf]
    walk_at "rd"
    exact ⟨N, x, d, -1000000000000000000, 1000000000000000000, rfl, hd, k⟩

noncomputable def sp_is_word (K : PySem.W.Frag) : Sp := fun vs H Q _ => ∃ (N : List Addr) (x : V) (d : PyData) (w : Str), vs = [x, .str w] ∧ Dt K N H x d ∧ Q (.bl (Mt.strEq w d)) H
theorem ok_is_word (T : Txt P K mg a)  : FnOk P w K mg base CX0 1 a.f_is_word a.d_is_word ["thing", "word"] (sp_is_word K) := by
  refine T.F_is_word.ok sc_is_word (fun vs H Q E h => ?_) (fun cdv A outer s H vs Q E hr h => ?_)
  · obtain ⟨N, x, d, w, rfl, _⟩ := h; rfl
  · obtain ⟨N, x, d, w, rfl, hd, k⟩ := h
    refine exW ⟨_, (qss_one (qs_ret (pe_and (qe_callB cn_isi (by rfl) T.b_isinstance (by decide +kernel) (qa (pv 0 (by rfl) (by walk_at "vis") (by decide) (by decide)) (qa (pe_bltn (by rfl) T.b_str (by decide +kernel) (v := .ty "str") rfl (by decide) (by decide)) qa_nil (by rfl)) (by rfl)) (by decide) (by decide) (by rfl) (by rfl)) (pe_one (pe_cmpR op_eq (pv 0 (by rfl) (by walk_at "vis") (by decide) (by decide)) (pv 1 (by rfl) (by walk_at "vis") (by decide) (by decide)) (nomark _)))))), ?_⟩
    try dsimp only [cxOf]
    walk_at "rd"
    cases hd with
    | str s =>
      dsimp only [isStrD]
      walk_at "rd"
      have e : decide (V.str s = V.str w) = Mt.strEq w (.str s) := by
        show _ = decide (s = w)
        by_cases h : s = w
        · subst h; simp
        · simp [h]
      rw [e]
      exact k
    | _ => dsimp only [isStrD]; walk_at "rd"; exact k

noncomputable def sp_is_set (K : PySem.W.Frag) : Sp := fun vs H Q _ => ∃ (N : List Addr) (x : V) (ds : List PyData), vs = [x] ∧ Dt K N H x (.tuple ds) ∧ (PyData.tuple ds).weight ≤ 1000000 ∧ ∀ H', Same H H' → Q (.bl (Mt.setL ds)) H'
theorem ok_is_set (T : Txt P K mg a) (G_is_key : FnOk P w K mg base CX0 1 a.f_is_key a.d_is_key ["thing"] (sp_is_key K)) (G_is_value : FnOk P w K mg base CX0 3 a.f_is_value a.d_is_value ["thing"] (sp_is_value K)) (G_is_word : FnOk P w K mg base CX0 1 a.f_is_word a.d_is_word ["thing", "word"] (sp_is_word K)) : FnOk P w K mg base CX0 4 a.f_is_set a.d_is_set ["thing"] (sp_is_set K) := by
  refine T.F_is_set.ok sc_is_set (fun vs H Q E h => ?_) (fun cdv A outer s H vs Q E hr h => ?_)
  · obtain ⟨N, x, ds, rfl, _⟩ := h; rfl
  · obtain ⟨N, x, ds, rfl, hd, hw, k⟩ := h
    refine exW ⟨_, (qss_one (qs_ret (pe_and (pe_cmpR op_eq (qe_callB cn_len (by rfl) T.b_len (by decide +kernel) (qa (pv 0 (by rfl) (by walk_at "vis") (by decide) (by decide)) qa_nil (by rfl)) (by decide) (by decide) (by rfl) (by rfl)) pe_int (nomark _)) (pe_and (qe_call G_is_word (hr.mono (by decide)) (by rfl) T.m_is_word T.k_is_word T.bd_is_word .nil pass0 (qa (pe_ix ix_tup (pv 0 (by rfl) (by walk_at "vis") (by decide) (by decide)) pe_int (fun _ _ => rfl)) (qa pe_str qa_nil (by rfl)) (by rfl)) (by decide) (by rfl) (by rfl)) (pe_and (qe_call G_is_key (hr.mono (by decide)) (by rfl) T.m_is_key T.k_is_key T.bd_is_key .nil pass0 (qa (pe_ix ix_tup (pv 0 (by rfl) (by walk_at "vis") (by decide) (by decide)) pe_int (fun _ _ => rfl)) qa_nil (by rfl)) (by decide) (by rfl) (by rfl)) (pe_one (qe_call G_is_value (hr.mono (by decide)) (by rfl) T.m_is_value T.k_is_value T.bd_is_value .nil pass0 (qa (pe_ix ix_tup (pv 0 (by rfl) (by walk_at "vis") (by decide) (by decide)) pe_int (fun _ _ => rfl)) qa_nil (by rfl)) (by decide) (by rfl) (by rfl)))))))), ?_⟩
    try dsimp only [cxOf]
    have k0 := k H (Same.refl H)
    obtain ⟨b, ys, rfl, q, r⟩ := dt_tuple hd
    have ly := r.length
    walk_at "rq"
    by_cases hl : ys.length = 3
    · rw [show decide (V.int (ys.length : Int) = V.int 3) = true from decide_eq_true (by rw [hl]; rfl)]
      obtain ⟨y1, y2, y3, e1, e2, e3, rfl, rfl, r1, r2, r3⟩ := dt_3 r hl
      refine rd_iteT ?_
      walk_at "rq"
      refine ⟨N, y1, e1, _, rfl, r1, ?_⟩
      simp only [Mt.setL_3] at k k0
      cases h1 : Mt.strEq "set" e1 with
      | false => rw [h1] at k0; refine ⟨_, rfl, ?_⟩; refine rd_iteF ?_; exact k0
      | true =>
        refine ⟨_, rfl, ?_⟩
        refine rd_iteT ?_
        walk_at "rq"
        refine ⟨N, y2, e2, rfl, r2, PyData.wt_at (i := 1) rfl hw, fun H1 s1 => ?_⟩
        cases h2 : Mt.keyD e2 with
        | false => 
          have k1 := k H1 s1
          rw [h1, h2] at k1; refine ⟨_, rfl, ?_⟩; refine rd_iteF ?_; exact k1
        | true =>
          refine ⟨_, rfl, ?_⟩
          refine rd_iteT ?_
          have q := s1.tupS q
          walk_at "rq"
          refine ⟨N, y3, e3, rfl, r3.ext (Ext.same s1), ?_⟩
          have k1 := k H1 s1
          rw [h1, h2] at k1
          exact k1
    · rw [show decide (V.int (ys.length : Int) = V.int 3) = false from decide_eq_false (fun z => hl (by injection z with z; omega))]
      refine rd_iteF ?_
      rw [Mt.setL_len (by omega)] at k0
      exact k0

noncomputable def sp_is_cut (K : PySem.W.Frag) : Sp := fun vs H Q _ => ∃ (N : List Addr) (x : V) (ds : List PyData), vs = [x] ∧ Dt K N H x (.tuple ds) ∧ (PyData.tuple ds).weight ≤ 1000000 ∧ ∀ H', Same H H' → Q (.bl (Mt.cutL ds)) H'
theorem ok_is_cut (T : Txt P K mg a) (G_is_key : FnOk P w K mg base CX0 1 a.f_is_key a.d_is_key ["thing"] (sp_is_key K)) (G_is_word : FnOk P w K mg base CX0 1 a.f_is_word a.d_is_word ["thing", "word"] (sp_is_word K)) : FnOk P w K mg base CX0 2 a.f_is_cut a.d_is_cut ["thing"] (sp_is_cut K) := by
  refine T.F_is_cut.ok sc_is_cut (fun vs H Q E h => ?_) (fun cdv A outer s H vs Q E hr h => ?_)
  · obtain ⟨N, x, ds, rfl, _⟩ := h; rfl
  · obtain ⟨N, x, ds, rfl, hd, hw, k⟩ := h
    refine exW ⟨_, (qss_one (qs_ret (pe_and (pe_cmpR op_eq (qe_callB cn_len (by rfl) T.b_len (by decide +kernel) (qa (pv 0 (by rfl) (by walk_at "vis") (by decide) (by decide)) qa_nil (by rfl)) (by decide) (by decide) (by rfl) (by rfl)) pe_int (nomark _)) (pe_and (qe_call G_is_word (hr.mono (by decide)) (by rfl) T.m_is_word T.k_is_word T.bd_is_word .nil pass0 (qa (pe_ix ix_tup (pv 0 (by rfl) (by walk_at "vis") (by decide) (by decide)) pe_int (fun _ _ => rfl)) (qa pe_str qa_nil (by rfl)) (by rfl)) (by decide) (by rfl) (by rfl)) (pe_one (qe_call G_is_key (hr.mono (by decide)) (by rfl) T.m_is_key T.k_is_key T.bd_is_key .nil pass0 (qa (pe_ix ix_tup (pv 0 (by rfl) (by walk_at "vis") (by decide) (by decide)) pe_int (fun _ _ => rfl)) qa_nil (by rfl)) (by decide) (by rfl) (by rfl))))))), ?_⟩
    try dsimp only [cxOf]
    have k0 := k H (Same.refl H)
    obtain ⟨b, ys, rfl, q, r⟩ := dt_tuple hd
    have ly := r.length
    walk_at "rq"
    by_cases hl : ys.length = 2
    · rw [show decide (V.int (ys.length : Int) = V.int 2) = true from decide_eq_true (by rw [hl]; rfl)]
      obtain ⟨y1, y2, e1, e2, rfl, rfl, r1, r2⟩ := dt_2 r hl
      refine rd_iteT ?_
      walk_at "rq"
      refine ⟨N, y1, e1, _, rfl, r1, ?_⟩
      simp only [Mt.cutL_2] at k k0
      cases h1 : Mt.strEq "cut" e1 with
      | false => rw [h1] at k0; refine ⟨_, rfl, ?_⟩; refine rd_iteF ?_; exact k0
      | true =>
        refine ⟨_, rfl, ?_⟩
        refine rd_iteT ?_
        walk_at "rq"
        refine ⟨N, y2, e2, rfl, r2, PyData.wt_at (i := 1) rfl hw, fun H1 s1 => ?_⟩
        have k1 := k H1 s1
        rw [h1] at k1
        exact k1
    · rw [show decide (V.int (ys.length : Int) = V.int 2) = false from decide_eq_false (fun z => hl (by injection z with z; omega))]
      refine rd_iteF ?_
      rw [Mt.cutL_len (by omega)] at k0
      exact k0

noncomputable def sp_is_row (K : PySem.W.Frag) : Sp := fun vs H Q _ => ∃ (N : List Addr) (x : V) (d : PyData), vs = [x] ∧ Dt K N H x d ∧ d.weight ≤ 1000000 ∧ ∀ H', Same H H' → Q (.bl (Mt.rowD d)) H'
theorem ok_is_row (T : Txt P K mg a) (G_is_cut : FnOk P w K mg base CX0 2 a.f_is_cut a.d_is_cut ["thing"] (sp_is_cut K)) (G_is_set : FnOk P w K mg base CX0 4 a.f_is_set a.d_is_set ["thing"] (sp_is_set K)) : FnOk P w K mg base CX0 5 a.f_is_row a.d_is_row ["thing"] (sp_is_row K) := by
  refine T.F_is_row.ok sc_is_row (fun vs H Q E h => ?_) (fun cdv A outer s H vs Q E hr h => ?_)
  · obtain ⟨N, x, d, rfl, _⟩ := h; rfl
  · obtain ⟨N, x, d, rfl, hd, hw, k⟩ := h
    refine exW ⟨_, (qss_one (qs_ret (pe_and (qe_callB cn_isi (by rfl) T.b_isinstance (by decide +kernel) (qa (pv 0 (by rfl) (by walk_at "vis") (by decide) (by decide)) (qa (pe_bltn (by rfl) T.b_tuple (by decide +kernel) (v := .ty "tuple") rfl (by decide) (by decide)) qa_nil (by rfl)) (by rfl)) (by decide) (by decide) (by rfl) (by rfl)) (pe_one (pe_or (qe_call G_is_set (hr.mono (by decide)) (by rfl) T.m_is_set T.k_is_set T.bd_is_set .nil pass0 (qa (pv 0 (by rfl) (by walk_at "vis") (by decide) (by decide)) qa_nil (by rfl)) (by decide) (by rfl) (by rfl)) (pe_one (qe_call G_is_cut (hr.mono (by decide)) (by rfl) T.m_is_cut T.k_is_cut T.bd_is_cut .nil pass0 (qa (pv 0 (by rfl) (by walk_at "vis") (by decide) (by decide)) qa_nil (by rfl)) (by decide) (by rfl) (by rfl)))))))), ?_⟩
    try dsimp only [cxOf]
    have k0 := k H (Same.refl H)
    walk_at "rq"
    cases ht : isTupD d with
    | false =>
      rw [Mt.rowD_tup ht] at k0
      exact k0
    | true =>
      obtain ⟨es, rfl⟩ := Mt.tup_of ht
      refine rd_iteT ?_
      walk_at "rq"
      refine ⟨N, x, es, rfl, hd, hw, fun H1 s1 => ?_⟩
      have k1 := k H1 s1
      rw [Mt.rowD_t] at k1
      cases h1 : Mt.setL es with
      | true => rw [h1] at k1; refine ⟨_, rfl, ?_⟩; refine rd_iteT ?_; exact k1
      | false =>
        refine ⟨_, rfl, ?_⟩
        refine rd_iteF ?_
        walk_at "rq"
        refine ⟨N, x, es, rfl, hd.ext (Ext.same s1), hw, fun H2 s2 => ?_⟩
        have k2 := k H2 (s1.trans s2)
        rw [Mt.rowD_t] at k2
        rw [h1] at k2
        exact k2

noncomputable def sp_is_house (K : PySem.W.Frag) : Sp := fun vs H Q _ => ∃ (N : List Addr) (x : V) (d : PyData) (m : Int), vs = [x, .int m] ∧ Dt K N H x d ∧ Q (.bl (Mt.withinD 0 (m - 1) d)) H
theorem ok_is_house (T : Txt P K mg a) (G_is_within : FnOk P w K mg base CX0 2 a.f_is_within a.d_is_within ["thing", "least", "most"] (sp_is_within K)) : FnOk P w K mg base CX0 3 a.f_is_house a.d_is_house ["thing", "houses"] (sp_is_house K) := by
  refine T.F_is_house.ok sc_is_house (fun vs H Q E h => ?_) (fun cdv A outer s H vs Q E hr h => ?_)
  · obtain ⟨N, x, d, m, rfl, _⟩ := h; rfl
  · obtain ⟨N, x, d, m, rfl, hd, k⟩ := h
    refine exW ⟨_, (qss_one (qs_ret (qe_call G_is_within (hr.mono (by decide)) (by rfl) T.m_is_within T.k_is_within T.bd_is_within .nil pass0 (qa (pv 0 (by rfl) (by walk_at "vis") (by decide) (by decide)) (qa pe_int (qa (pe_op op_sub (pv 1 (by rfl) (by walk_at "vis") (by decide) (by decide)) pe_int) qa_nil (by rfl)) (by rfl)) (by rfl)) (by decide) (by rfl) (by rfl)))), ?_⟩
    try dsimp only [cxOf]
    walk_at "rd"
    exact ⟨N, x, d, 0, m - 1, rfl, hd, k⟩

noncomputable def sp_is_saying (K : PySem.W.Frag) : Sp := fun vs H Q _ => ∃ (N : List Addr) (x : V) (d : PyData), vs = [x] ∧ Dt K N H x d ∧ Q (.bl (Mt.sayD d)) H
theorem ok_is_saying (T : Txt P K mg a) (G_is_house : FnOk P w K mg base CX0 3 a.f_is_house a.d_is_house ["thing", "houses"] (sp_is_house K)) (G_is_line : FnOk P w K mg base CX0 3 a.f_is_line a.d_is_line ["thing"] (sp_is_line K)) (G_is_place : FnOk P w K mg base CX0 3 a.f_is_place a.d_is_place ["thing"] (sp_is_place K)) (G_is_within : FnOk P w K mg base CX0 2 a.f_is_within a.d_is_within ["thing", "least", "most"] (sp_is_within K)) : FnOk P w K mg base CX0 4 a.f_is_saying a.d_is_saying ["thing"] (sp_is_saying K) := by
  refine T.F_is_saying.ok sc_is_saying (fun vs H Q E h => ?_) (fun cdv A outer s H vs Q E hr h => ?_)
  · obtain ⟨N, x, d, rfl, _⟩ := h; rfl
  · obtain ⟨N, x, d, rfl, hd, k⟩ := h
    refine exW ⟨_, (qss_cons (qs_if (pw_or (pt_not (pt_val (qe_callB cn_isi (by rfl) T.b_isinstance (by decide +kernel) (qa (pv 0 (by rfl) (by walk_at "vis") (by decide) (by decide)) (qa (pe_bltn (by rfl) T.b_tuple (by decide +kernel) (v := .ty "tuple") rfl (by decide) (by decide)) qa_nil (by rfl)) (by rfl)) (by decide) (by decide) (by rfl) (by rfl)) (by intro _; rfl))) (pw_or1 (pt_cmpR op_ne (qe_callB cn_len (by rfl) T.b_len (by decide +kernel) (qa (pv 0 (by rfl) (by walk_at "vis") (by decide) (by decide)) qa_nil (by rfl)) (by decide) (by decide) (by rfl) (by rfl)) pe_int (nomark _)))).pt
        (qss_one (qs_ret pe_bl))
        qss_nil)
      (qss_cons (qs_asg (pv 0 (by rfl) (by walk_at "vis") (by decide) (by decide)) (pg_tup (n := 4) rfl (pgs_cons (pg_name (i := 1) (show (["thing", "house", "line", "end", "applied"] : List Str).Nodup by decide +kernel) rfl (Or.inl rfl) (by first | exact Or.inl rfl | exact Or.inr rfl)) (pgs_cons (pg_name (i := 2) (show (["thing", "house", "line", "end", "applied"] : List Str).Nodup by decide +kernel) rfl (Or.inl rfl) (by first | exact Or.inl rfl | exact Or.inr rfl)) (pgs_cons (pg_name (i := 3) (show (["thing", "house", "line", "end", "applied"] : List Str).Nodup by decide +kernel) rfl (Or.inl rfl) (by first | exact Or.inl rfl | exact Or.inr rfl)) (pgs_cons (pg_name (i := 4) (show (["thing", "house", "line", "end", "applied"] : List Str).Nodup by decide +kernel) rfl (Or.inl rfl) (by first | exact Or.inl rfl | exact Or.inr rfl)) pgs_nil (by rfl)) (by rfl)) (by rfl)) (by rfl)) (by rfl) (by rfl)) (by rfl) (by rfl) (by rfl))
      (qss_one (qs_ret (pe_and (qe_call G_is_house (hr.mono (by decide)) (by rfl) T.m_is_house T.k_is_house T.dB_is_house (.cons T.c_HOUSES.2 .nil) pass0 (qa (pv 1 (by rfl) (by walk_at "vis") (by decide) (by decide)) qa_nil (by rfl)) (by decide) (by rfl) (by rfl)) (pe_and (qe_call G_is_line (hr.mono (by decide)) (by rfl) T.m_is_line T.k_is_line T.bd_is_line .nil pass0 (qa (pv 2 (by rfl) (by walk_at "vis") (by decide) (by decide)) qa_nil (by rfl)) (by decide) (by rfl) (by rfl)) (pe_and (qe_call G_is_place (hr.mono (by decide)) (by rfl) T.m_is_place T.k_is_place T.bd_is_place .nil pass0 (qa (pv 3 (by rfl) (by walk_at "vis") (by decide) (by decide)) qa_nil (by rfl)) (by decide) (by rfl) (by rfl)) (pe_one (qe_call G_is_within (hr.mono (by decide)) (by rfl) T.m_is_within T.k_is_within T.bd_is_within .nil pass0 (qa (pv 4 (by rfl) (by walk_at "vis") (by decide) (by decide)) (qa pe_int (qa (pv 3 (by rfl) (by walk_at "vis") (by decide) (by decide)) qa_nil (by rfl)) (by rfl)) (by rfl)) (by decide) (by rfl) (by rfl)))))))))), ?_⟩
    try dsimp only [cxOf]
    have hd0 := hd
    walk_at "rq"
    cases ht : isTupD d with
    | false =>
      refine rd_iteT ?_
      refine rd_iteT ?_
      walk_at "rq"
      rw [Mt.sayD_tup ht] at k
      exact k
    | true =>
      obtain ⟨es, rfl⟩ := Mt.tup_of ht
      obtain ⟨b, ys, rfl, q, r⟩ := dt_tuple hd
      have ly := r.length
      refine rd_iteF ?_
      walk_at "rq"
      by_cases h4 : ys.length = 4
      · rw [show decide (V.int (ys.length : Int) = V.int 4) = true from decide_eq_true (by rw [h4]; rfl)]
        obtain ⟨y1, y2, y3, y4, e1, e2, e3, e4, rfl, rfl, r1, r2, r3, r4⟩ := dt_4 r h4
        refine rd_iteF ?_
        walk_at "rq"
        refine ⟨N, y1, e1, 8, rfl, r1, ?_⟩
        have k' : Q (.bl (Mt.sayC e1 e2 e3 e4)) H := k
        unfold Mt.sayC at k'
        rw [show (8 : Int) - 1 = 7 from rfl]
        cases h1 : Mt.withinD 0 7 e1 with
        | false => rw [h1] at k'; refine ⟨_, rfl, ?_⟩; refine rd_iteF ?_; exact k'
        | true =>
          refine ⟨_, rfl, ?_⟩
          refine rd_iteT ?_
          walk_at "rq"
          refine ⟨N, y2, e2, rfl, r2, ?_⟩
          cases h2 : Mt.withinD 0 1000000000 e2 with
          | false => rw [h1, h2] at k'; refine ⟨_, rfl, ?_⟩; refine rd_iteF ?_; exact k'
          | true =>
            refine ⟨_, rfl, ?_⟩
            refine rd_iteT ?_
            walk_at "rq"
            refine ⟨N, y3, e3, rfl, r3, ?_⟩
            cases h3 : Mt.withinD 0 1000000 e3 with
            | false => rw [h1, h2, h3] at k'; refine ⟨_, rfl, ?_⟩; refine rd_iteF ?_; exact k'
            | true =>
              obtain ⟨i3, rfl, _⟩ := Mt.within_int2 h3
              obtain rfl := dt_int r3
              refine ⟨_, rfl, ?_⟩
              refine rd_iteT ?_
              walk_at "rq"
              refine ⟨N, y4, e4, 0, i3, rfl, r4, ?_⟩
              rw [h1, h2, h3] at k'
              exact k'
      · rw [show decide (V.int (ys.length : Int) = V.int 4) = false from decide_eq_false (fun z => h4 (by injection z with z; omega))]
        refine rd_iteT ?_
        walk_at "rq"
        rw [Mt.sayD_len (by omega)] at k
        exact k

noncomputable def sp_is_addressed (K : PySem.W.Frag) : Sp := fun vs H Q _ => ∃ (N : List Addr) (x : V) (ds : List PyData), vs = [x] ∧ Dt K N H x (.tuple ds) ∧ Q (.bl (Mt.addrL ds)) H
theorem ok_is_addressed (T : Txt P K mg a) (G_is_house : FnOk P w K mg base CX0 3 a.f_is_house a.d_is_house ["thing", "houses"] (sp_is_house K)) (G_is_number : FnOk P w K mg base CX0 1 a.f_is_number a.d_is_number ["thing"] (sp_is_number K)) : FnOk P w K mg base CX0 4 a.f_is_addressed a.d_is_addressed ["thing"] (sp_is_addressed K) := by
  refine T.F_is_addressed.ok sc_is_addressed (fun vs H Q E h => ?_) (fun cdv A outer s H vs Q E hr h => ?_)
  · obtain ⟨N, x, ds, rfl, _⟩ := h; rfl
  · obtain ⟨N, x, ds, rfl, hd, k⟩ := h
    refine exW ⟨_, (qss_cons (qs_if (pw_or (pt_cmpR op_lt (qe_callB cn_len (by rfl) T.b_len (by decide +kernel) (qa (pv 0 (by rfl) (by walk_at "vis") (by decide) (by decide)) qa_nil (by rfl)) (by decide) (by decide) (by rfl) (by rfl)) pe_int (nomark _)) (pw_or (pt_not (pt_val (qe_call G_is_house (hr.mono (by decide)) (by rfl) T.m_is_house T.k_is_house T.dB_is_house (.cons T.c_HOUSES.2 .nil) pass0 (qa (pe_ix ix_tup (pv 0 (by rfl) (by walk_at "vis") (by decide) (by decide)) pe_int (fun _ _ => rfl)) qa_nil (by rfl)) (by decide) (by rfl) (by rfl)) (by intro _; rfl))) (pw_or1 (pt_not (pt_val (qe_call G_is_house (hr.mono (by decide)) (by rfl) T.m_is_house T.k_is_house T.dB_is_house (.cons T.c_HOUSES.2 .nil) pass0 (qa (pe_ix ix_tup (pv 0 (by rfl) (by walk_at "vis") (by decide) (by decide)) pe_int (fun _ _ => rfl)) qa_nil (by rfl)) (by decide) (by rfl) (by rfl)) (by intro _; rfl)))))).pt
        (qss_one (qs_ret pe_bl))
        qss_nil)
      (qss_one (qs_ret (pe_and (qe_call G_is_number (hr.mono (by decide)) (by rfl) T.m_is_number T.k_is_number T.bd_is_number .nil pass0 (qa (pe_ix ix_tup (pv 0 (by rfl) (by walk_at "vis") (by decide) (by decide)) pe_int (fun _ _ => rfl)) qa_nil (by rfl)) (by decide) (by rfl) (by rfl)) (pe_one (pe_cmpR op_ge (pe_ix ix_tup (pv 0 (by rfl) (by walk_at "vis") (by decide) (by decide)) pe_int (fun _ _ => rfl)) pe_int (nomark _))))))), ?_⟩
    try dsimp only [cxOf]
    obtain ⟨b, ys, rfl, q, r⟩ := dt_tuple hd
    have ly := r.length
    walk_at "rq"
    by_cases hl : ys.length < 5
    · rw [show decide ((ys.length : Int) < 5) = true from decide_eq_true (by omega)]
      refine rd_iteT ?_
      walk_at "rq"
      rw [Mt.addrL_len (by omega)] at k
      exact k
    · rw [show decide ((ys.length : Int) < 5) = false from decide_eq_false (by omega)]
      refine rd_iteF ?_
      obtain ⟨y1, y2, y3, y4, y5, yr, e1, e2, e3, e4, e5, er, rfl, rfl, r1, r2, r3, r4, r5, r⟩ := Mt.dt_more r (by omega)
      rw [Mt.addrL_5] at k
      walk_at "rq"
      refine rd_ixT q (atI_nat (j := 1) rfl) ?_
      walk_at "rq"
      refine ⟨N, y2, e2, 8, rfl, r2, ?_⟩
      rw [show (8 : Int) - 1 = 7 from rfl]
      cases h2 : Mt.withinD 0 7 e2 with
      | false =>
        rw [h2] at k
        refine rd_bl' ?_
        refine rd_iteT ?_
        walk_at "rq"
        exact k
      | true =>
        refine rd_bl' ?_
        refine rd_iteF ?_
        walk_at "rq"
        refine rd_ixT q (atI_nat (j := 2) rfl) ?_
        walk_at "rq"
        refine ⟨N, y3, e3, 8, rfl, r3, ?_⟩
        rw [show (8 : Int) - 1 = 7 from rfl]
        cases h3 : Mt.withinD 0 7 e3 with
        | false =>
          rw [h2, h3] at k
          refine rd_bl' ?_
          refine rd_iteT ?_
          walk_at "rq"
          exact k
        | true =>
          refine rd_bl' ?_
          refine rd_iteF ?_
          walk_at "rq"
          refine rd_ixT q (atI_nat (j := 3) rfl) ?_
          walk_at "rq"
          refine ⟨N, y4, e4, rfl, r4, ?_⟩
          rw [h2, h3] at k
          cases h4 : Mt.numD e4 with
          | false =>
            rw [h4] at k
            refine ⟨_, rfl, ?_⟩
            refine rd_iteF ?_
            exact k
          | true =>
            obtain ⟨i, rfl⟩ := Mt.numD_int h4
            obtain rfl := dt_int r4
            refine ⟨_, rfl, ?_⟩
            refine rd_iteT ?_
            walk_at "rq"
            refine rd_ixT q (atI_nat (j := 3) rfl) ?_
            walk_at "rq"
            exact k

noncomputable def sp_is_want (K : PySem.W.Frag) : Sp := fun vs H Q _ => ∃ (N : List Addr) (x : V) (ds : List PyData), vs = [x] ∧ Dt K N H x (.tuple ds) ∧ (PyData.tuple ds).weight ≤ 1000000 ∧ ∀ H', Same H H' → Q (.bl (Mt.wantL ds)) H'
theorem ok_is_want (T : Txt P K mg a) (G_is_saying : FnOk P w K mg base CX0 4 a.f_is_saying a.d_is_saying ["thing"] (sp_is_saying K)) (G_is_word : FnOk P w K mg base CX0 1 a.f_is_word a.d_is_word ["thing", "word"] (sp_is_word K)) : FnOk P w K mg base CX0 5 a.f_is_want a.d_is_want ["thing"] (sp_is_want K) := by
  refine T.F_is_want.ok sc_is_want (fun vs H Q E h => ?_) (fun cdv A outer s H vs Q E hr h => ?_)
  · obtain ⟨N, x, ds, rfl, _⟩ := h; rfl
  · obtain ⟨N, x, ds, rfl, hd, hw, k⟩ := h
    refine exW ⟨_, (qss_cons (qs_if (pw_or (pt_cmpR op_ne (qe_callB cn_len (by rfl) T.b_len (by decide +kernel) (qa (pv 0 (by rfl) (by walk_at "vis") (by decide) (by decide)) qa_nil (by rfl)) (by decide) (by decide) (by rfl) (by rfl)) pe_int (nomark _)) (pw_or (pt_not (pt_val (qe_call G_is_word (hr.mono (by decide)) (by rfl) T.m_is_word T.k_is_word T.bd_is_word .nil pass0 (qa (pe_ix ix_tup (pv 0 (by rfl) (by walk_at "vis") (by decide) (by decide)) pe_int (fun _ _ => rfl)) (qa pe_str qa_nil (by rfl)) (by rfl)) (by decide) (by rfl) (by rfl)) (by intro _; rfl))) (pw_or1 (pt_not (pt_val (qe_callB cn_isi (by rfl) T.b_isinstance (by decide +kernel) (qa (pe_ix ix_tup (pv 0 (by rfl) (by walk_at "vis") (by decide) (by decide)) pe_int (fun _ _ => rfl)) (qa (pe_bltn (by rfl) T.b_tuple (by decide +kernel) (v := .ty "tuple") rfl (by decide) (by decide)) qa_nil (by rfl)) (by rfl)) (by decide) (by decide) (by rfl) (by rfl)) (by intro _; rfl)))))).pt
        (qss_one (qs_ret pe_bl))
        qss_nil)
      (qss_cons (qs_set (i := 1) sc_is_want.nd rfl (Or.inl rfl) (pe_op op_catG (qe_tupA (qa (pe_ix ix_tup (pv 0 (by rfl) (by walk_at "vis") (by decide) (by decide)) pe_int (fun _ _ => rfl)) qa_nil (by rfl))) (pe_slice sl_tupG (pv 0 (by rfl) (by walk_at "vis") (by decide) (by decide)) (po_some pe_int) (po_some pe_int))) (by rfl) (by first | exact Or.inl rfl | exact Or.inr rfl))
      (qss_one (qs_ret (pe_and (qe_call G_is_saying (hr.mono (by decide)) (by rfl) T.m_is_saying T.k_is_saying T.bd_is_saying .nil pass0 (qa (pv 1 (by rfl) (by walk_at "vis") (by decide) (by decide)) qa_nil (by rfl)) (by decide) (by rfl) (by rfl)) (pe_one (qe_callB (cn_all (by rfl)) (by rfl) T.b_all (by decide +kernel) (qa (by
        refine' pe_comp (NC := ["saying"]) (fr := [none]) ?B4 rfl ?hi4 ?hg4 ?ht4 ?he4 (by intro _; rfl)
        case B4 => exact ⟨rfl, rfl, by decide +kernel, by decide +kernel, rfl, ⟨trivial, trivial⟩⟩
        case hi4 => exact (pi_tup (pe_ix ix_tup (pv 0 (by rfl) (by walk_at "vis") (by decide) (by decide)) pe_int (fun _ _ => rfl)))
        case hg4 => intro _ _ _; exact (pg_name (i := 0) (show (["saying"] : List Str).Nodup by decide +kernel) rfl (Or.inl rfl) (by first | exact Or.inl rfl | exact Or.inr rfl))
        case ht4 => intro _ _ _; exact pf_nil
        case he4 => intro _ _ _; exact (qe_call G_is_saying (hr.mono (by decide)) (by rfl) T.m_is_saying T.k_is_saying T.bd_is_saying .nil pass0 (qa (pv 0 (by rfl) (by walk_at "vis") (by decide) (by decide)) qa_nil (by rfl)) (by decide) (by rfl) (by rfl))) qa_nil (by rfl)) (by decide) (by decide) (by rfl) (by rfl)))))))), ?_⟩
    try dsimp only [cxOf]
    have k0 := k H (Same.refl H)
    obtain ⟨b, ys, rfl, q, r⟩ := dt_tuple hd.nil
    have ly := r.length
    walk_at "rq"
    by_cases hl : ys.length = 8
    · rw [show decide (V.int (ys.length : Int) = V.int 8) = true from decide_eq_true (by rw [hl]; rfl)]
      obtain ⟨y1, y2, y3, y4, y5, y6, y7, y8, e1, e2, e3, e4, e5, e6, e7, e8, rfl, rfl, r1, r2, r3, r4, r5, r6, r7, r8⟩ := dt_8 r hl
      refine rd_iteF ?_
      walk_at "rq"
      refine ⟨[], y1, e1, _, rfl, r1, ?_⟩
      cases h1 : Mt.strEq "want" e1 with
      | false =>
        have z : Mt.wantL [e1, e2, e3, e4, e5, e6, e7, e8] = false := by
          cases hz : isTupD e8 with
          | false => exact Mt.wantL_t hz
          | true => obtain ⟨rs, rfl⟩ := Mt.tup_of hz; rw [Mt.wantL_8, h1]; rfl
        rw [z] at k0
        refine rd_bl' ?_
        refine rd_iteT ?_
        walk_at "rq"
        exact k0
      | true =>
        refine rd_bl' ?_
        refine rd_iteF ?_
        walk_at "rq"
        cases hz : isTupD e8 with
        | false =>
          rw [Mt.wantL_t hz] at k0
          refine rd_iteT ?_
          walk_at "rq"
          exact k0
        | true =>
          obtain ⟨rs, rfl⟩ := Mt.tup_of hz
          obtain ⟨b8, zs, rfl, q8, r8'⟩ := dt_tuple r8
          simp only [Mt.wantL_8, h1, Bool.true_and] at k k0
          refine rd_iteF ?_
          walk_at "rq"
          refine ⟨sz (by simp), fun t1 H1 n1 s1 g1 => ?_⟩
          walk_at "rq"
          refine rd_slG (s1.tupS q) ?_
          intro q2 H2 _ s2 g2
          rw [show cutV [y1, y2, y3, y4, y5, y6, y7, V.ref b8] (some 4) (some 7) = [y5, y6, y7] from rfl] at g2
          walk_at "rq"
          refine rd_catG (SqT.of (s2 _ _ g1)) g2 (sz (by simp)) fun t3 H3 _ s3 g3 => ?_
          have s03 : Same H H3 := (s1.trans s2).trans s3
          walk_at "rq"
          refine ⟨[], .ref t3, .tuple [e2, e5, e6, e7], rfl, .tup g3 (by simp) (.cons (r2.ext (Ext.same s03)) (.cons (r5.ext (Ext.same s03)) (.cons (r6.ext (Ext.same s03)) (.cons (r7.ext (Ext.same s03)) .nil)))), ?_⟩
          rw [show Mt.sayD (.tuple [e2, e5, e6, e7]) = Mt.sayC e2 e5 e6 e7 from rfl]
          cases h5 : Mt.sayC e2 e5 e6 e7 with
          | false =>
            have k1 := k H3 s03
            rw [h5] at k1
            refine ⟨_, rfl, ?_⟩
            refine rd_iteF ?_
            exact k1
          | true =>
            simp only [h5, Bool.true_and] at k
            refine ⟨_, rfl, ?_⟩
            refine rd_iteT ?_
            have q := s03.tupS q
            walk_at "rq"
            have wr : (PyData.tuple rs).weight ≤ 1000000 := PyData.wt_at (i := 7) rfl hw
            refine ⟨b8, rfl, ⟨zs, s03.tupS q8⟩, ?_⟩
            intro acc hacc nka
            have lz := r8'.length
            refine comp_by rs.length ?_ (fun i vs σc H' => Same H3 H' ∧ (∃ o, σc = [o]) ∧ vs = (rs.take i).map fun d => V.bl (Mt.sayD d)) ?_ ?_ ?_
            · exact PyData.wt_lt wr
            · exact ⟨(Same.refl H3).upd2 hacc, ⟨none, rfl⟩, by simp⟩
            · rintro i vs σc H' hi hl' ha ⟨sm, ⟨o, rfl⟩, rfl⟩
              obtain ⟨v, d, f1, f2, f3⟩ := r8'.at hi
              refine ⟨⟨zs, v, (s03.trans sm).tupS q8, f1⟩, ?_⟩
              rintro x H2 ⟨rfl, hx⟩ R hR
              have ex := hx zs ((s03.trans sm).tupS q8)
              rw [f1] at ex; cases ex
              walk_at "rq"
              refine ⟨[], v, d, rfl, f3.ext (Ext.same (s03.trans sm)), ?_⟩
              refine hR _ _ _ ha ⟨sm.upd2 hacc, ⟨some v, rfl⟩, ?_⟩
              rw [List.take_add_one, f2]
              simp
            · rintro vs σc H' hl' ha ⟨sm, _, rfl⟩
              refine ⟨⟨zs, (s03.trans sm).tupS q8, by omega⟩, ?_⟩
              rw [List.take_length] at ha
              have hbs : SqL K H' acc ((rs.map Mt.sayD).map V.bl) := SqL.of (by rw [ha, List.map_map]; rfl)
              walk_at "rq"
              refine rd_all hbs ?_
              have eall : (rs.map Mt.sayD).all id = rs.all Mt.sayD := by rw [List.all_map]; rfl
              rw [eall]
              exact k _ (s03.trans sm)
    · rw [show decide (V.int (ys.length : Int) = V.int 8) = false from decide_eq_false (fun z => hl (by injection z with z; omega))]
      refine rd_iteT ?_
      walk_at "rq"
      rw [Mt.wantL_len (by omega)] at k0
      exact k0

noncomputable def sp_is_rows_letter (K : PySem.W.Frag) : Sp := fun vs H Q _ => ∃ (N : List Addr) (x : V) (ds : List PyData), vs = [x] ∧ Dt K N H x (.tuple ds) ∧ (PyData.tuple ds).weight ≤ 1000000 ∧ ∀ H', Same H H' → Q (.bl (Mt.rowsL ds)) H'
theorem ok_is_rows_letter (T : Txt P K mg a) (G_is_history : FnOk P w K mg base CX0 5 a.f_is_history a.d_is_history ["thing"] (sp_is_history K)) (G_is_place : FnOk P w K mg base CX0 3 a.f_is_place a.d_is_place ["thing"] (sp_is_place K)) (G_is_row : FnOk P w K mg base CX0 5 a.f_is_row a.d_is_row ["thing"] (sp_is_row K)) (G_is_word : FnOk P w K mg base CX0 1 a.f_is_word a.d_is_word ["thing", "word"] (sp_is_word K)) : FnOk P w K mg base CX0 6 a.f_is_rows_letter a.d_is_rows_letter ["thing"] (sp_is_rows_letter K) := by
  refine T.F_is_rows_letter.ok sc_is_rows_letter (fun vs H Q E h => ?_) (fun cdv A outer s H vs Q E hr h => ?_)
  · obtain ⟨N, x, ds, rfl, _⟩ := h; rfl
  · obtain ⟨N, x, ds, rfl, hd, hw, k⟩ := h
    refine exW ⟨_, (qss_cons (qs_if (pw_or (pt_cmpR op_ne (qe_callB cn_len (by rfl) T.b_len (by decide +kernel) (qa (pv 0 (by rfl) (by walk_at "vis") (by decide) (by decide)) qa_nil (by rfl)) (by decide) (by decide) (by rfl) (by rfl)) pe_int (nomark _)) (pw_or (pt_not (pt_val (qe_call G_is_word (hr.mono (by decide)) (by rfl) T.m_is_word T.k_is_word T.bd_is_word .nil pass0 (qa (pe_ix ix_tup (pv 0 (by rfl) (by walk_at "vis") (by decide) (by decide)) pe_int (fun _ _ => rfl)) (qa pe_str qa_nil (by rfl)) (by rfl)) (by decide) (by rfl) (by rfl)) (by intro _; rfl))) (pw_or1 (pt_not (pt_val (qe_callB cn_isi (by rfl) T.b_isinstance (by decide +kernel) (qa (pe_ix ix_tup (pv 0 (by rfl) (by walk_at "vis") (by decide) (by decide)) pe_int (fun _ _ => rfl)) (qa (pe_bltn (by rfl) T.b_tuple (by decide +kernel) (v := .ty "tuple") rfl (by decide) (by decide)) qa_nil (by rfl)) (by rfl)) (by decide) (by decide) (by rfl) (by rfl)) (by intro _; rfl)))))).pt
        (qss_one (qs_ret pe_bl))
        qss_nil)
      (qss_one (qs_ret (pe_and (qe_call G_is_history (hr.mono (by decide)) (by rfl) T.m_is_history T.k_is_history T.bd_is_history .nil pass0 (qa (pe_ix ix_tup (pv 0 (by rfl) (by walk_at "vis") (by decide) (by decide)) pe_int (fun _ _ => rfl)) qa_nil (by rfl)) (by decide) (by rfl) (by rfl)) (pe_and (qe_call G_is_place (hr.mono (by decide)) (by rfl) T.m_is_place T.k_is_place T.bd_is_place .nil pass0 (qa (pe_ix ix_tup (pv 0 (by rfl) (by walk_at "vis") (by decide) (by decide)) pe_int (fun _ _ => rfl)) qa_nil (by rfl)) (by decide) (by rfl) (by rfl)) (pe_one (qe_callB (cn_all (by rfl)) (by rfl) T.b_all (by decide +kernel) (qa (by
        refine' pe_comp (NC := ["row"]) (fr := [none]) ?B5 rfl ?hi5 ?hg5 ?ht5 ?he5 (by intro _; rfl)
        case B5 => exact ⟨rfl, rfl, by decide +kernel, by decide +kernel, rfl, ⟨trivial, trivial⟩⟩
        case hi5 => exact (pi_tup (pe_ix ix_tup (pv 0 (by rfl) (by walk_at "vis") (by decide) (by decide)) pe_int (fun _ _ => rfl)))
        case hg5 => intro _ _ _; exact (pg_name (i := 0) (show (["row"] : List Str).Nodup by decide +kernel) rfl (Or.inl rfl) (by first | exact Or.inl rfl | exact Or.inr rfl))
        case ht5 => intro _ _ _; exact pf_nil
        case he5 => intro _ _ _; exact (qe_call G_is_row (hr.mono (by decide)) (by rfl) T.m_is_row T.k_is_row T.bd_is_row .nil pass0 (qa (pv 0 (by rfl) (by walk_at "vis") (by decide) (by decide)) qa_nil (by rfl)) (by decide) (by rfl) (by rfl))) qa_nil (by rfl)) (by decide) (by decide) (by rfl) (by rfl)))))))), ?_⟩
    try dsimp only [cxOf]
    have k0 := k H (Same.refl H)
    obtain ⟨b, ys, rfl, q, r⟩ := dt_tuple hd
    have ly := r.length
    walk_at "rq"
    by_cases hl : ys.length = 7
    · rw [show decide (V.int (ys.length : Int) = V.int 7) = true from decide_eq_true (by rw [hl]; rfl)]
      obtain ⟨y1, y2, y3, y4, y5, y6, y7, e1, e2, e3, e4, e5, e6, e7, rfl, rfl, r1, r2, r3, r4, r5, r6, r7⟩ := dt_7 r hl
      refine rd_iteF ?_
      walk_at "rq"
      refine ⟨N, y1, e1, _, rfl, r1, ?_⟩
      cases h1 : Mt.strEq "rows" e1 with
      | false =>
        have z : Mt.rowsL [e1, e2, e3, e4, e5, e6, e7] = false := by
          cases hz : isTupD e7 with
          | false => exact Mt.rowsL_t hz
          | true => obtain ⟨rs, rfl⟩ := Mt.tup_of hz; rw [Mt.rowsL_7, h1]; rfl
        rw [z] at k0
        refine rd_bl' ?_
        refine rd_iteT ?_
        walk_at "rq"
        exact k0
      | true =>
        refine rd_bl' ?_
        refine rd_iteF ?_
        walk_at "rq"
        cases hz : isTupD e7 with
        | false =>
          rw [Mt.rowsL_t hz] at k0
          refine rd_iteT ?_
          walk_at "rq"
          exact k0
        | true =>
          obtain ⟨rs, rfl⟩ := Mt.tup_of hz
          obtain ⟨b7, zs, rfl, q7, r7'⟩ := dt_tuple r7
          simp only [Mt.rowsL_7, h1, Bool.true_and] at k k0
          refine rd_iteF ?_
          walk_at "rq"
          refine ⟨N, y5, e5, rfl, r5, fun H1 s1 => ?_⟩
          cases h5 : Mt.histD e5 with
          | false =>
            have k1 := k H1 s1
            rw [h5] at k1
            refine ⟨_, rfl, ?_⟩
            refine rd_iteF ?_
            exact k1
          | true =>
            simp only [h5, Bool.true_and] at k
            refine ⟨_, rfl, ?_⟩
            refine rd_iteT ?_
            have q := s1.tupS q
            walk_at "rq"
            refine ⟨N, y6, e6, rfl, r6.ext (Ext.same s1), ?_⟩
            cases h6 : Mt.withinD 0 1000000 e6 with
            | false =>
              have k1 := k H1 s1
              rw [h6] at k1
              refine ⟨_, rfl, ?_⟩
              refine rd_iteF ?_
              exact k1
            | true =>
              simp only [h6, Bool.true_and] at k
              refine ⟨_, rfl, ?_⟩
              refine rd_iteT ?_
              walk_at "rq"
              have wr : (PyData.tuple rs).weight ≤ 1000000 := PyData.wt_at (i := 6) rfl hw
              refine ⟨b7, rfl, ⟨zs, s1.tupS q7⟩, ?_⟩
              intro acc hacc nka
              have lz := r7'.length
              refine comp_by rs.length ?_ (fun i vs σc H' => Same H1 H' ∧ (∃ o, σc = [o]) ∧ vs = (rs.take i).map fun d => V.bl (Mt.rowD d)) ?_ ?_ ?_
              · exact PyData.wt_lt wr
              · exact ⟨(Same.refl H1).upd2 hacc, ⟨none, rfl⟩, by simp⟩
              · rintro i vs σc H' hi hl' ha ⟨sm, ⟨o, rfl⟩, rfl⟩
                obtain ⟨v, d, f1, f2, f3⟩ := r7'.at hi
                refine ⟨⟨zs, v, (s1.trans sm).tupS q7, f1⟩, ?_⟩
                rintro x H2 ⟨rfl, hx⟩ R hR
                have ex := hx zs ((s1.trans sm).tupS q7)
                rw [f1] at ex; cases ex
                walk_at "rq"
                refine ⟨N, v, d, rfl, f3.ext (Ext.same (s1.trans sm)), PyData.wt_at f2 wr, fun H3 s3 => ?_⟩
                refine hR _ _ _ (s3 _ _ ha) ⟨(sm.trans s3).upd2 hacc, ⟨some v, rfl⟩, ?_⟩
                rw [List.take_add_one, f2]
                simp
              · rintro vs σc H' hl' ha ⟨sm, _, rfl⟩
                refine ⟨⟨zs, (s1.trans sm).tupS q7, by omega⟩, ?_⟩
                rw [List.take_length] at ha
                have hbs : SqL K H' acc ((rs.map Mt.rowD).map V.bl) := SqL.of (by rw [ha, List.map_map]; rfl)
                walk_at "rq"
                refine rd_all hbs ?_
                have eall : (rs.map Mt.rowD).all id = rs.all Mt.rowD := by rw [List.all_map]; rfl
                rw [eall]
                exact k _ (s1.trans sm)
    · rw [show decide (V.int (ys.length : Int) = V.int 7) = false from decide_eq_false (fun z => hl (by injection z with z; omega))]
      refine rd_iteT ?_
      walk_at "rq"
      rw [Mt.rowsL_len (by omega)] at k0
      exact k0

noncomputable def sp_is_gone (K : PySem.W.Frag) : Sp := fun vs H Q _ => ∃ (N : List Addr) (x : V) (ds : List PyData), vs = [x] ∧ Dt K N H x (.tuple ds) ∧ Q (.bl (Mt.goneL ds)) H
theorem ok_is_gone (T : Txt P K mg a) (G_is_place : FnOk P w K mg base CX0 3 a.f_is_place a.d_is_place ["thing"] (sp_is_place K)) (G_is_word : FnOk P w K mg base CX0 1 a.f_is_word a.d_is_word ["thing", "word"] (sp_is_word K)) : FnOk P w K mg base CX0 4 a.f_is_gone a.d_is_gone ["thing"] (sp_is_gone K) := by
  refine T.F_is_gone.ok sc_is_gone (fun vs H Q E h => ?_) (fun cdv A outer s H vs Q E hr h => ?_)
  · obtain ⟨N, x, ds, rfl, _⟩ := h; rfl
  · obtain ⟨N, x, ds, rfl, hd, k⟩ := h
    refine exW ⟨_, (qss_one (qs_ret (pe_and (pe_cmpR op_eq (qe_callB cn_len (by rfl) T.b_len (by decide +kernel) (qa (pv 0 (by rfl) (by walk_at "vis") (by decide) (by decide)) qa_nil (by rfl)) (by decide) (by decide) (by rfl) (by rfl)) pe_int (nomark _)) (pe_and (qe_call G_is_word (hr.mono (by decide)) (by rfl) T.m_is_word T.k_is_word T.bd_is_word .nil pass0 (qa (pe_ix ix_tup (pv 0 (by rfl) (by walk_at "vis") (by decide) (by decide)) pe_int (fun _ _ => rfl)) (qa pe_str qa_nil (by rfl)) (by rfl)) (by decide) (by rfl) (by rfl)) (pe_one (qe_call G_is_place (hr.mono (by decide)) (by rfl) T.m_is_place T.k_is_place T.bd_is_place .nil pass0 (qa (pe_ix ix_tup (pv 0 (by rfl) (by walk_at "vis") (by decide) (by decide)) pe_int (fun _ _ => rfl)) qa_nil (by rfl)) (by decide) (by rfl) (by rfl))))))), ?_⟩
    try dsimp only [cxOf]
    obtain ⟨b, ys, rfl, q, r⟩ := dt_tuple hd
    have ly := r.length
    walk_at "rq"
    by_cases hl : ys.length = 5
    · rw [show decide (V.int (ys.length : Int) = V.int 5) = true from decide_eq_true (by rw [hl]; rfl)]
      obtain ⟨y1, y2, y3, y4, y5, e1, e2, e3, e4, e5, rfl, rfl, r1, r2, r3, r4, r5⟩ := dt_5 r hl
      refine rd_iteT ?_
      walk_at "rq"
      refine ⟨N, y1, e1, _, rfl, r1, ?_⟩
      simp only [Mt.goneL_5] at k
      cases h1 : Mt.strEq "gone" e1 with
      | false => rw [h1] at k; refine ⟨_, rfl, ?_⟩; refine rd_iteF ?_; exact k
      | true =>
        refine ⟨_, rfl, ?_⟩
        refine rd_iteT ?_
        walk_at "rq"
        refine ⟨N, y5, e5, rfl, r5, ?_⟩
        rw [h1] at k
        exact k
    · rw [show decide (V.int (ys.length : Int) = V.int 5) = false from decide_eq_false (fun z => hl (by injection z with z; omega))]
      refine rd_iteF ?_
      rw [Mt.goneL_len (by omega)] at k
      exact k

noncomputable def sp_is_letter (K : PySem.W.Frag) : Sp := fun vs H Q _ => ∃ (N : List Addr) (x : V) (d : PyData), vs = [x] ∧ Dt K N H x d ∧ d.weight ≤ 1000000 ∧ ∀ H', Same H H' → Q (.bl (Mt.letD d)) H'
theorem ok_is_letter (T : Txt P K mg a) (G_is_addressed : FnOk P w K mg base CX0 4 a.f_is_addressed a.d_is_addressed ["thing"] (sp_is_addressed K)) (G_is_gone : FnOk P w K mg base CX0 4 a.f_is_gone a.d_is_gone ["thing"] (sp_is_gone K)) (G_is_rows_letter : FnOk P w K mg base CX0 6 a.f_is_rows_letter a.d_is_rows_letter ["thing"] (sp_is_rows_letter K)) (G_is_want : FnOk P w K mg base CX0 5 a.f_is_want a.d_is_want ["thing"] (sp_is_want K)) : FnOk P w K mg base CX0 7 a.f_is_letter a.d_is_letter ["thing"] (sp_is_letter K) := by
  refine T.F_is_letter.ok sc_is_letter (fun vs H Q E h => ?_) (fun cdv A outer s H vs Q E hr h => ?_)
  · obtain ⟨N, x, d, rfl, _⟩ := h; rfl
  · obtain ⟨N, x, d, rfl, hd, hw, k⟩ := h
    refine exW ⟨_, (qss_cons (qs_if (pw_or (pt_not (pt_val (qe_callB cn_isi (by rfl) T.b_isinstance (by decide +kernel) (qa (pv 0 (by rfl) (by walk_at "vis") (by decide) (by decide)) (qa (pe_bltn (by rfl) T.b_tuple (by decide +kernel) (v := .ty "tuple") rfl (by decide) (by decide)) qa_nil (by rfl)) (by rfl)) (by decide) (by decide) (by rfl) (by rfl)) (by intro _; rfl))) (pw_or1 (pt_not (pt_val (qe_call G_is_addressed (hr.mono (by decide)) (by rfl) T.m_is_addressed T.k_is_addressed T.bd_is_addressed .nil pass0 (qa (pv 0 (by rfl) (by walk_at "vis") (by decide) (by decide)) qa_nil (by rfl)) (by decide) (by rfl) (by rfl)) (by intro _; rfl))))).pt
        (qss_one (qs_ret pe_bl))
        qss_nil)
      (qss_one (qs_ret (pe_or (qe_call G_is_want (hr.mono (by decide)) (by rfl) T.m_is_want T.k_is_want T.bd_is_want .nil pass0 (qa (pv 0 (by rfl) (by walk_at "vis") (by decide) (by decide)) qa_nil (by rfl)) (by decide) (by rfl) (by rfl)) (pe_or (qe_call G_is_rows_letter (hr.mono (by decide)) (by rfl) T.m_is_rows_letter T.k_is_rows_letter T.bd_is_rows_letter .nil pass0 (qa (pv 0 (by rfl) (by walk_at "vis") (by decide) (by decide)) qa_nil (by rfl)) (by decide) (by rfl) (by rfl)) (pe_one (qe_call G_is_gone (hr.mono (by decide)) (by rfl) T.m_is_gone T.k_is_gone T.bd_is_gone .nil pass0 (qa (pv 0 (by rfl) (by walk_at "vis") (by decide) (by decide)) qa_nil (by rfl)) (by decide) (by rfl) (by rfl)))))))), ?_⟩
    try dsimp only [cxOf]
    have k0 := k H (Same.refl H)
    walk_at "rq"
    cases ht : isTupD d with
    | false =>
      rw [Mt.letD_tup ht] at k0
      refine rd_iteT ?_
      walk_at "rq"
      exact k0
    | true =>
      obtain ⟨es, rfl⟩ := Mt.tup_of ht
      refine rd_iteF ?_
      walk_at "rq"
      refine ⟨N, x, es, rfl, hd, ?_⟩
      rw [Mt.letD_t] at k0
      cases h0 : Mt.addrL es with
      | false =>
        rw [h0] at k0
        refine rd_bl' ?_
        refine rd_iteT ?_
        walk_at "rq"
        exact k0
      | true =>
        refine rd_bl' ?_
        refine rd_iteF ?_
        walk_at "rq"
        refine ⟨N, x, es, rfl, hd, hw, fun H1 s1 => ?_⟩
        cases h1 : Mt.wantL es with
        | true =>
          have k1 := k H1 s1
          rw [Mt.letD_t, h0, h1] at k1
          refine ⟨_, rfl, ?_⟩
          refine rd_iteT ?_
          exact k1
        | false =>
          refine ⟨_, rfl, ?_⟩
          refine rd_iteF ?_
          walk_at "rq"
          refine ⟨N, x, es, rfl, hd.ext (Ext.same s1), hw, fun H2 s2 => ?_⟩
          have k2 := k H2 (s1.trans s2)
          rw [Mt.letD_t, h0, h1] at k2
          cases h2 : Mt.rowsL es with
          | true =>
            rw [h2] at k2
            refine ⟨_, rfl, ?_⟩
            refine rd_iteT ?_
            exact k2
          | false =>
            refine ⟨_, rfl, ?_⟩
            refine rd_iteF ?_
            walk_at "rq"
            refine ⟨N, x, es, rfl, hd.ext (Ext.same (s1.trans s2)), ?_⟩
            rw [h2] at k2
            exact k2

noncomputable def sp_law_state (K : PySem.W.Frag) : Sp := fun vs H Q _ => ∃ (p : Addr) (ns : List Int) (sd : Int), vs = [.ref p, .int sd] ∧ 0 ≤ sd ∧ sd < 1000 ∧ SqL K H p (ns.map V.int) ∧ ns.length ≤ 63 ∧ ∀ (st : Addr) (H' : Hp), StOk K H' st → Same H H' → H st = none → Q (.ref st) H'
theorem ok_law_state (T : Txt P K mg a)  : FnOk P w K mg base CX0 1 a.f_law_state a.d_law_state ["_law_script", "_law_seed"] (sp_law_state K) := by
  refine T.F_law_state.ok sc_law_state (fun vs H Q E h => ?_) (fun cdv A outer s H vs Q E hr h => ?_)
  · obtain ⟨p, ns, sd, rfl, _⟩ := h; rfl
  · obtain ⟨p, ns, sd, rfl, sd0, sd1, hq, hl, k⟩ := h
    refine exW ⟨_, (qss_cons (qs_set (i := 2) sc_law_state.nd rfl (Or.inl rfl) (qe_callTy cn_list (by rfl) T.b_list (by decide +kernel) (qa (pe_slice sl_list (pv 0 (by rfl) (by walk_at "vis") (by decide) (by decide)) po_none (po_some pe_int)) qa_nil (by rfl)) (by decide) (by decide) (by rfl) (by rfl)) (by rfl) (by first | exact Or.inl rfl | exact Or.inr rfl))
      (qss_cons (qs_if (pt_cmpR op_eq (qe_callB cn_len (by rfl) T.b_len (by decide +kernel) (qa (pv 2 (by rfl) (by walk_at "vis") (by decide) (by decide)) qa_nil (by rfl)) (by decide) (by decide) (by rfl) (by rfl)) pe_int (nomark _))
        (qss_one (qs_set (i := 2) sc_law_state.nd rfl (Or.inl rfl) (qe_lst (qa pe_int qa_nil (by rfl))) (by rfl) (by first | exact Or.inl rfl | exact Or.inr rfl)))
        qss_nil)
      (qss_one (qs_ret (qe_lst (qa (pv 2 (by rfl) (by walk_at "vis") (by decide) (by decide)) (qa pe_int (qa pe_int (qa (pv 1 (by rfl) (by walk_at "vis") (by decide) (by decide)) qa_nil (by rfl)) (by rfl)) (by rfl)) (by rfl))))))), ?_⟩
    try dsimp only [cxOf]
    walk_at "rd"
    intro l1 n1
    have e1 : cutV (ns.map V.int) none (some 63) = ns.map V.int := by
      unfold cutV
      have e : HT.sIx (ns.map V.int).length (ns.map V.int).length (some 63) = min 63 (ns.map V.int).length := HT.sIx_nat _ _ 63
      rw [e, HT.sIx_none, List.length_map, Nat.min_eq_right hl, List.drop_zero, Nat.sub_zero, ← List.length_map (f := V.int), List.take_length]
    rw [e1]
    walk_at "rd"
    intro l2 n2
    have n1' : H l2 = none := (Same.upd n1).free n2
    walk_at "rd"
    have s2 : Same H (upd (upd H l1 (.lst (ns.map V.int))) l2 (.lst (ns.map V.int))) := (Same.upd n1).trans (Same.upd n2)
    have fin : ∀ (c : Addr) (cs : List Int) (H2 : Hp), Same H H2 → H2 c = some (.lst (cs.map V.int)) → 1 ≤ cs.length → cs.length ≤ 63 → ∀ q, H2 q = none → Q (.ref q) (upd H2 q (.lst [.ref c, .int 0, .int 0, .int sd])) := fun c cs H2 s hc g1 g2 q hq => by
      have nc : c ≠ q := ne_of_none hc hq
      exact k q _ ⟨c, cs, 0, 0, sd, upd_same, by rw [upd_ne nc]; exact hc, nc, g1, g2, by decide, by decide, sd0, by omega⟩ (s.trans (Same.upd hq)) (s.free hq)
    refine rd_ite2 (fun hc => ?_) (fun hc => ?_)
    · walk_at "rd"
      refine ⟨sz (by simp), fun l3 n3 => ?_⟩
      walk_at "rd"
      refine ⟨sz (by simp), fun l4 n4 => ?_⟩
      exact fin l3 [0] _ (s2.trans (Same.upd n3)) upd_same (by decide) (by decide) l4 n4
    · walk_at "rd"
      refine ⟨sz (by simp), fun l4 n4 => ?_⟩
      have hne : ns.length ≠ 0 := fun z => by
        rw [List.length_map, z] at hc
        simp at hc
      exact fin l2 ns _ s2 upd_same (by omega) hl l4 n4

noncomputable def sp_law_next (K : PySem.W.Frag) : Sp := fun vs H Q _ => ∃ (st : Addr) (b : Int), vs = [.ref st, .int b] ∧ StOk K H st ∧ 0 < b ∧ b < 2147483648 ∧
  ∀ (v : Int) (H' : Hp), 0 ≤ v → v < b → StOkT K H H' st → Ext [st] H H' → Q (.int v) H'
theorem ok_law_next (T : Txt P K mg a)  : FnOk P w K mg base CX0 1 a.f_law_next a.d_law_next ["_law_state_here", "_law_below"] (sp_law_next K) := by
  refine T.F_law_next.ok sc_law_next (fun vs H Q E h => ?_) (fun cdv A outer s H vs Q E hr h => ?_)
  · obtain ⟨st, b, rfl, _⟩ := h; rfl
  · obtain ⟨st, b, rfl, S, hb0, hb1, k⟩ := h
    obtain ⟨c, cs, p, q, r, h1, h2h, h3, h4, h5, h6, h7, h8, h9⟩ := S.ex
    have h2 : SqL K H c (cs.map V.int) := SqL.of h2h
    refine exW ⟨_, (qss_cons (qs_if (pt_cmpR op_gt (pe_ix ix_list (pv 0 (by rfl) (by walk_at "vis") (by decide) (by decide)) pe_int (fun _ _ => rfl)) pe_int (nomark _))
        (qss_cons (qs_set (i := 2) sc_law_next.nd rfl (Or.inl rfl) (pe_op op_mod (pe_ix ix_list (pv 0 (by rfl) (by walk_at "vis") (by decide) (by decide)) pe_int (fun _ _ => rfl)) (pv 1 (by rfl) (by walk_at "vis") (by decide) (by decide))) (by rfl) (by first | exact Or.inl rfl | exact Or.inr rfl))
        (qss_cons (qs_asg (pe_op op_fdivB (pe_ix ix_list (pv 0 (by rfl) (by walk_at "vis") (by decide) (by decide)) pe_int (fun _ _ => rfl)) (pv 1 (by rfl) (by walk_at "vis") (by decide) (by decide))) (pg_sub (pv 0 (by rfl) (by walk_at "vis") (by decide) (by decide)) pe_int set_list (by intro _; rfl)) (by rfl) (by rfl) (by rfl))
        (qss_one (qs_ret (pv 2 (by rfl) (by walk_at "vis") (by decide) (by decide))))))
        qss_nil)
      (qss_cons (qs_set (i := 3) sc_law_next.nd rfl (Or.inl rfl) (pe_ix ix_list (pv 0 (by rfl) (by walk_at "vis") (by decide) (by decide)) pe_int (fun _ _ => rfl)) (by rfl) (by first | exact Or.inl rfl | exact Or.inr rfl))
      (qss_cons (qs_set (i := 4) sc_law_next.nd rfl (Or.inl rfl) (pe_ix ix_list (pv 3 (by rfl) (by walk_at "vis") (by decide) (by decide)) (pe_op op_mod (pe_ix ix_list (pv 0 (by rfl) (by walk_at "vis") (by decide) (by decide)) pe_int (fun _ _ => rfl)) (qe_callB cn_len (by rfl) T.b_len (by decide +kernel) (qa (pv 3 (by rfl) (by walk_at "vis") (by decide) (by decide)) qa_nil (by rfl)) (by decide) (by decide) (by rfl) (by rfl))) (fun _ _ => rfl)) (by rfl) (by first | exact Or.inl rfl | exact Or.inr rfl))
      (qss_cons (qs_asg (pe_op op_add (pe_ix ix_list (pv 0 (by rfl) (by walk_at "vis") (by decide) (by decide)) pe_int (fun _ _ => rfl)) pe_int) (pg_sub (pv 0 (by rfl) (by walk_at "vis") (by decide) (by decide)) pe_int set_list (by intro _; rfl)) (by rfl) (by rfl) (by rfl))
      (qss_cons (qs_if (pw_and (pt_cmpR op_ge (pv 4 (by rfl) (by walk_at "vis") (by decide) (by decide)) (pe_op op_pow pe_int pe_int) (nomark _)) (pw_and1 (pt_cmpR op_le (pe_ix ix_list (pv 0 (by rfl) (by walk_at "vis") (by decide) (by decide)) pe_int (fun _ _ => rfl)) (qe_callB cn_len (by rfl) T.b_len (by decide +kernel) (qa (pv 3 (by rfl) (by walk_at "vis") (by decide) (by decide)) qa_nil (by rfl)) (by decide) (by decide) (by rfl) (by rfl)) (nomark _)))).pt
        (qss_cons (qs_asg (pe_op op_fdivB (pv 4 (by rfl) (by walk_at "vis") (by decide) (by decide)) (pv 1 (by rfl) (by walk_at "vis") (by decide) (by decide))) (pg_sub (pv 0 (by rfl) (by walk_at "vis") (by decide) (by decide)) pe_int set_list (by intro _; rfl)) (by rfl) (by rfl) (by rfl))
        (qss_one (qs_ret (pe_op op_mod (pv 4 (by rfl) (by walk_at "vis") (by decide) (by decide)) (pv 1 (by rfl) (by walk_at "vis") (by decide) (by decide))))))
        qss_nil)
      (qss_cons (qs_asg (pe_op op_mod (pe_op op_add (pe_op op_add (pe_op op_mul (pe_ix ix_list (pv 0 (by rfl) (by walk_at "vis") (by decide) (by decide)) pe_int (fun _ _ => rfl)) pe_int) (pe_op op_mod (pv 4 (by rfl) (by walk_at "vis") (by decide) (by decide)) pe_int)) (pe_op op_mul pe_int (pe_ix ix_list (pv 0 (by rfl) (by walk_at "vis") (by decide) (by decide)) pe_int (fun _ _ => rfl)))) pe_int) (pg_sub (pv 0 (by rfl) (by walk_at "vis") (by decide) (by decide)) pe_int set_list (by intro _; rfl)) (by rfl) (by rfl) (by rfl))
      (qss_one (qs_ret (pe_op op_mod (pe_op op_fdivB (pe_op op_mod (pe_op op_mul (pe_ix ix_list (pv 0 (by rfl) (by walk_at "vis") (by decide) (by decide)) pe_int (fun _ _ => rfl)) pe_int) pe_int) pe_int) (pv 1 (by rfl) (by walk_at "vis") (by decide) (by decide))))))))))), ?_⟩
    try dsimp only [cxOf]
    walk_at "rd"
    have fin : ∀ (v p' q' r' : Int) (H' : Hp), H' = upd H st (.lst [.ref c, .int p', .int q', .int r']) → 0 ≤ v → v < b → 0 ≤ p' → 0 ≤ q' → 0 ≤ r' → r' < 2147483647 → Q (.int v) H' := by
      rintro v p' q' r' H' rfl g1 g2 g3 g4 g5 g6
      have e : Ext [st] H (upd H st (.lst [.ref c, .int p', .int q', .int r'])) := Ext.at (by simp)
      exact k v _ g1 g2 ⟨⟨c, cs, p', q', r', upd_same, e _ _ h2h (by simpa using h3), h3, h4, h5, g3, g4, g5, g6⟩, fun c' a e1 => by
        rw [h1] at e1
        have z : c = c' := by
          injection e1 with e1; injection e1 with e1; injection e1 with e1 _; injection e1
        subst z
        exact ⟨_, upd_same⟩⟩ e
    refine rd_ite2 (fun hc => ?_) (fun hc => ?_)
    · have hq : 0 < q := of_decide_eq_true hc
      walk_at "rd"
      exact fin _ p (q / b) r _ rfl (Int.emod_nonneg _ (by omega)) (Int.emod_lt_of_pos _ hb0) h6 (Int.ediv_nonneg h7 (by omega)) h8 h9
    · have hlm : ((cs.map V.int).length : Int) = cs.length := by rw [List.length_map]
      have hl0 : (0 : Int) < (cs.map V.int).length := by omega
      walk_at "rd"
      obtain ⟨x, hx, _⟩ := atI_ints (ns := cs) (i := p % ((cs.map V.int).length : Int)) (Int.emod_nonneg _ (by omega)) (by rw [hlm]; exact Int.emod_lt_of_pos _ (by omega))
      refine rd_ixL h2 hx ?_
      walk_at "rd"
      have h2' : SqL K (upd H st (.lst [.ref c, .int (p + 1), .int q, .int r])) c (cs.map V.int) := (Ext.at (N := [st]) (by simp)).lst h2 (by simpa using h3)
      refine rd_ite2 (fun hg => ?_) (fun hg => ?_)
      · walk_at "rd"
        have hx0 : (0 : Int) ≤ x := by
          have := of_decide_eq_true hg
          have e : (0 : Int) ≤ 10 ^ (18 : Int).toNat := by decide
          omega
        refine rd_ite2 (fun hj => ?_) (fun hj => ?_)
        · walk_at "rd"
          exact fin _ (p + 1) (x / b) r _ (upd_upd.trans rfl) (Int.emod_nonneg _ (by omega)) (Int.emod_lt_of_pos _ hb0) (by omega) (Int.ediv_nonneg hx0 (by omega)) h8 h9
        · walk_at "rd"
          exact fin _ (p + 1) q _ _ (upd_upd.trans rfl) (Int.emod_nonneg _ (by omega)) (Int.emod_lt_of_pos _ hb0) (by omega) h7 (Int.emod_nonneg _ (by omega)) (Int.emod_lt_of_pos _ (by omega))
      · walk_at "rd"
        exact fin _ (p + 1) q _ _ (upd_upd.trans rfl) (Int.emod_nonneg _ (by omega)) (Int.emod_lt_of_pos _ hb0) (by omega) h7 (Int.emod_nonneg _ (by omega)) (Int.emod_lt_of_pos _ (by omega))

noncomputable def sp_law_whole (K : PySem.W.Frag) : Sp := fun vs H Q _ => ∃ (N : List Addr) (x : V) (d : PyData), vs = [x] ∧ Dt K N H x d ∧ Q (.bl (Mt.numD d)) H
theorem ok_law_whole (T : Txt P K mg a)  : FnOk P w K mg base CX0 1 a.f_law_whole a.d_law_whole ["_law_found"] (sp_law_whole K) := by
  refine T.F_law_whole.ok sc_law_whole (fun vs H Q E h => ?_) (fun cdv A outer s H vs Q E hr h => ?_)
  · obtain ⟨N, x, d, rfl, _⟩ := h; rfl
  · obtain ⟨N, x, d, rfl, hd, k⟩ := h
    refine exW ⟨_, (qss_one (qs_ret (pe_and (qe_callB cn_isi (by rfl) T.b_isinstance (by decide +kernel) (qa (pv 0 (by rfl) (by walk_at "vis") (by decide) (by decide)) (qa (pe_bltn (by rfl) T.b_int (by decide +kernel) (v := .ty "int") rfl (by decide) (by decide)) qa_nil (by rfl)) (by rfl)) (by decide) (by decide) (by rfl) (by rfl)) (pe_one (pe_not (qe_callB cn_isi (by rfl) T.b_isinstance (by decide +kernel) (qa (pv 0 (by rfl) (by walk_at "vis") (by decide) (by decide)) (qa (pe_bltn (by rfl) T.b_bool (by decide +kernel) (v := .ty "bool") rfl (by decide) (by decide)) qa_nil (by rfl)) (by rfl)) (by decide) (by decide) (by rfl) (by rfl))))))), ?_⟩
    try dsimp only [cxOf]
    walk_at "rd"
    cases d with
    | int i => dsimp only [isIntD]; walk_at "rd"; dsimp only [isBoolD]; walk_at "rd"; exact k
    | bool b => dsimp only [isIntD]; walk_at "rd"; dsimp only [isBoolD]; walk_at "rd"; exact k
    | _ => dsimp only [isIntD]; walk_at "rd"; exact k

noncomputable def sp_law_key (K : PySem.W.Frag) : Sp := fun vs H Q _ => ∃ (st : Addr), vs = [.ref st] ∧ StOk K H st ∧
  ∀ (z : Str) (H' : Hp), Mt.keyD (.str z) = true → StOk K H' st → Ext [st] H H' → Q (.str z) H'
theorem ok_law_key (T : Txt P K mg a) (G__law_next : FnOk P w K mg base CX0 1 a.f_law_next a.d_law_next ["_law_state_here", "_law_below"] (sp_law_next K)) : FnOk P w K mg base CX0 2 a.f_law_key a.d_law_key ["_law_state_here"] (sp_law_key K) := by
  refine T.F_law_key.ok sc_law_key (fun vs H Q E h => ?_) (fun cdv A outer s H vs Q E hr h => ?_)
  · obtain ⟨st, rfl, _⟩ := h; rfl
  · obtain ⟨st, rfl, S, k⟩ := h
    refine exW ⟨_, (qss_cons (qs_if (pt_cmpR op_gt (qe_call G__law_next (hr.mono (by decide)) (by rfl) T.m__law_next T.k__law_next T.bd__law_next .nil pass0 (qa (pv 0 (by rfl) (by walk_at "vis") (by decide) (by decide)) (qa pe_int qa_nil (by rfl)) (by rfl)) (by decide) (by rfl) (by rfl)) pe_int (nomark _))
        (qss_one (qs_ret (pe_ix ix_list (qe_lst (qa pe_str (qa pe_str (qa pe_str (qa pe_str (qa pe_str qa_nil (by rfl)) (by rfl)) (by rfl)) (by rfl)) (by rfl))) (qe_call G__law_next (hr.mono (by decide)) (by rfl) T.m__law_next T.k__law_next T.bd__law_next .nil pass0 (qa (pv 0 (by rfl) (by walk_at "vis") (by decide) (by decide)) (qa pe_int qa_nil (by rfl)) (by rfl)) (by decide) (by rfl) (by rfl)) (fun _ _ => rfl))))
        qss_nil)
      (qss_cons (qs_set (i := 1) sc_law_key.nd rfl (Or.inl rfl) pe_str (by rfl) (by first | exact Or.inl rfl | exact Or.inr rfl))
      (qss_cons (qs_set (i := 2) sc_law_key.nd rfl (Or.inl rfl) pe_str (by rfl) (by first | exact Or.inl rfl | exact Or.inr rfl))
      (qss_cons (qs_for PassesOwn.never rfl (qi_range1 (by rfl) T.b_range (qa (pe_op op_add pe_int (qe_call G__law_next (hr.mono (by decide)) (by rfl) T.m__law_next T.k__law_next T.bd__law_next .nil pass0 (qa (pv 0 (by rfl) (by walk_at "vis") (by decide) (by decide)) (qa pe_int qa_nil (by rfl)) (by rfl)) (by decide) (by rfl) (by rfl))) qa_nil (by rfl)) (by rfl)) (pg_name (i := 3) sc_law_key.nd rfl (Or.inl rfl) (by first | exact Or.inl rfl | exact Or.inr rfl))
        (qss_one (qs_set (i := 2) sc_law_key.nd rfl (Or.inl rfl) (pe_op op_add_str (pv 2 (by rfl) (by walk_at "vis") (by decide) (by decide)) (pe_ix ix_str (pv 1 (by rfl) (by walk_at "vis") (by decide) (by decide)) (qe_call G__law_next (hr.mono (by decide)) (by rfl) T.m__law_next T.k__law_next T.bd__law_next .nil pass0 (qa (pv 0 (by rfl) (by walk_at "vis") (by decide) (by decide)) (qa pe_int qa_nil (by rfl)) (by rfl)) (by decide) (by rfl) (by rfl)) (fun _ _ => rfl))) (by rfl) (by first | exact Or.inl rfl | exact Or.inr rfl))) (by intro _; rfl))
      (qss_one (qs_ret (pv 2 (by rfl) (by walk_at "vis") (by decide) (by decide)))))))), ?_⟩
    try dsimp only [cxOf]
    walk_at "rd"
    refine ⟨st, 3, rfl, S, by decide, by decide, fun v1 H1 a1 b1 S1 x1 => ?_⟩
    walk_at "rd"
    refine rd_ite2 (fun hc => ?_) (fun hc => ?_)
    · walk_at "rd"
      refine ⟨sz (by simp), fun l2 n2 => ?_⟩
      walk_at "rd"
      refine ⟨st, 5, rfl, S1.toStOk.same (Same.upd n2), by decide, by decide, fun v3 H3 a3 b3 S3 x3 => ?_⟩
      have e3 := x3 _ _ upd_same (S1.nin (Same.refl _) n2)
      have x : Ext [st] H H3 := (x1.trans (Ext.new n2)).trans x3
      obtain ⟨j, rfl⟩ := Int.eq_ofNat_of_zero_le a3
      have hj : j < 5 := by omega
      match j, hj with
      | 0, _ => exact rd_ixL (SqL.of e3) rfl (k _ _ (by decide +kernel) S3 x)
      | 1, _ => exact rd_ixL (SqL.of e3) rfl (k _ _ (by decide +kernel) S3 x)
      | 2, _ => exact rd_ixL (SqL.of e3) rfl (k _ _ (by decide +kernel) S3 x)
      | 3, _ => exact rd_ixL (SqL.of e3) rfl (k _ _ (by decide +kernel) S3 x)
      | 4, _ => exact rd_ixL (SqL.of e3) rfl (k _ _ (by decide +kernel) S3 x)
    · walk_at "rd"
      refine ⟨st, 12, rfl, S1, by decide, by decide, fun v2 H2 a2 b2 S2 x2 => ?_⟩
      walk_at "rd"
      refine ⟨by omega, by omega, ?_⟩
      refine for_rangeW (fun i σ' H' => ∃ (z : Str) (o : Option V), σ' = [some (.ref st), some (.str abc), some (.str z), o] ∧ z.length = i ∧ z.cps.toList.all lowC = true ∧ StOk K H' st ∧ Ext [st] H H') ⟨"", none, rfl, rfl, rfl, S2, x1.trans x2⟩ ?_ ?_
      · rintro i σ' H' hi ⟨z, o, rfl, hz, hl, S', x'⟩
        walk_at "rd"
        refine ⟨st, 26, rfl, S', by decide, by decide, fun v3 H3 a3 b3 S3 x3 => ?_⟩
        obtain ⟨j, rfl⟩ := Int.eq_ofNat_of_zero_le a3
        have hj : j < 26 := by omega
        have ej : abc.cps.toList[j]? = some (97 + j) := by
          have : ∀ j, j < 26 → abc.cps.toList[j]? = some (97 + j) := by decide +kernel
          exact this j hj
        refine rd_ixS (c := 97 + j) (by decide +kernel) (atI_nat ej) ?_
        refine ⟨_, _, rfl, rfl, sz (by show z.length + 1 ≤ 1000; omega), ?_⟩
        walk_at "rd"
        refine ⟨z ++ sgn (97 + j), _, rfl, ?_, ?_, S3, x'.trans x3⟩
        · rw [app_len, hz]
        · rw [app_low, hl]
          unfold lowC
          rw [decide_eq_true (by omega), decide_eq_true (by omega)]; rfl
      · rintro σ' H' ⟨z, o, rfl, hz, hl, S', x'⟩
        walk_at "rd"
        refine k _ _ ?_ S' x'
        rw [Mt.keyD_s, hl, decide_eq_true (by omega), decide_eq_true (by omega)]; rfl

noncomputable def sp_law_amount (K : PySem.W.Frag) : Sp := fun vs H Q _ => ∃ (st : Addr), vs = [.ref st] ∧ StOk K H st ∧
  ∀ (v : Int) (H' : Hp), -1000000000000000000 ≤ v → v ≤ 1000000000000000000 → StOk K H' st → Ext [st] H H' → Q (.int v) H'
theorem ok_law_amount (T : Txt P K mg a) (G__law_next : FnOk P w K mg base CX0 1 a.f_law_next a.d_law_next ["_law_state_here", "_law_below"] (sp_law_next K)) : FnOk P w K mg base CX0 2 a.f_law_amount a.d_law_amount ["_law_state_here"] (sp_law_amount K) := by
  refine T.F_law_amount.ok sc_law_amount (fun vs H Q E h => ?_) (fun cdv A outer s H vs Q E hr h => ?_)
  · obtain ⟨st, rfl, _⟩ := h; rfl
  · obtain ⟨st, rfl, S, k⟩ := h
    refine exW ⟨_, (qss_cons (qs_set (i := 1) sc_law_amount.nd rfl (Or.inl rfl) (qe_call G__law_next (hr.mono (by decide)) (by rfl) T.m__law_next T.k__law_next T.bd__law_next .nil pass0 (qa (pv 0 (by rfl) (by walk_at "vis") (by decide) (by decide)) (qa pe_int qa_nil (by rfl)) (by rfl)) (by decide) (by rfl) (by rfl)) (by rfl) (by first | exact Or.inl rfl | exact Or.inr rfl))
      (qss_cons (qs_if (pt_cmpR op_eq (pv 1 (by rfl) (by walk_at "vis") (by decide) (by decide)) pe_int (nomark _))
        (qss_one (qs_ret (pe_ix ix_list (qe_lst (qa (pe_op op_pow pe_int pe_int) (qa (pe_un un_neg (pe_op op_pow pe_int pe_int)) (qa pe_int (qa (pe_un un_neg pe_int) qa_nil (by rfl)) (by rfl)) (by rfl)) (by rfl))) (qe_call G__law_next (hr.mono (by decide)) (by rfl) T.m__law_next T.k__law_next T.bd__law_next .nil pass0 (qa (pv 0 (by rfl) (by walk_at "vis") (by decide) (by decide)) (qa pe_int qa_nil (by rfl)) (by rfl)) (by decide) (by rfl) (by rfl)) (fun _ _ => rfl))))
        qss_nil)
      (qss_cons (qs_if (pt_cmpR op_eq (pv 1 (by rfl) (by walk_at "vis") (by decide) (by decide)) pe_int (nomark _))
        (qss_one (qs_ret (pe_op op_sub (pe_op op_add (pe_op op_mul (qe_call G__law_next (hr.mono (by decide)) (by rfl) T.m__law_next T.k__law_next T.bd__law_next .nil pass0 (qa (pv 0 (by rfl) (by walk_at "vis") (by decide) (by decide)) (qa (pe_op op_mul pe_int (pe_op op_pow pe_int pe_int)) qa_nil (by rfl)) (by rfl)) (by decide) (by rfl) (by rfl)) (pe_op op_pow pe_int pe_int)) (qe_call G__law_next (hr.mono (by decide)) (by rfl) T.m__law_next T.k__law_next T.bd__law_next .nil pass0 (qa (pv 0 (by rfl) (by walk_at "vis") (by decide) (by decide)) (qa (pe_op op_pow pe_int pe_int) qa_nil (by rfl)) (by rfl)) (by decide) (by rfl) (by rfl))) (pe_op op_pow pe_int pe_int))))
        qss_nil)
      (qss_one (qs_ret (pe_op op_sub (qe_call G__law_next (hr.mono (by decide)) (by rfl) T.m__law_next T.k__law_next T.bd__law_next .nil pass0 (qa (pv 0 (by rfl) (by walk_at "vis") (by decide) (by decide)) (qa pe_int qa_nil (by rfl)) (by rfl)) (by decide) (by rfl) (by rfl)) pe_int)))))), ?_⟩
    try dsimp only [cxOf]
    have p18 : (10 : Int) ^ (18 : Int).toNat = 1000000000000000000 := by decide +kernel
    have p9 : (10 : Int) ^ (9 : Int).toNat = 1000000000 := by decide +kernel
    walk_at "rd"
    refine ⟨st, 4, rfl, S, by decide, by decide, fun v1 H1 a1 b1 S1 x1 => ?_⟩
    walk_at "rd"
    refine rd_ite2 (fun hc => ?_) (fun hc => ?_)
    · walk_at "rd"
      refine ⟨sz (by simp), fun l2 n2 => ?_⟩
      walk_at "rd"
      refine ⟨st, 4, rfl, S1.toStOk.same (Same.upd n2), by decide, by decide, fun v3 H3 a3 b3 S3 x3 => ?_⟩
      have e3 := x3 _ _ upd_same (S1.nin (Same.refl _) n2)
      have x : Ext [st] H H3 := (x1.trans (Ext.new n2)).trans x3
      rw [p18] at e3
      obtain ⟨j, rfl⟩ := Int.eq_ofNat_of_zero_le a3
      have hj : j < 4 := by omega
      match j, hj with
      | 0, _ => exact rd_ixL (SqL.of e3) rfl (k _ _ (by omega) (by omega) S3 x)
      | 1, _ => exact rd_ixL (SqL.of e3) rfl (k _ _ (by omega) (by omega) S3 x)
      | 2, _ => exact rd_ixL (SqL.of e3) rfl (k _ _ (by omega) (by omega) S3 x)
      | 3, _ => exact rd_ixL (SqL.of e3) rfl (k _ _ (by omega) (by omega) S3 x)
    · walk_at "rd"
      refine rd_ite2 (fun hd => ?_) (fun hd => ?_)
      · walk_at "rd"
        refine ⟨st, _, rfl, S1, by decide +kernel, by decide +kernel, fun v3 H3 a3 b3 S3 x3 => ?_⟩
        rw [p9] at b3
        walk_at "rd"
        refine ⟨st, _, rfl, S3, by decide +kernel, by decide +kernel, fun v4 H4 a4 b4 S4 x4 => ?_⟩
        rw [p9] at b4
        walk_at "rd"
        rw [p18, p9]
        exact k _ _ (by omega) (by omega) S4 ((x1.trans x3).trans x4)
      · walk_at "rd"
        refine ⟨st, 9, rfl, S1, by decide, by decide, fun v3 H3 a3 b3 S3 x3 => ?_⟩
        walk_at "rd"
        exact k _ _ (by omega) (by omega) S3 (x1.trans x3)

noncomputable def sp_law_row (K : PySem.W.Frag) : Sp := fun vs H Q _ => ∃ (st l : Addr) (zs : List Str), vs = [.ref st, .ref l] ∧ StOk K H st ∧ H l = some (.lst (zs.map V.str)) ∧ l ≠ st ∧ 1 ≤ zs.length ∧ zs.length ≤ 5 ∧ (∀ z ∈ zs, Mt.keyD (.str z) = true) ∧
  ∀ (t : Addr) (xs : List V) (ds : List PyData) (H' : Hp), H' t = some (.tup xs) → H t = none → (∀ N H2, DtAll K N H2 xs ds) → Mt.rowD (.tuple ds) = true → xs.length ≤ 3 → (∀ d ∈ ds, Mt.Itm 140 0 d) → StOk K H' st → Ext [st] H H' → Q (.ref t) H'
theorem ok_law_row (T : Txt P K mg a) (G__law_amount : FnOk P w K mg base CX0 2 a.f_law_amount a.d_law_amount ["_law_state_here"] (sp_law_amount K)) (G__law_next : FnOk P w K mg base CX0 1 a.f_law_next a.d_law_next ["_law_state_here", "_law_below"] (sp_law_next K)) : FnOk P w K mg base CX0 3 a.f_law_row a.d_law_row ["_law_state_here", "_law_keys_here"] (sp_law_row K) := by
  refine T.F_law_row.ok sc_law_row (fun vs H Q E h => ?_) (fun cdv A outer s H vs Q E hr h => ?_)
  · obtain ⟨st, l, zs, rfl, _⟩ := h; rfl
  · obtain ⟨st, l, zs, rfl, S, hl, nl, z1, z5, hz, k⟩ := h
    refine exW ⟨_, (qss_cons (qs_set (i := 2) sc_law_row.nd rfl (Or.inl rfl) (pe_ix ix_list (pv 1 (by rfl) (by walk_at "vis") (by decide) (by decide)) (qe_call G__law_next (hr.mono (by decide)) (by rfl) T.m__law_next T.k__law_next T.bd__law_next .nil pass0 (qa (pv 0 (by rfl) (by walk_at "vis") (by decide) (by decide)) (qa (qe_callB cn_len (by rfl) T.b_len (by decide +kernel) (qa (pv 1 (by rfl) (by walk_at "vis") (by decide) (by decide)) qa_nil (by rfl)) (by decide) (by decide) (by rfl) (by rfl)) qa_nil (by rfl)) (by rfl)) (by decide) (by rfl) (by rfl)) (fun _ _ => rfl)) (by rfl) (by first | exact Or.inl rfl | exact Or.inr rfl))
      (qss_cons (qs_if (pt_cmpR op_eq (qe_call G__law_next (hr.mono (by decide)) (by rfl) T.m__law_next T.k__law_next T.bd__law_next .nil pass0 (qa (pv 0 (by rfl) (by walk_at "vis") (by decide) (by decide)) (qa pe_int qa_nil (by rfl)) (by rfl)) (by decide) (by rfl) (by rfl)) pe_int (nomark _))
        (qss_one (qs_ret (qe_tupA (qa pe_str (qa (pv 2 (by rfl) (by walk_at "vis") (by decide) (by decide)) qa_nil (by rfl)) (by rfl)))))
        qss_nil)
      (qss_one (qs_ret (qe_tupA (qa pe_str (qa (pv 2 (by rfl) (by walk_at "vis") (by decide) (by decide)) (qa (qe_call G__law_amount (hr.mono (by decide)) (by rfl) T.m__law_amount T.k__law_amount T.bd__law_amount .nil pass0 (qa (pv 0 (by rfl) (by walk_at "vis") (by decide) (by decide)) qa_nil (by rfl)) (by decide) (by rfl) (by rfl)) qa_nil (by rfl)) (by rfl)) (by rfl))))))), ?_⟩
    try dsimp only [cxOf]
    walk_at "rd"
    refine ⟨st, _, rfl, S, by simp; omega, by simp; omega, fun v1 H1 a1 b1 S1 x1 => ?_⟩
    have hl1 := x1 _ _ hl (by simpa using nl)
    obtain ⟨j, rfl⟩ := Int.eq_ofNat_of_zero_le a1
    have hj : j < zs.length := by simp at b1; omega
    walk_at "rd"
    refine rd_ixL (v := .str zs[j]) (SqL.of hl1) (atI_nat (by simp [hj])) ?_
    have kz := hz zs[j] (List.getElem_mem hj)
    generalize zs[j] = z at kz
    walk_at "rd"
    refine ⟨st, 4, rfl, S1, by decide, by decide, fun v2 H2 a2 b2 S2 x2 => ?_⟩
    walk_at "rd"
    have iz : Mt.Itm 140 0 (.str z) := Mt.key_itm kz
    refine rd_ite2 (fun hc => ?_) (fun hc => ?_)
    · walk_at "rd"
      refine ⟨sz (by simp), fun t3 H3 n3 s3 g3 => ?_⟩
      refine k t3 _ [.str "cut", .str z] H3 g3 ((x1.trans x2).free n3 (S2.nin (Same.refl _) n3)) (fun _ _ => .cons (.str _) (.cons (.str _) .nil)) ?_ (by simp) ?_ (S2.same s3) ((x1.trans x2).trans (Ext.same s3))
      · rw [Mt.rowD_t, Mt.cutL_2, kz]; rfl
      · intro d hd
        simp only [List.mem_cons, List.not_mem_nil, or_false] at hd
        rcases hd with rfl | rfl
        · exact Mt.itm_str (by unfold Mt.cpsOk; decide +kernel) (by decide +kernel)
        · exact iz
    · walk_at "rd"
      refine ⟨st, rfl, S2, fun v H3 a3 b3 S3 x3 => ?_⟩
      walk_at "rd"
      refine ⟨sz (by simp), fun t4 H4 n4 s4 g4 => ?_⟩
      have x03 := (x1.trans x2).trans x3
      refine k t4 _ [.str "set", .str z, .int v] H4 g4 (x03.free n4 (S3.nin (Same.refl _) n4)) (fun _ _ => .cons (.str _) (.cons (.str _) (.cons (.int _) .nil))) ?_ (by simp) ?_ (S3.same s4) (x03.trans (Ext.same s4))
      · rw [Mt.rowD_t, Mt.setL_3, kz]
        simp only [Mt.withinD, decide_eq_true a3, decide_eq_true b3]
        rfl
      · intro d hd
        simp only [List.mem_cons, List.not_mem_nil, or_false] at hd
        rcases hd with rfl | rfl | rfl
        · exact Mt.itm_str (by unfold Mt.cpsOk; decide +kernel) (by decide +kernel)
        · exact iz
        · exact Mt.itm_int (by omega)

noncomputable def sp_law_keys (K : PySem.W.Frag) : Sp := fun vs H Q _ => ∃ (st : Addr), vs = [.ref st] ∧ StOk K H st ∧
  ∀ (l : Addr) (zs : List Str) (H' : Hp), H' l = some (.lst (zs.map V.str)) → l ≠ st → H l = none → 1 ≤ zs.length → zs.length ≤ 5 → (∀ z ∈ zs, Mt.keyD (.str z) = true) → StOk K H' st → Ext [st] H H' → Q (.ref l) H'
theorem ok_law_keys (T : Txt P K mg a) (G__law_key : FnOk P w K mg base CX0 2 a.f_law_key a.d_law_key ["_law_state_here"] (sp_law_key K)) (G__law_next : FnOk P w K mg base CX0 1 a.f_law_next a.d_law_next ["_law_state_here", "_law_below"] (sp_law_next K)) : FnOk P w K mg base CX0 3 a.f_law_keys a.d_law_keys ["_law_state_here"] (sp_law_keys K) := by
  refine T.F_law_keys.ok sc_law_keys (fun vs H Q E h => ?_) (fun cdv A outer s H vs Q E hr h => ?_)
  · obtain ⟨st, rfl, _⟩ := h; rfl
  · obtain ⟨st, rfl, S, k⟩ := h
    refine exW ⟨_, (qss_one (qs_ret (by
        refine' pe_comp (NC := ["_law_k", "_law_state_here"]) (fr := [none, some 0]) ?B6 rfl ?hi6 ?hg6 ?ht6 ?he6 (by intro _; rfl)
        case B6 => exact ⟨rfl, rfl, by decide +kernel, by decide +kernel, rfl, ⟨trivial, ⟨rfl, rfl, Or.inl rfl⟩, trivial⟩⟩
        case hi6 => exact (qi_range1 (by rfl) T.b_range (qa (pe_op op_add pe_int (qe_call G__law_next (hr.mono (by decide)) (by rfl) T.m__law_next T.k__law_next T.bd__law_next .nil pass0 (qa (pv 0 (by rfl) (by walk_at "vis") (by decide) (by decide)) (qa pe_int qa_nil (by rfl)) (by rfl)) (by decide) (by rfl) (by rfl))) qa_nil (by rfl)) (by rfl))
        case hg6 => intro _ _ _; exact (pg_name (i := 0) (show (["_law_k", "_law_state_here"] : List Str).Nodup by decide +kernel) rfl (Or.inl rfl) (by first | exact Or.inl rfl | exact Or.inr rfl))
        case ht6 => intro _ _ _; exact pf_nil
        case he6 => intro _ _ _; exact (qe_call G__law_key (hr.mono (by decide)) (by rfl) T.m__law_key T.k__law_key T.bd__law_key .nil pass0 (qa (pv 1 (by rfl) (by walk_at "vis") (by decide) (by decide)) qa_nil (by rfl)) (by decide) (by rfl) (by rfl))))), ?_⟩
    try dsimp only [cxOf]
    walk_at "rd"
    refine ⟨st, 5, rfl, S, by decide, by decide, fun v1 H1 a1 b1 S1 x1 => ?_⟩
    walk_at "rd"
    refine ⟨by omega, by omega, ?_⟩
    intro acc hacc nka
    refine comp_by (1 + v1).toNat ?_ (fun i vs σc H' => ∃ (o : Option V) (zs : List Str), σc = [o, some (.ref st)] ∧ vs = zs.map V.str ∧ (∀ z ∈ zs, Mt.keyD (.str z) = true) ∧ StOk K H' st ∧ Ext [st] H1 H') ?_ ?_ ?_
    · have : sizeLine = 16777216 := rfl
      omega
    · exact ⟨none, [], rfl, rfl, by simp, S1.toStOk.same (Same.upd hacc), Ext.new hacc⟩
    · rintro i vs σc H' hi hl ha ⟨o, zs, rfl, rfl, hz, S', x'⟩
      refine ⟨hi, ?_⟩
      rintro x H2 ⟨hH6, rfl⟩ R hR
      subst hH6
      walk_at "rd"
      refine ⟨st, rfl, S', fun z H3 kz S3 x3 => ?_⟩
      have na : acc ∉ [st] := S1.nin (Same.refl _) hacc
      have ha3 := x3 _ _ ha na
      refine hR _ _ _ ha3 ⟨_, zs ++ [z], rfl, by simp, ?_, ?_, ?_⟩
      · intro y hy
        rcases List.mem_append.mp hy with hy | hy
        · exact hz y hy
        · have : y = z := by simpa using hy
          rw [this]; exact kz
      · exact StOk.accS S3 (by simpa using na) ha3 strs_noint
      · intro b u e n
        have nb : b ≠ acc := ne_of_none e hacc
        rw [upd_ne nb]
        exact x3 _ _ (x' _ _ e n) n
    · rintro vs σc H' hl ha ⟨o, zs, rfl, rfl, hz, S', x'⟩
      refine ⟨Nat.le_refl _, ?_⟩
      rw [List.length_map] at hl
      have na : acc ∉ [st] := S1.nin (Same.refl _) hacc
      exact k acc zs H' ha (by simpa using na) (x1.free hacc na) (by omega) (by omega) hz S' (x1.trans x')

noncomputable def sp_law_says (K : PySem.W.Frag) : Sp := fun vs H Q _ => ∃ (b c : Bool), vs = [.bl b, .bl c] ∧ Q (.bl (decide (V.bl b = V.bl c))) H
theorem ok_law_says (T : Txt P K mg a)  : FnOk P w K mg base CX0 1 a.f_law_says a.d_law_says ["_law_found", "_law_due"] (sp_law_says K) := by
  refine T.F_law_says.ok sc_law_says (fun vs H Q E h => ?_) (fun cdv A outer s H vs Q E hr h => ?_)
  · obtain ⟨b, c, rfl, _⟩ := h; rfl
  · obtain ⟨b, c, rfl, k⟩ := h
    refine exW ⟨_, (qss_one (qs_ret (pe_and (qe_callB cn_isi (by rfl) T.b_isinstance (by decide +kernel) (qa (pv 0 (by rfl) (by walk_at "vis") (by decide) (by decide)) (qa (pe_bltn (by rfl) T.b_bool (by decide +kernel) (v := .ty "bool") rfl (by decide) (by decide)) qa_nil (by rfl)) (by rfl)) (by decide) (by decide) (by rfl) (by rfl)) (pe_one (pe_cmpR op_eq (pv 0 (by rfl) (by walk_at "vis") (by decide) (by decide)) (pv 1 (by rfl) (by walk_at "vis") (by decide) (by decide)) (nomark _)))))), ?_⟩
    try dsimp only [cxOf]
    walk_at "rq"
    refine rd_isi (.bl _) (b := true) (subT_of (by simp) (by simp)) ?_
    walk_at "rq"
    exact k

noncomputable def sp_law_deep (K : PySem.W.Frag) : Sp := fun vs H Q _ => ∃ (n : Nat) (N : List Addr), vs = [.int n] ∧ n < 18 ∧ (∀ b ∈ N, H b ≠ none) ∧ ∀ (x : V) (H' : Hp), Same H H' → Dt K (sysModules :: N) H' x (Mt.deepD n) → Q x H'
theorem ok_law_deep (T : Txt P K mg a)  : FnOk P w K mg base CX0 1 a.f_law_deep a.d_law_deep ["_law_many"] (sp_law_deep K) := by
  refine T.F_law_deep.ok sc_law_deep (fun vs H Q E h => ?_) (fun cdv A outer s H vs Q E hr h => ?_)
  · obtain ⟨n, N, rfl, _⟩ := h; rfl
  · obtain ⟨n, N, rfl, hn, tr, k⟩ := h
    have nin : ∀ {H' : Hp} {p : Addr}, Same H H' → H' p = none → p ≠ sysModules → p ∉ sysModules :: N := fun s hp np z => by
      rcases List.mem_cons.mp z with z | z
      · exact np z
      · exact tr _ z (s.free hp)
    refine exW ⟨_, (qss_cons (qs_set (i := 1) sc_law_deep.nd rfl (Or.inl rfl) (qe_tupS qa_nil) (by rfl) (by first | exact Or.inl rfl | exact Or.inr rfl))
      (qss_cons (qs_for PassesOwn.never rfl (qi_range1 (by rfl) T.b_range (qa (pv 0 (by rfl) (by walk_at "vis") (by decide) (by decide)) qa_nil (by rfl)) (by rfl)) (pg_name (i := 2) sc_law_deep.nd rfl (Or.inl rfl) (by first | exact Or.inl rfl | exact Or.inr rfl))
        (qss_one (qs_set (i := 1) sc_law_deep.nd rfl (Or.inl rfl) (pe_ix ix_list (qe_lstS (qa (qe_tupS (qa (pv 1 (by rfl) (by walk_at "vis") (by decide) (by decide)) qa_nil (by rfl))) (qa (qe_lstS (qa (pv 1 (by rfl) (by walk_at "vis") (by decide) (by decide)) qa_nil (by rfl))) (qa (pe_disp1 (pv 2 (by rfl) (by walk_at "vis") (by decide) (by decide)) (pv 1 (by rfl) (by walk_at "vis") (by decide) (by decide))) qa_nil (by rfl)) (by rfl)) (by rfl))) (pe_op op_mod (pv 2 (by rfl) (by walk_at "vis") (by decide) (by decide)) pe_int) (fun _ _ => rfl)) (by rfl) (by first | exact Or.inl rfl | exact Or.inr rfl))) (by intro _; rfl))
      (qss_one (qs_ret (pv 1 (by rfl) (by walk_at "vis") (by decide) (by decide)))))), ?_⟩
    try dsimp only [cxOf]
    walk_at "rd"
    refine ⟨sz (by simp), fun p0 H0 n0 m0 s0 g0 => ?_⟩
    walk_at "rd"
    refine ⟨by omega, by omega, ?_⟩
    have e0 : (n : Int).toNat = n := by simp
    rw [e0]
    refine for_rangeW (fun i σ' H' => ∃ (v : V) (o2 : Option V), σ' = [some (.int n), some v, o2] ∧ Same H H' ∧ Dt K (sysModules :: N) H' v (Mt.deepD i)) ?_ ?_ ?_
    · exact ⟨_, none, rfl, s0, .tup (SqT.of g0) (nin (Same.refl _) n0 m0) .nil⟩
    · rintro i σ' H1 hi ⟨v, o2, rfl, s1, hd⟩
      walk_at "rd"
      refine ⟨sz (by simp), fun t1 H2 n2 m2 s2 g2 => ?_⟩
      walk_at "rd"
      refine ⟨sz (by simp), fun l1 H3 n3 m3 s3 g3 => ?_⟩
      walk_at "rd"
      intro dx nd md
      walk_at "rd"
      refine ⟨upd_same, .inl (0 + i), rfl, ?_⟩
      walk_at "rd"
      have s4 : Same H3 (upd (upd H3 dx (.dK [])) dx (.dK [(.inl (0 + i), v)])) := by rw [upd_upd]; exact Same.upd nd
      have g4 : (upd (upd H3 dx (.dK [])) dx (.dK [(.inl (0 + i), v)])) dx = some (.dK [(.inl (0 + i), v)]) := upd_same
      generalize upd (upd H3 dx (.dK [])) dx (.dK [(.inl (0 + i), v)]) = H4 at s4 g4 ⊢
      refine ⟨sz (by simp), fun l5 H5 n5 m5 s5 g5 => ?_⟩
      walk_at "rd"
      have s15 : Same H1 H5 := s2.trans (s3.trans (s4.trans s5))
      have hd5 := hd.ext (Ext.same s15)
      have ez : (0 : Int) + (i : Int) = i := by omega
      have dt : Dt K (sysModules :: N) H5 (.ref t1) (.tuple [Mt.deepD i]) := .tup (SqT.of ((s3.trans (s4.trans s5)) _ _ g2)) (nin s1 n2 m2) (.cons hd5 .nil)
      have dl : Dt K (sysModules :: N) H5 (.ref l1) (.list [Mt.deepD i]) := .lst (SqL.of ((s4.trans s5) _ _ g3)) (nin (s1.trans s2) n3 m3) (.cons hd5 .nil)
      have dd : Dt K (sysModules :: N) H5 (.ref dx) (.dict [(.int i, Mt.deepD i)]) := by
        have := Dt.dk1 (K := K) (s5 _ _ g4) (nin (s1.trans (s2.trans s3)) nd md) hd5
        rw [ez] at this
        exact this
      rw [ez]
      have h3 : i % 3 < 3 := Nat.mod_lt _ (by decide)
      have e3 : (i : Int) % 3 = ((i % 3 : Nat) : Int) := by omega
      rw [e3]
      have fin : ∀ w : V, ([V.ref t1, .ref l1, .ref dx] : List V)[i % 3]? = some w → Dt K (sysModules :: N) H5 w (Mt.deepD (i + 1)) := fun w hw => by
        unfold Mt.deepD
        match h : i % 3, h3 with
        | 0, _ => rw [h] at hw; cases hw; simpa using dt
        | 1, _ => rw [h] at hw; cases hw; simpa using dl
        | 2, _ => rw [h] at hw; cases hw; simpa using dd
      obtain ⟨w, hw⟩ : ∃ w, ([V.ref t1, .ref l1, .ref dx] : List V)[i % 3]? = some w := by
        match i % 3, h3 with
        | 0, _ => exact ⟨_, rfl⟩
        | 1, _ => exact ⟨_, rfl⟩
        | 2, _ => exact ⟨_, rfl⟩
      refine rd_ixL (v := w) (SqL.of g5) (atI_nat hw) ?_
      walk_at "rd"
      exact ⟨w, _, rfl, s1.trans s15, fin w hw⟩
    · rintro σ' H1 ⟨v, o2, rfl, s1, hd⟩
      walk_at "rd"
      exact k _ _ s1 hd

noncomputable def sp_law_upto (K : PySem.W.Frag) : Sp := fun vs H Q _ => ∃ (N : List Addr) (x : V) (d : PyData) (m : Int), vs = [x, .int m] ∧ Dt K N H x d ∧ Q (.bl (Mt.withinD 0 m d)) H
theorem ok_law_upto (T : Txt P K mg a) (G__law_whole : FnOk P w K mg base CX0 1 a.f_law_whole a.d_law_whole ["_law_found"] (sp_law_whole K)) : FnOk P w K mg base CX0 2 a.f_law_upto a.d_law_upto ["_law_thing", "_law_most"] (sp_law_upto K) := by
  refine T.F_law_upto.ok sc_law_upto (fun vs H Q E h => ?_) (fun cdv A outer s H vs Q E hr h => ?_)
  · obtain ⟨N, x, d, m, rfl, _⟩ := h; rfl
  · obtain ⟨N, x, d, m, rfl, hd, k⟩ := h
    refine exW ⟨_, (qss_one (qs_ret (pe_and (qe_call G__law_whole (hr.mono (by decide)) (by rfl) T.m__law_whole T.k__law_whole T.bd__law_whole .nil pass0 (qa (pv 0 (by rfl) (by walk_at "vis") (by decide) (by decide)) qa_nil (by rfl)) (by decide) (by rfl) (by rfl)) (pe_one (pe_chain op_le op_le pe_int (pv 0 (by rfl) (by walk_at "vis") (by decide) (by decide)) (pv 1 (by rfl) (by walk_at "vis") (by decide) (by decide)) (by with_unfolding_all rfl)))))), ?_⟩
    try dsimp only [cxOf]
    walk_at "rd"
    refine ⟨N, x, d, rfl, hd, rd_bl' ?_⟩
    cases hd with
    | int i =>
      dsimp only [Mt.numD]
      walk_at "rd"
      refine rd_ite2 (fun hc => ?_) (fun hc => ?_)
      · walk_at "rd"
        simpa only [Mt.withinD, hc, Bool.true_and] using k
      · simpa only [Mt.withinD, hc, Bool.false_and] using k
    | _ => dsimp only [Mt.numD]; walk_at "rd"; exact k

noncomputable def sp_law_is_key (K : PySem.W.Frag) : Sp := fun vs H Q _ => ∃ (N : List Addr) (x : V) (d : PyData), vs = [x] ∧ Dt K N H x d ∧ d.weight ≤ 1000000 ∧ ∀ H', Same H H' → Q (.bl (Mt.keyD d)) H'
theorem ok_law_is_key (T : Txt P K mg a)  : FnOk P w K mg base CX0 1 a.f_law_is_key a.d_law_is_key ["_law_thing"] (sp_law_is_key K) := by
  refine T.F_law_is_key.ok sc_law_is_key (fun vs H Q E h => ?_) (fun cdv A outer s H vs Q E hr h => ?_)
  · obtain ⟨N, x, d, rfl, _⟩ := h; rfl
  · obtain ⟨N, x, d, rfl, hd, hw, k⟩ := h
    refine exW ⟨_, (qss_cons (qs_if (pw_or (pt_not (pt_val (qe_callB cn_isi (by rfl) T.b_isinstance (by decide +kernel) (qa (pv 0 (by rfl) (by walk_at "vis") (by decide) (by decide)) (qa (pe_bltn (by rfl) T.b_str (by decide +kernel) (v := .ty "str") rfl (by decide) (by decide)) qa_nil (by rfl)) (by rfl)) (by decide) (by decide) (by rfl) (by rfl)) (by intro _; rfl))) (pw_or1 (pt_not (pt_chain op_le op_le pe_int (qe_callB cn_lenS (by rfl) T.b_len (by decide +kernel) (qa (pv 0 (by rfl) (by walk_at "vis") (by decide) (by decide)) qa_nil (by rfl)) (by decide) (by decide) (by rfl) (by rfl)) pe_int (by with_unfolding_all rfl))))).pt
        (qss_one (qs_ret pe_bl))
        qss_nil)
      (qss_one (qs_ret (pe_cmpR op_eq (qe_callB cn_len (by rfl) T.b_len (by decide +kernel) (qa (by
        refine' pe_comp (NC := ["_law_sign"]) (fr := [none]) ?B7 rfl ?hi7 ?hg7 ?ht7 ?he7 (by intro _; rfl)
        case B7 => exact ⟨rfl, rfl, by decide +kernel, by decide +kernel, rfl, ⟨trivial, trivial⟩⟩
        case hi7 => exact (pi_str (pv 0 (by rfl) (by walk_at "vis") (by decide) (by decide)))
        case hg7 => intro _ _ _; exact (pg_name (i := 0) (show (["_law_sign"] : List Str).Nodup by decide +kernel) rfl (Or.inl rfl) (by first | exact Or.inl rfl | exact Or.inr rfl))
        case ht7 => intro _ _ _; exact (pf_one (pt_cmpR on_notInS (pv 0 (by rfl) (by walk_at "vis") (by decide) (by decide)) pe_str (by with_unfolding_all rfl)))
        case he7 => intro _ _ _; exact (pv 0 (by rfl) (by walk_at "vis") (by decide) (by decide))) qa_nil (by rfl)) (by decide) (by decide) (by rfl) (by rfl)) pe_int (nomark _))))), ?_⟩
    try dsimp only [cxOf]
    have k0 := k H (Same.refl H)
    walk_at "rd"
    cases hd with
    | str z =>
      have hz : z.length ≤ sizeLine := by
        have e : (PyData.str z).weight = z.length := rfl
        have : sizeLine = 16777216 := rfl
        omega
      dsimp only [isStrD]
      walk_at "rd"
      have short : ¬ (1 ≤ z.length ∧ z.length ≤ 12) → Q (.bl false) H := fun hs => by
        have e : Mt.keyD (.str z) = false := by
          simp only [Mt.keyD, Bool.and_eq_false_iff, decide_eq_false_iff_not]
          omega
        rwa [e] at k0
      refine rd_ite2 (fun h1 => ?_) (fun h1 => ?_)
      · walk_at "rd"
        refine rd_ite2 (fun h2 => ?_) (fun h2 => ?_)
        · simp only [Bool.not_eq_true', decide_eq_false_iff_not] at h2
          walk_at "rd"
          exact short (by omega)
        · have g1 := of_decide_eq_true h1
          simp only [Bool.not_eq_false', decide_eq_true_eq] at h2
          have l1 : 1 ≤ z.length := by omega
          have l2 : z.length ≤ 12 := by omega
          have lz : z.length = z.cps.toList.length := by simp [Str.length]
          walk_at "rd"
          refine ⟨z, rfl, ?_⟩
          intro acc hacc nka
          refine comp_byF z.length ?_ (fun i vs σc H' => Same H H' ∧ (∃ o, σc = [o]) ∧ vs.length = ((z.cps.toList.take i).filter fun c => !lowC c).length) ?_ ?_ ?_
          · have : sizeLine = 16777216 := rfl
            omega
          · exact ⟨(Same.refl H).upd2 hacc, ⟨none, rfl⟩, by simp⟩
          · rintro i vs σc H' hi hl ha ⟨sm, ⟨o, rfl⟩, hv⟩
            refine ⟨hi, ?_⟩
            rintro x H2 ⟨rfl, c, hc, rfl⟩ R S hR hS
            have hc' : z.cps.toList[i]? = some c := by rw [← hc]; simp
            walk_at "rd"
            rw [show (Str.ofString "abcdefghijklmnopqrstuvwxyz") = abc from rfl, occ_abc]
            cases hlo : lowC c with
            | true =>
              walk_at "rd"
              refine hS _ _ ha ⟨sm, ⟨_, rfl⟩, ?_⟩
              rw [List.take_add_one, hc', List.filter_append, List.length_append, hv]
              simp [hlo]
            | false =>
              walk_at "rd"
              refine hR _ _ _ ha ⟨sm.upd2 hacc, ⟨_, rfl⟩, ?_⟩
              rw [List.take_add_one, hc', List.filter_append, List.length_append, List.length_append, hv]
              simp [hlo]
          · rintro vs σc H' hl ha ⟨sm, _, hv⟩
            refine ⟨rfl, ?_⟩
            rw [lz, List.take_length] at hv
            walk_at "rd"
            have k1 := k H' sm
            have e : Mt.keyD (.str z) = decide (V.int (vs.length : Int) = V.int 0) := by
              rw [Mt.keyD_s, decide_eq_true l1, decide_eq_true l2, Bool.true_and, Bool.true_and, hv, low_all]
            rwa [e] at k1
      · walk_at "rd"
        simp only [decide_eq_false_iff_not] at h1
        exact short (by omega)
    | _ => dsimp only [isStrD]; walk_at "rd"; exact k0

noncomputable def sp_law_is_row (K : PySem.W.Frag) : Sp := fun vs H Q _ => ∃ (N : List Addr) (x : V) (d : PyData), vs = [x] ∧ Dt K N H x d ∧ d.weight ≤ 1000000 ∧ ∀ H', Same H H' → Q (.bl (Mt.rowD d)) H'
theorem ok_law_is_row (T : Txt P K mg a) (G__law_is_key : FnOk P w K mg base CX0 1 a.f_law_is_key a.d_law_is_key ["_law_thing"] (sp_law_is_key K)) (G__law_whole : FnOk P w K mg base CX0 1 a.f_law_whole a.d_law_whole ["_law_found"] (sp_law_whole K)) : FnOk P w K mg base CX0 2 a.f_law_is_row a.d_law_is_row ["_law_thing"] (sp_law_is_row K) := by
  refine T.F_law_is_row.ok sc_law_is_row (fun vs H Q E h => ?_) (fun cdv A outer s H vs Q E hr h => ?_)
  · obtain ⟨N, x, d, rfl, _⟩ := h; rfl
  · obtain ⟨N, x, d, rfl, hd, hw, k⟩ := h
    refine exW ⟨_, (qss_cons (qs_if (pw_or (pt_not (pt_val (qe_callB cn_isi (by rfl) T.b_isinstance (by decide +kernel) (qa (pv 0 (by rfl) (by walk_at "vis") (by decide) (by decide)) (qa (pe_bltn (by rfl) T.b_tuple (by decide +kernel) (v := .ty "tuple") rfl (by decide) (by decide)) qa_nil (by rfl)) (by rfl)) (by decide) (by decide) (by rfl) (by rfl)) (by intro _; rfl))) (pw_or (pt_cmpR op_lt (qe_callB cn_len (by rfl) T.b_len (by decide +kernel) (qa (pv 0 (by rfl) (by walk_at "vis") (by decide) (by decide)) qa_nil (by rfl)) (by decide) (by decide) (by rfl) (by rfl)) pe_int (nomark _)) (pw_or (pt_not (pt_val (qe_callB cn_isi (by rfl) T.b_isinstance (by decide +kernel) (qa (pe_ix ix_tup (pv 0 (by rfl) (by walk_at "vis") (by decide) (by decide)) pe_int (fun _ _ => rfl)) (qa (pe_bltn (by rfl) T.b_str (by decide +kernel) (v := .ty "str") rfl (by decide) (by decide)) qa_nil (by rfl)) (by rfl)) (by decide) (by decide) (by rfl) (by rfl)) (by intro _; rfl))) (pw_or1 (pt_not (pt_val (qe_call G__law_is_key (hr.mono (by decide)) (by rfl) T.m__law_is_key T.k__law_is_key T.bd__law_is_key .nil pass0 (qa (pe_ix ix_tup (pv 0 (by rfl) (by walk_at "vis") (by decide) (by decide)) pe_int (fun _ _ => rfl)) qa_nil (by rfl)) (by decide) (by rfl) (by rfl)) (by intro _; rfl))))))).pt
        (qss_one (qs_ret pe_bl))
        qss_nil)
      (qss_cons (qs_if (pt_cmpR op_eq (pe_ix ix_tup (pv 0 (by rfl) (by walk_at "vis") (by decide) (by decide)) pe_int (fun _ _ => rfl)) pe_str (nomark _))
        (qss_one (qs_ret (pe_cmpR op_eq (qe_callB cn_len (by rfl) T.b_len (by decide +kernel) (qa (pv 0 (by rfl) (by walk_at "vis") (by decide) (by decide)) qa_nil (by rfl)) (by decide) (by decide) (by rfl) (by rfl)) pe_int (nomark _))))
        qss_nil)
      (qss_one (qs_ret (pe_and (pe_cmpR op_eq (pe_ix ix_tup (pv 0 (by rfl) (by walk_at "vis") (by decide) (by decide)) pe_int (fun _ _ => rfl)) pe_str (nomark _)) (pe_and (pe_cmpR op_eq (qe_callB cn_len (by rfl) T.b_len (by decide +kernel) (qa (pv 0 (by rfl) (by walk_at "vis") (by decide) (by decide)) qa_nil (by rfl)) (by decide) (by decide) (by rfl) (by rfl)) pe_int (nomark _)) (pe_and (qe_call G__law_whole (hr.mono (by decide)) (by rfl) T.m__law_whole T.k__law_whole T.bd__law_whole .nil pass0 (qa (pe_ix ix_tup (pv 0 (by rfl) (by walk_at "vis") (by decide) (by decide)) pe_int (fun _ _ => rfl)) qa_nil (by rfl)) (by decide) (by rfl) (by rfl)) (pe_one (pe_cmpR op_le (qe_callB cn_abs (by rfl) T.b_abs (by decide +kernel) (qa (pe_ix ix_tup (pv 0 (by rfl) (by walk_at "vis") (by decide) (by decide)) pe_int (fun _ _ => rfl)) qa_nil (by rfl)) (by decide) (by decide) (by rfl) (by rfl)) (pe_op op_pow pe_int pe_int) (nomark _)))))))))), ?_⟩
    try dsimp only [cxOf]
    have k0 := k H (Same.refl H)
    walk_at "rq"
    cases ht : isTupD d with
    | false =>
      rw [Mt.rowD_tup ht] at k0
      refine rd_iteT ?_
      walk_at "rq"
      exact k0
    | true =>
      obtain ⟨es, rfl⟩ := Mt.tup_of ht
      obtain ⟨b, ys, rfl, q, r⟩ := dt_tuple hd
      have ly := r.length
      refine rd_iteF ?_
      walk_at "rq"
      rw [Mt.rowD_t] at k0
      simp only [Mt.rowD_t] at k
      by_cases h2 : ys.length < 2
      · rw [show decide ((ys.length : Int) < 2) = true from decide_eq_true (by omega)]
        refine rd_iteT ?_
        walk_at "rq"
        rw [Mt.setL_len (by omega), Mt.cutL_len (by omega)] at k0
        exact k0
      · rw [show decide ((ys.length : Int) < 2) = false from decide_eq_false (by omega)]
        refine rd_iteF ?_
        obtain ⟨y1, y2, yr, e1, e2, er, rfl, rfl, r1, r2, r3⟩ := Mt.dt_more2 r (by omega)
        walk_at "rq"
        refine rd_ixT q (atI_nat (j := 0) rfl) ?_
        walk_at "rq"
        cases hs : isStrD e1 with
        | false =>
          rw [Mt.setL_no (Mt.strEq_ns hs), Mt.cutL_no (Mt.strEq_ns hs)] at k0
          refine rd_iteT ?_
          walk_at "rq"
          exact k0
        | true =>
          obtain ⟨z, rfl⟩ := Mt.str_of hs
          obtain rfl := Mt.dt_str r1
          refine rd_iteF ?_
          walk_at "rq"
          refine rd_ixT q (atI_nat (j := 1) rfl) ?_
          walk_at "rq"
          refine ⟨N, y2, e2, rfl, r2, PyData.wt_at (i := 1) rfl hw, fun H1 s1 => ?_⟩
          have k1 := k H1 s1
          have q1 := s1.tupS q
          have r3 := r3.ext (Ext.same (N := N) s1)
          cases hk : Mt.keyD e2 with
          | false =>
            rw [Mt.setL_nk hk, Mt.cutL_nk hk] at k1
            refine rd_bl' ?_
            refine rd_iteT ?_
            walk_at "rq"
            exact k1
          | true =>
            refine rd_bl' ?_
            refine rd_iteF ?_
            walk_at "rq"
            refine rd_ixT q1 (atI_nat (j := 0) rfl) ?_
            walk_at "rq"
            rw [Mt.eqS]
            cases hz : decide (z = Str.ofString "cut") with
            | true =>
              refine rd_iteT ?_
              walk_at "rq"
              obtain rfl := of_decide_eq_true hz
              rw [Mt.setL_no (by decide +kernel)] at k1
              have e : Mt.cutL (.str (Str.ofString "cut") :: e2 :: er) = decide (V.int ((V.str (Str.ofString "cut") :: y2 :: yr).length : Int) = V.int 2) := by
                cases er with
                | nil =>
                  cases r3
                  rw [Mt.cutL_2, hk]; rfl
                | cons e3 er =>
                  rw [Mt.cutL_len (by simp), eq_comm, decide_eq_false_iff_not]
                  intro z
                  injection z with z
                  have := r3.length
                  simp only [List.length_cons] at z this
                  omega
              rw [e] at k1
              exact k1
            | false =>
              refine rd_iteF ?_
              walk_at "rq"
              refine rd_ixT q1 (atI_nat (j := 0) rfl) ?_
              walk_at "rq"
              rw [Mt.eqS]
              rw [Mt.cutL_no (by rw [Mt.strEq_s]; exact hz), Bool.or_false] at k1
              cases hz2 : decide (z = Str.ofString "set") with
              | false =>
                rw [Mt.setL_no (by rw [Mt.strEq_s]; exact hz2)] at k1
                exact k1
              | true =>
                refine rd_iteT ?_
                walk_at "rq"
                by_cases h3 : (V.str z :: y2 :: yr).length = 3
                · rw [show decide (V.int ((V.str z :: y2 :: yr).length : Int) = V.int 3) = true from decide_eq_true (by rw [h3]; rfl)]
                  refine rd_iteT ?_
                  cases r3 with
                  | nil => simp at h3
                  | cons q3 r4 => cases r4 with
                    | cons q4 r5 => simp at h3
                    | nil =>
                      rename_i d3 y3
                      walk_at "rq"
                      refine ⟨N, d3, y3, rfl, q3, ?_⟩
                      rw [Mt.setL_3, Mt.strEq_s, hz2, hk] at k1
                      cases hn : Mt.numD y3 with
                      | false =>
                        rw [show Mt.withinD (-1000000000000000000) 1000000000000000000 y3 = false by cases y3 <;> first | rfl | cases hn] at k1
                        refine ⟨_, rfl, ?_⟩
                        refine rd_iteF ?_
                        exact k1
                      | true =>
                        obtain ⟨i, rfl⟩ := Mt.numD_int hn
                        obtain rfl := dt_int q3
                        refine ⟨_, rfl, ?_⟩
                        refine rd_iteT ?_
                        walk_at "rq"
                        rw [abs_le]
                        exact k1
                · rw [show decide (V.int ((V.str z :: y2 :: yr).length : Int) = V.int 3) = false from decide_eq_false (fun z => h3 (by injection z with z; omega))]
                  have := r3.length
                  rw [Mt.setL_len (by simp only [List.length_cons] at h3 ⊢; omega)] at k1
                  exact k1

noncomputable def sp_law_is_past (K : PySem.W.Frag) : Sp := fun vs H Q _ => ∃ (N : List Addr) (x : V) (d : PyData), vs = [x] ∧ Dt K N H x d ∧ ∀ H', Same H H' → Q (.bl (Mt.histD d)) H'
theorem ok_law_is_past (T : Txt P K mg a) (G__law_upto : FnOk P w K mg base CX0 2 a.f_law_upto a.d_law_upto ["_law_thing", "_law_most"] (sp_law_upto K)) : FnOk P w K mg base CX0 3 a.f_law_is_past a.d_law_is_past ["_law_thing"] (sp_law_is_past K) := by
  refine T.F_law_is_past.ok sc_law_is_past (fun vs H Q E h => ?_) (fun cdv A outer s H vs Q E hr h => ?_)
  · obtain ⟨N, x, d, rfl, _⟩ := h; rfl
  · obtain ⟨N, x, d, rfl, hd, k⟩ := h
    refine exW ⟨_, (qss_cons (qs_if (pw_or (pt_not (pt_val (qe_callB cn_isi (by rfl) T.b_isinstance (by decide +kernel) (qa (pv 0 (by rfl) (by walk_at "vis") (by decide) (by decide)) (qa (pe_bltn (by rfl) T.b_tuple (by decide +kernel) (v := .ty "tuple") rfl (by decide) (by decide)) qa_nil (by rfl)) (by rfl)) (by decide) (by decide) (by rfl) (by rfl)) (by intro _; rfl))) (pw_or1 (pt_not (pt_chain op_le op_le pe_int (qe_callB cn_len (by rfl) T.b_len (by decide +kernel) (qa (pv 0 (by rfl) (by walk_at "vis") (by decide) (by decide)) qa_nil (by rfl)) (by decide) (by decide) (by rfl) (by rfl)) pe_int (by with_unfolding_all rfl))))).pt
        (qss_one (qs_ret pe_bl))
        qss_nil)
      (qss_cons (qs_for PassesOwn.never rfl (pi_tup (pv 0 (by rfl) (by walk_at "vis") (by decide) (by decide))) (pg_name (i := 1) sc_law_is_past.nd rfl (Or.inl rfl) (by first | exact Or.inl rfl | exact Or.inr rfl))
        (qss_cons (qs_if (pw_or (pt_not (pt_val (qe_callB cn_isi (by rfl) T.b_isinstance (by decide +kernel) (qa (pv 1 (by rfl) (by walk_at "vis") (by decide) (by decide)) (qa (pe_bltn (by rfl) T.b_tuple (by decide +kernel) (v := .ty "tuple") rfl (by decide) (by decide)) qa_nil (by rfl)) (by rfl)) (by decide) (by decide) (by rfl) (by rfl)) (by intro _; rfl))) (pw_or1 (pt_cmpR op_ne (qe_callB cn_len (by rfl) T.b_len (by decide +kernel) (qa (pv 1 (by rfl) (by walk_at "vis") (by decide) (by decide)) qa_nil (by rfl)) (by decide) (by decide) (by rfl) (by rfl)) pe_int (nomark _)))).pt
          (qss_one (qs_ret pe_bl))
          qss_nil)
        (qss_one (qs_if (pw_or (pt_not (pt_val (qe_call G__law_upto (hr.mono (by decide)) (by rfl) T.m__law_upto T.k__law_upto T.bd__law_upto .nil pass0 (qa (pe_ix ix_tup (pv 1 (by rfl) (by walk_at "vis") (by decide) (by decide)) pe_int (fun _ _ => rfl)) (qa (pe_op op_pow pe_int pe_int) qa_nil (by rfl)) (by rfl)) (by decide) (by rfl) (by rfl)) (by intro _; rfl))) (pw_or1 (pt_not (pt_val (qe_call G__law_upto (hr.mono (by decide)) (by rfl) T.m__law_upto T.k__law_upto T.bd__law_upto .nil pass0 (qa (pe_ix ix_tup (pv 1 (by rfl) (by walk_at "vis") (by decide) (by decide)) pe_int (fun _ _ => rfl)) (qa (pe_op op_pow pe_int pe_int) qa_nil (by rfl)) (by rfl)) (by decide) (by rfl) (by rfl)) (by intro _; rfl))))).pt
          (qss_one (qs_ret pe_bl))
          qss_nil))) (by intro _; rfl))
      (qss_cons (qs_for PassesOwn.never rfl (qi_range2 (by rfl) T.b_range (qa pe_int (qa (qe_callB cn_len (by rfl) T.b_len (by decide +kernel) (qa (pv 0 (by rfl) (by walk_at "vis") (by decide) (by decide)) qa_nil (by rfl)) (by decide) (by decide) (by rfl) (by rfl)) qa_nil (by rfl)) (by rfl)) (by rfl) (by rfl)) (pg_name (i := 2) sc_law_is_past.nd rfl (Or.inl rfl) (by first | exact Or.inl rfl | exact Or.inr rfl))
        (qss_one (qs_if (pw_or (pt_cmpR op_le (pe_ix ix_tup (pe_ix ix_tup (pv 0 (by rfl) (by walk_at "vis") (by decide) (by decide)) (pv 2 (by rfl) (by walk_at "vis") (by decide) (by decide)) (fun _ _ => rfl)) pe_int (fun _ _ => rfl)) (pe_ix ix_tup (pe_ix ix_tup (pv 0 (by rfl) (by walk_at "vis") (by decide) (by decide)) (pe_op op_sub (pv 2 (by rfl) (by walk_at "vis") (by decide) (by decide)) pe_int) (fun _ _ => rfl)) pe_int (fun _ _ => rfl)) (nomark _)) (pw_or1 (pt_cmpR op_lt (pe_ix ix_tup (pe_ix ix_tup (pv 0 (by rfl) (by walk_at "vis") (by decide) (by decide)) (pv 2 (by rfl) (by walk_at "vis") (by decide) (by decide)) (fun _ _ => rfl)) pe_int (fun _ _ => rfl)) (pe_ix ix_tup (pe_ix ix_tup (pv 0 (by rfl) (by walk_at "vis") (by decide) (by decide)) (pe_op op_sub (pv 2 (by rfl) (by walk_at "vis") (by decide) (by decide)) pe_int) (fun _ _ => rfl)) pe_int (fun _ _ => rfl)) (nomark _)))).pt
          (qss_one (qs_ret pe_bl))
          qss_nil)) (by intro _; rfl))
      (qss_one (qs_ret (pe_cmpR op_eq (pe_ix ix_tup (pe_ix ix_tup (pv 0 (by rfl) (by walk_at "vis") (by decide) (by decide)) pe_int (fun _ _ => rfl)) pe_int (fun _ _ => rfl)) pe_int (nomark _))))))), ?_⟩
    try dsimp only [cxOf]
    walk_at "rd"
    cases hd with
    | tup hq hn hr =>
      rename_i p xs ds
      have hlen := hr.length
      dsimp only [isTupD]
      walk_at "rd"
      have short : ¬ (1 ≤ ds.length ∧ ds.length ≤ 60) → Q (.bl false) H := fun hs => by
        have e : Mt.histD (.tuple ds) = false := by
          simp only [Mt.histD, Bool.and_eq_false_iff, decide_eq_false_iff_not]
          omega
        have := k H (Same.refl H)
        rwa [e] at this
      refine rd_ite2 (fun h1 => ?_) (fun h1 => ?_)
      · walk_at "rd"
        refine rd_ite2 (fun h2 => ?_) (fun h2 => ?_)
        · have h2' := h2
          simp only [Bool.not_eq_true', decide_eq_false_iff_not] at h2'
          walk_at "rd"
          exact short (by omega)
        · have g1 := of_decide_eq_true h1
          simp only [Bool.not_eq_false', decide_eq_true_eq] at h2
          have l1 : 1 ≤ ds.length := by omega
          have l2 : ds.length ≤ 60 := by omega
          have no : (ds.all Mt.begunD = false) → ∀ H2, Same H H2 → Q (.bl false) H2 := fun e H2 s2 => by
            have := k H2 s2
            rwa [Mt.hist_not_begun e] at this
          walk_at "rd"
          refine ⟨p, rfl, ⟨xs, hq⟩, ?_⟩
          refine for_tupW (xs := xs) (fun i σ H' => Same H H' ∧ (∃ o o2, σ = [some (.ref p), o, o2]) ∧ (ds.take i).all Mt.begunD = true) ⟨Same.refl H, ⟨none, none, rfl⟩, by simp⟩ (fun i σ H' _ hp => hp.1.tupS hq) ?_ ?_
          · rintro i x σ H' hi ⟨sm, ⟨o, o2, rfl⟩, hall⟩
            obtain ⟨d, e2, e3⟩ := hr.get hi
            have e3' := e3.ext (Ext.same (N := N) sm)
            have bad : Mt.begunD d = false → Q (.bl false) H' := fun e => no (by
              cases hx : ds.all Mt.begunD with
              | false => rfl
              | true =>
                have := List.all_eq_true.mp hx d (List.mem_of_getElem? e2)
                rw [e] at this; cases this) H' sm
            walk_at "rd"
            cases e3' with
            | tup hq3 hn3 hr3 =>
              rename_i p3 ys es
              have hl3 := hr3.length
              dsimp only [isTupD]
              walk_at "rd"
              refine rd_ite2 (fun g3 => ?_) (fun g3 => ?_)
              · walk_at "rd"
                refine bad ?_
                cases hx : Mt.begunD (.tuple es) with
                | false => rfl
                | true =>
                  obtain ⟨a1, b1, e, _⟩ := Mt.begun_shape hx
                  cases e
                  simp [hl3] at g3
              · have e2' : ys.length = 2 := by
                  simp at g3
                  omega
                obtain ⟨z1, z2, d1, d2, rfl, rfl, q1, q2⟩ := dt_2 hr3 e2'
                walk_at "rd"
                refine ⟨N, z1, d1, _, rfl, q1, ?_⟩
                rw [Mt.p9]
                have eb : Mt.begunD (.tuple [d1, d2]) = (Mt.withinD 0 1000000000 d1 && Mt.withinD 0 1000000 d2) := rfl
                cases w1 : Mt.withinD 0 1000000000 d1 with
                | false =>
                  refine rd_bl' ?_
                  walk_at "rd"
                  exact bad (by rw [eb, w1]; rfl)
                | true =>
                  refine rd_bl' ?_
                  walk_at "rd"
                  refine ⟨N, z2, d2, _, rfl, q2, ?_⟩
                  rw [Mt.p6]
                  cases w2 : Mt.withinD 0 1000000 d2 with
                  | false =>
                    refine rd_bl' ?_
                    walk_at "rd"
                    exact bad (by rw [eb, w1, w2]; rfl)
                  | true =>
                    refine rd_bl' ?_
                    walk_at "rd"
                    refine ⟨sm, ⟨_, _, rfl⟩, ?_⟩
                    rw [List.take_add_one, e2, List.all_append, hall]
                    simp [eb, w1, w2]
            | _ => dsimp only [isTupD]; walk_at "rd"; exact bad rfl
          · rintro σ H' ⟨sm, ⟨o, o2, rfl⟩, hall⟩
            rw [hlen, List.take_length] at hall
            have pairs : ∀ i, i < ds.length → ∃ v a b, xs[i]? = some v ∧ ds[i]? = some (.tuple [.int a, .int b]) ∧ ∃ q, v = .ref q ∧ SqT K H q [.int a, .int b] := fun i hi => by
              obtain ⟨v, d, e1, e2, e3⟩ := hr.at hi
              obtain ⟨a, b, rfl, _⟩ := Mt.begun_shape (List.all_eq_true.mp hall d (List.mem_of_getElem? e2))
              obtain ⟨q, rfl, hq2, _⟩ := e3.pair
              exact ⟨_, a, b, e1, e2, q, rfl, hq2⟩
            have heq := Mt.hist_eq l1 l2 hall
            have no2 : ∀ j, j < ds.length - 1 → Mt.rise ds j = false → ∀ H2, Same H H2 → Q (.bl false) H2 := fun j hj e H2 s2 => by
              have := k H2 s2
              have e3 : (List.range (ds.length - 1)).all (Mt.rise ds) = false := by
                cases hx : (List.range (ds.length - 1)).all (Mt.rise ds) with
                | false => rfl
                | true =>
                  have := List.all_eq_true.mp hx j (List.mem_range.mpr hj)
                  rw [e] at this; cases this
              rw [heq, e3] at this
              exact this
            walk_at "rd"
            refine rd_lenT (sm.tupS hq) ?_
            walk_at "rd"
            refine ⟨1, _, rfl, ⟨by decide, by decide, by omega, by omega⟩, ?_⟩
            rw [show ((xs.length : Int) - 1).toNat = ds.length - 1 by omega]
            refine for_rangeW (fun i σ' H2 => Same H H2 ∧ (∃ o o2, σ' = [some (.ref p), o, o2]) ∧ ∀ j, j < i → Mt.rise ds j = true) ⟨sm, ⟨_, _, rfl⟩, fun j hj => absurd hj (Nat.not_lt_zero j)⟩ ?_ ?_
            · rintro i σ' H2 hi ⟨s2, ⟨o3, o4, rfl⟩, hr2⟩
              obtain ⟨v1, a1, b1, f1, f2, t1, rfl, g1'⟩ := pairs i (by omega)
              obtain ⟨v2, a2, b2, f3, f4, t2, rfl, g2'⟩ := pairs (i + 1) (by omega)
              have ris : Mt.rise ds i = (decide (a1 < a2) && decide (b1 ≤ b2)) := by simp only [Mt.rise, f2, f4]
              have q2 := s2.tupS hq
              have k1 := s2.tupS g1'
              have k2 := s2.tupS g2'
              walk_at "rd"
              have ei : (1 : Int) + (i : Int) = ((i + 1 : Nat) : Int) := by omega
              have ej : ((i + 1 : Nat) : Int) - 1 = ((i : Nat) : Int) := by omega
              rw [ei]
              refine rd_ixT q2 (atI_nat (j := i + 1) f3) ?_
              walk_at "rd"
              rw [ej]
              refine rd_ixT q2 (atI_nat (j := i) f1) ?_
              walk_at "rd"
              refine rd_ite2 (fun hx => ?_) (fun hx => ?_)
              · walk_at "rd"
                have hx := of_decide_eq_true hx
                exact no2 i hi (by rw [ris, decide_eq_false (by omega : ¬ a1 < a2)]; rfl) H2 s2
              · have hx := of_decide_eq_false hx
                walk_at "rd"
                refine rd_ixT q2 (atI_nat (j := i + 1) f3) ?_
                walk_at "rd"
                rw [ej]
                refine rd_ixT q2 (atI_nat (j := i) f1) ?_
                walk_at "rd"
                refine rd_ite2 (fun hy => ?_) (fun hy => ?_)
                · have hy := of_decide_eq_true hy
                  walk_at "rd"
                  exact no2 i hi (by rw [ris, decide_eq_false (by omega : ¬ b1 ≤ b2), Bool.and_false]) H2 s2
                · have hy := of_decide_eq_false hy
                  walk_at "rd"
                  refine ⟨s2, ⟨_, _, rfl⟩, fun j hj => ?_⟩
                  rcases Nat.lt_succ_iff_lt_or_eq.mp hj with h | h
                  · exact hr2 j h
                  · rw [h, ris, decide_eq_true (by omega : a1 < a2), decide_eq_true (by omega : b1 ≤ b2)]; rfl
            · rintro σ' H2 ⟨s2, ⟨o3, o4, rfl⟩, hr2⟩
              obtain ⟨v0, a0, b0, f1, f2, q0, rfl, hq0⟩ := pairs 0 (by omega)
              walk_at "rd"
              refine rd_ixT (s2.tupS hq) (atI_nat (j := 0) f1) ?_
              refine rd_c ?_
              refine rd_ixT (s2.tupS hq0) (atI_nat (j := 1) rfl) ?_
              walk_at "rd"
              have := k H2 s2
              rw [heq, Mt.first0_at f2, show (List.range (ds.length - 1)).all (Mt.rise ds) = true from List.all_eq_true.mpr fun j hj => hr2 j (List.mem_range.mp hj), Bool.true_and] at this
              rw [show decide (V.int b0 = V.int 0) = decide (b0 = 0) by simp only [V.int.injEq]]
              exact this
      · walk_at "rd"
        simp only [decide_eq_false_iff_not] at h1
        exact short (by omega)
    | _ => dsimp only [isTupD]; walk_at "rd"; exact k H (Same.refl H)

noncomputable def sp_law_is_said (K : PySem.W.Frag) : Sp := fun vs H Q _ => ∃ (N : List Addr) (x : V) (d : PyData), vs = [x] ∧ Dt K N H x d ∧ Q (.bl (Mt.sayD d)) H
theorem ok_law_is_said (T : Txt P K mg a) (G__law_upto : FnOk P w K mg base CX0 2 a.f_law_upto a.d_law_upto ["_law_thing", "_law_most"] (sp_law_upto K)) : FnOk P w K mg base CX0 3 a.f_law_is_said a.d_law_is_said ["_law_thing"] (sp_law_is_said K) := by
  refine T.F_law_is_said.ok sc_law_is_said (fun vs H Q E h => ?_) (fun cdv A outer s H vs Q E hr h => ?_)
  · obtain ⟨N, x, d, rfl, _⟩ := h; rfl
  · obtain ⟨N, x, d, rfl, hd, k⟩ := h
    refine exW ⟨_, (qss_cons (qs_if (pw_or (pt_not (pt_val (qe_callB cn_isi (by rfl) T.b_isinstance (by decide +kernel) (qa (pv 0 (by rfl) (by walk_at "vis") (by decide) (by decide)) (qa (pe_bltn (by rfl) T.b_tuple (by decide +kernel) (v := .ty "tuple") rfl (by decide) (by decide)) qa_nil (by rfl)) (by rfl)) (by decide) (by decide) (by rfl) (by rfl)) (by intro _; rfl))) (pw_or (pt_cmpR op_ne (qe_callB cn_len (by rfl) T.b_len (by decide +kernel) (qa (pv 0 (by rfl) (by walk_at "vis") (by decide) (by decide)) qa_nil (by rfl)) (by decide) (by decide) (by rfl) (by rfl)) pe_int (nomark _)) (pw_or1 (pt_not (pt_val (qe_call G__law_upto (hr.mono (by decide)) (by rfl) T.m__law_upto T.k__law_upto T.bd__law_upto .nil pass0 (qa (pe_ix ix_tup (pv 0 (by rfl) (by walk_at "vis") (by decide) (by decide)) pe_int (fun _ _ => rfl)) (qa pe_int qa_nil (by rfl)) (by rfl)) (by decide) (by rfl) (by rfl)) (by intro _; rfl)))))).pt
        (qss_one (qs_ret pe_bl))
        qss_nil)
      (qss_one (qs_ret (pe_and (qe_call G__law_upto (hr.mono (by decide)) (by rfl) T.m__law_upto T.k__law_upto T.bd__law_upto .nil pass0 (qa (pe_ix ix_tup (pv 0 (by rfl) (by walk_at "vis") (by decide) (by decide)) pe_int (fun _ _ => rfl)) (qa (pe_op op_pow pe_int pe_int) qa_nil (by rfl)) (by rfl)) (by decide) (by rfl) (by rfl)) (pe_and (qe_call G__law_upto (hr.mono (by decide)) (by rfl) T.m__law_upto T.k__law_upto T.bd__law_upto .nil pass0 (qa (pe_ix ix_tup (pv 0 (by rfl) (by walk_at "vis") (by decide) (by decide)) pe_int (fun _ _ => rfl)) (qa (pe_op op_pow pe_int pe_int) qa_nil (by rfl)) (by rfl)) (by decide) (by rfl) (by rfl)) (pe_one (qe_call G__law_upto (hr.mono (by decide)) (by rfl) T.m__law_upto T.k__law_upto T.bd__law_upto .nil pass0 (qa (pe_ix ix_tup (pv 0 (by rfl) (by walk_at "vis") (by decide) (by decide)) pe_int (fun _ _ => rfl)) (qa (pe_ix ix_tup (pv 0 (by rfl) (by walk_at "vis") (by decide) (by decide)) pe_int (fun _ _ => rfl)) qa_nil (by rfl)) (by rfl)) (by decide) (by rfl) (by rfl)))))))), ?_⟩
    try dsimp only [cxOf]
    walk_at "rq"
    cases ht : isTupD d with
    | false =>
      rw [Mt.sayD_tup ht] at k
      refine rd_iteT ?_
      walk_at "rq"
      exact k
    | true =>
      obtain ⟨es, rfl⟩ := Mt.tup_of ht
      obtain ⟨b, ys, rfl, q, r⟩ := dt_tuple hd
      have ly := r.length
      refine rd_iteF ?_
      walk_at "rq"
      by_cases h4 : ys.length = 4
      · rw [show decide (V.int (ys.length : Int) = V.int 4) = true from decide_eq_true (by rw [h4]; rfl)]
        obtain ⟨y1, y2, y3, y4, e1, e2, e3, e4, rfl, rfl, r1, r2, r3, r4⟩ := dt_4 r h4
        refine rd_iteF ?_
        walk_at "rq"
        refine ⟨N, y1, e1, 7, rfl, r1, ?_⟩
        have k' : Q (.bl (Mt.sayC e1 e2 e3 e4)) H := k
        unfold Mt.sayC at k'
        cases h1 : Mt.withinD 0 7 e1 with
        | false =>
          rw [h1] at k'
          refine rd_bl' ?_
          refine rd_iteT ?_
          walk_at "rq"
          exact k'
        | true =>
          refine rd_bl' ?_
          refine rd_iteF ?_
          walk_at "rq"
          refine ⟨N, y2, e2, _, rfl, r2, ?_⟩
          rw [Mt.p9]
          cases h2 : Mt.withinD 0 1000000000 e2 with
          | false => rw [h1, h2] at k'; refine ⟨_, rfl, ?_⟩; refine rd_iteF ?_; exact k'
          | true =>
            refine ⟨_, rfl, ?_⟩
            refine rd_iteT ?_
            walk_at "rq"
            refine ⟨N, y3, e3, _, rfl, r3, ?_⟩
            rw [Mt.p6]
            cases h3 : Mt.withinD 0 1000000 e3 with
            | false => rw [h1, h2, h3] at k'; refine ⟨_, rfl, ?_⟩; refine rd_iteF ?_; exact k'
            | true =>
              obtain ⟨i3, rfl, _⟩ := Mt.within_int2 h3
              obtain rfl := dt_int r3
              refine ⟨_, rfl, ?_⟩
              refine rd_iteT ?_
              walk_at "rq"
              refine ⟨N, y4, e4, i3, rfl, r4, ?_⟩
              rw [h1, h2, h3] at k'
              exact k'
      · rw [show decide (V.int (ys.length : Int) = V.int 4) = false from decide_eq_false (fun z => h4 (by injection z with z; omega))]
        refine rd_iteT ?_
        walk_at "rq"
        rw [Mt.sayD_len (by omega)] at k
        exact k

noncomputable def sp_law_is_letter (K : PySem.W.Frag) : Sp := fun vs H Q _ => ∃ (N : List Addr) (x : V) (d : PyData), vs = [x] ∧ Dt K N H x d ∧ d.weight ≤ 1000000 ∧ ∀ H', Same H H' → Q (.bl (Mt.letD d)) H'
theorem ok_law_is_letter (T : Txt P K mg a) (G__law_is_past : FnOk P w K mg base CX0 3 a.f_law_is_past a.d_law_is_past ["_law_thing"] (sp_law_is_past K)) (G__law_is_row : FnOk P w K mg base CX0 2 a.f_law_is_row a.d_law_is_row ["_law_thing"] (sp_law_is_row K)) (G__law_is_said : FnOk P w K mg base CX0 3 a.f_law_is_said a.d_law_is_said ["_law_thing"] (sp_law_is_said K)) (G__law_upto : FnOk P w K mg base CX0 2 a.f_law_upto a.d_law_upto ["_law_thing", "_law_most"] (sp_law_upto K)) (G__law_whole : FnOk P w K mg base CX0 1 a.f_law_whole a.d_law_whole ["_law_found"] (sp_law_whole K)) : FnOk P w K mg base CX0 4 a.f_law_is_letter a.d_law_is_letter ["_law_thing"] (sp_law_is_letter K) := by
  refine T.F_law_is_letter.ok sc_law_is_letter (fun vs H Q E h => ?_) (fun cdv A outer s H vs Q E hr h => ?_)
  · obtain ⟨N, x, d, rfl, _⟩ := h; rfl
  · obtain ⟨N, x, d, rfl, hd, hw, k⟩ := h
    refine exW ⟨_, (qss_cons (qs_if (pw_or (pt_not (pt_val (qe_callB cn_isi (by rfl) T.b_isinstance (by decide +kernel) (qa (pv 0 (by rfl) (by walk_at "vis") (by decide) (by decide)) (qa (pe_bltn (by rfl) T.b_tuple (by decide +kernel) (v := .ty "tuple") rfl (by decide) (by decide)) qa_nil (by rfl)) (by rfl)) (by decide) (by decide) (by rfl) (by rfl)) (by intro _; rfl))) (pw_or (pt_cmpR op_lt (qe_callB cn_len (by rfl) T.b_len (by decide +kernel) (qa (pv 0 (by rfl) (by walk_at "vis") (by decide) (by decide)) qa_nil (by rfl)) (by decide) (by decide) (by rfl) (by rfl)) pe_int (nomark _)) (pw_or1 (pt_not (pt_val (qe_callB cn_isi (by rfl) T.b_isinstance (by decide +kernel) (qa (pe_ix ix_tup (pv 0 (by rfl) (by walk_at "vis") (by decide) (by decide)) pe_int (fun _ _ => rfl)) (qa (pe_bltn (by rfl) T.b_str (by decide +kernel) (v := .ty "str") rfl (by decide) (by decide)) qa_nil (by rfl)) (by rfl)) (by decide) (by decide) (by rfl) (by rfl)) (by intro _; rfl)))))).pt
        (qss_one (qs_ret pe_bl))
        qss_nil)
      (qss_cons (qs_if (pw_or (pt_not (pt_val (qe_call G__law_upto (hr.mono (by decide)) (by rfl) T.m__law_upto T.k__law_upto T.bd__law_upto .nil pass0 (qa (pe_ix ix_tup (pv 0 (by rfl) (by walk_at "vis") (by decide) (by decide)) pe_int (fun _ _ => rfl)) (qa pe_int qa_nil (by rfl)) (by rfl)) (by decide) (by rfl) (by rfl)) (by intro _; rfl))) (pw_or (pt_not (pt_val (qe_call G__law_upto (hr.mono (by decide)) (by rfl) T.m__law_upto T.k__law_upto T.bd__law_upto .nil pass0 (qa (pe_ix ix_tup (pv 0 (by rfl) (by walk_at "vis") (by decide) (by decide)) pe_int (fun _ _ => rfl)) (qa pe_int qa_nil (by rfl)) (by rfl)) (by decide) (by rfl) (by rfl)) (by intro _; rfl))) (pw_or (pt_not (pt_val (qe_call G__law_whole (hr.mono (by decide)) (by rfl) T.m__law_whole T.k__law_whole T.bd__law_whole .nil pass0 (qa (pe_ix ix_tup (pv 0 (by rfl) (by walk_at "vis") (by decide) (by decide)) pe_int (fun _ _ => rfl)) qa_nil (by rfl)) (by decide) (by rfl) (by rfl)) (by intro _; rfl))) (pw_or1 (pt_cmpR op_lt (pe_ix ix_tup (pv 0 (by rfl) (by walk_at "vis") (by decide) (by decide)) pe_int (fun _ _ => rfl)) pe_int (nomark _)))))).pt
        (qss_one (qs_ret pe_bl))
        qss_nil)
      (qss_cons (qs_if (pt_cmpR op_eq (pe_ix ix_tup (pv 0 (by rfl) (by walk_at "vis") (by decide) (by decide)) pe_int (fun _ _ => rfl)) pe_str (nomark _))
        (qss_cons (qs_if (pw_or (pt_cmpR op_ne (qe_callB cn_len (by rfl) T.b_len (by decide +kernel) (qa (pv 0 (by rfl) (by walk_at "vis") (by decide) (by decide)) qa_nil (by rfl)) (by decide) (by decide) (by rfl) (by rfl)) pe_int (nomark _)) (pw_or (pt_not (pt_val (qe_call G__law_is_said (hr.mono (by decide)) (by rfl) T.m__law_is_said T.k__law_is_said T.bd__law_is_said .nil pass0 (qa (pe_op op_catG (qe_tupA (qa pe_int qa_nil (by rfl))) (pe_slice sl_tupG (pv 0 (by rfl) (by walk_at "vis") (by decide) (by decide)) (po_some pe_int) (po_some pe_int))) qa_nil (by rfl)) (by decide) (by rfl) (by rfl)) (by intro _; rfl))) (pw_or1 (pt_not (pt_val (qe_callB cn_isi (by rfl) T.b_isinstance (by decide +kernel) (qa (pe_ix ix_tup (pv 0 (by rfl) (by walk_at "vis") (by decide) (by decide)) pe_int (fun _ _ => rfl)) (qa (pe_bltn (by rfl) T.b_tuple (by decide +kernel) (v := .ty "tuple") rfl (by decide) (by decide)) qa_nil (by rfl)) (by rfl)) (by decide) (by decide) (by rfl) (by rfl)) (by intro _; rfl)))))).pt
          (qss_one (qs_ret pe_bl))
          qss_nil)
        (qss_one (qs_ret (pe_cmpR op_eq (qe_callB cn_len (by rfl) T.b_len (by decide +kernel) (qa (by
        refine' pe_comp (NC := ["_law_one"]) (fr := [none]) ?B8 rfl ?hi8 ?hg8 ?ht8 ?he8 (by intro _; rfl)
        case B8 => exact ⟨rfl, rfl, by decide +kernel, by decide +kernel, rfl, ⟨trivial, trivial⟩⟩
        case hi8 => exact (pi_tup (pe_ix ix_tup (pv 0 (by rfl) (by walk_at "vis") (by decide) (by decide)) pe_int (fun _ _ => rfl)))
        case hg8 => intro _ _ _; exact (pg_name (i := 0) (show (["_law_one"] : List Str).Nodup by decide +kernel) rfl (Or.inl rfl) (by first | exact Or.inl rfl | exact Or.inr rfl))
        case ht8 => intro _ _ _; exact (pf_one (pt_not (pt_val (qe_call G__law_is_said (hr.mono (by decide)) (by rfl) T.m__law_is_said T.k__law_is_said T.bd__law_is_said .nil pass0 (qa (pv 0 (by rfl) (by walk_at "vis") (by decide) (by decide)) qa_nil (by rfl)) (by decide) (by rfl) (by rfl)) (by intro _; rfl))))
        case he8 => intro _ _ _; exact (pv 0 (by rfl) (by walk_at "vis") (by decide) (by decide))) qa_nil (by rfl)) (by decide) (by decide) (by rfl) (by rfl)) pe_int (nomark _)))))
        qss_nil)
      (qss_cons (qs_if (pt_cmpR op_eq (pe_ix ix_tup (pv 0 (by rfl) (by walk_at "vis") (by decide) (by decide)) pe_int (fun _ _ => rfl)) pe_str (nomark _))
        (qss_cons (qs_if (pw_or (pt_cmpR op_ne (qe_callB cn_len (by rfl) T.b_len (by decide +kernel) (qa (pv 0 (by rfl) (by walk_at "vis") (by decide) (by decide)) qa_nil (by rfl)) (by decide) (by decide) (by rfl) (by rfl)) pe_int (nomark _)) (pw_or (pt_not (pt_val (qe_call G__law_is_past (hr.mono (by decide)) (by rfl) T.m__law_is_past T.k__law_is_past T.bd__law_is_past .nil pass0 (qa (pe_ix ix_tup (pv 0 (by rfl) (by walk_at "vis") (by decide) (by decide)) pe_int (fun _ _ => rfl)) qa_nil (by rfl)) (by decide) (by rfl) (by rfl)) (by intro _; rfl))) (pw_or1 (pt_not (pt_val (qe_call G__law_upto (hr.mono (by decide)) (by rfl) T.m__law_upto T.k__law_upto T.bd__law_upto .nil pass0 (qa (pe_ix ix_tup (pv 0 (by rfl) (by walk_at "vis") (by decide) (by decide)) pe_int (fun _ _ => rfl)) (qa (pe_op op_pow pe_int pe_int) qa_nil (by rfl)) (by rfl)) (by decide) (by rfl) (by rfl)) (by intro _; rfl)))))).pt
          (qss_one (qs_ret pe_bl))
          qss_nil)
        (qss_one (qs_ret (pe_and (qe_callB cn_isi (by rfl) T.b_isinstance (by decide +kernel) (qa (pe_ix ix_tup (pv 0 (by rfl) (by walk_at "vis") (by decide) (by decide)) pe_int (fun _ _ => rfl)) (qa (pe_bltn (by rfl) T.b_tuple (by decide +kernel) (v := .ty "tuple") rfl (by decide) (by decide)) qa_nil (by rfl)) (by rfl)) (by decide) (by decide) (by rfl) (by rfl)) (pe_one (pe_cmpR op_eq (qe_callB cn_len (by rfl) T.b_len (by decide +kernel) (qa (by
        refine' pe_comp (NC := ["_law_one"]) (fr := [none]) ?B9 rfl ?hi9 ?hg9 ?ht9 ?he9 (by intro _; rfl)
        case B9 => exact ⟨rfl, rfl, by decide +kernel, by decide +kernel, rfl, ⟨trivial, trivial⟩⟩
        case hi9 => exact (pi_tup (pe_ix ix_tup (pv 0 (by rfl) (by walk_at "vis") (by decide) (by decide)) pe_int (fun _ _ => rfl)))
        case hg9 => intro _ _ _; exact (pg_name (i := 0) (show (["_law_one"] : List Str).Nodup by decide +kernel) rfl (Or.inl rfl) (by first | exact Or.inl rfl | exact Or.inr rfl))
        case ht9 => intro _ _ _; exact (pf_one (pt_not (pt_val (qe_call G__law_is_row (hr.mono (by decide)) (by rfl) T.m__law_is_row T.k__law_is_row T.bd__law_is_row .nil pass0 (qa (pv 0 (by rfl) (by walk_at "vis") (by decide) (by decide)) qa_nil (by rfl)) (by decide) (by rfl) (by rfl)) (by intro _; rfl))))
        case he9 => intro _ _ _; exact (pv 0 (by rfl) (by walk_at "vis") (by decide) (by decide))) qa_nil (by rfl)) (by decide) (by decide) (by rfl) (by rfl)) pe_int (nomark _)))))))
        qss_nil)
      (qss_one (qs_ret (pe_and (pe_cmpR op_eq (pe_ix ix_tup (pv 0 (by rfl) (by walk_at "vis") (by decide) (by decide)) pe_int (fun _ _ => rfl)) pe_str (nomark _)) (pe_and (pe_cmpR op_eq (qe_callB cn_len (by rfl) T.b_len (by decide +kernel) (qa (pv 0 (by rfl) (by walk_at "vis") (by decide) (by decide)) qa_nil (by rfl)) (by decide) (by decide) (by rfl) (by rfl)) pe_int (nomark _)) (pe_one (qe_call G__law_upto (hr.mono (by decide)) (by rfl) T.m__law_upto T.k__law_upto T.bd__law_upto .nil pass0 (qa (pe_ix ix_tup (pv 0 (by rfl) (by walk_at "vis") (by decide) (by decide)) pe_int (fun _ _ => rfl)) (qa (pe_op op_pow pe_int pe_int) qa_nil (by rfl)) (by rfl)) (by decide) (by rfl) (by rfl))))))))))), ?_⟩
    try dsimp only [cxOf]
    have k0 := k H (Same.refl H)
    walk_at "rq"
    cases ht : isTupD d with
    | false =>
      rw [Mt.letD_tup ht] at k0
      refine rd_iteT ?_
      walk_at "rq"
      exact k0
    | true =>
      obtain ⟨es, rfl⟩ := Mt.tup_of ht
      obtain ⟨b, ys, rfl, q, r⟩ := dt_tuple hd.nil
      have ly := r.length
      refine rd_iteF ?_
      walk_at "rq"
      rw [Mt.letD_t] at k0
      simp only [Mt.letD_t] at k
      by_cases h5 : ys.length < 5
      · rw [show decide ((ys.length : Int) < 5) = true from decide_eq_true (by omega)]
        refine rd_iteT ?_
        walk_at "rq"
        rw [Mt.addrL_len (by omega)] at k0
        exact k0
      · rw [show decide ((ys.length : Int) < 5) = false from decide_eq_false (by omega)]
        refine rd_iteF ?_
        obtain ⟨y1, y2, y3, y4, y5, yr, e1, e2, e3, e4, e5, er, rfl, rfl, r1, r2, r3, r4, r5, rr⟩ := Mt.dt_more r (by omega)
        simp only [Mt.addrL_5] at k
        rw [Mt.addrL_5] at k0
        walk_at "rq"
        refine rd_ixT q (atI_nat (j := 0) rfl) ?_
        walk_at "rq"
        cases hs : isStrD e1 with
        | false =>
          rw [Mt.wantL_no (Mt.strEq_ns hs), Mt.rowsL_no (Mt.strEq_ns hs), Mt.goneL_no (Mt.strEq_ns hs), Bool.or_self, Bool.or_self, Bool.and_false] at k0
          refine rd_iteT ?_
          walk_at "rq"
          exact k0
        | true =>
          obtain ⟨z, rfl⟩ := Mt.str_of hs
          obtain rfl := Mt.dt_str r1
          refine rd_iteF ?_
          walk_at "rq"
          refine rd_ixT q (atI_nat (j := 1) rfl) ?_
          walk_at "rq"
          refine ⟨[], y2, e2, 7, rfl, r2, ?_⟩
          cases h2 : Mt.withinD 0 7 e2 with
          | false => rw [h2] at k0; refine rd_bl' ?_; refine rd_iteT ?_; walk_at "rq"; exact k0
          | true =>
            refine rd_bl' ?_
            refine rd_iteF ?_
            walk_at "rq"
            refine rd_ixT q (atI_nat (j := 2) rfl) ?_
            walk_at "rq"
            refine ⟨[], y3, e3, 7, rfl, r3, ?_⟩
            cases h3 : Mt.withinD 0 7 e3 with
            | false => rw [h2, h3] at k0; refine rd_bl' ?_; refine rd_iteT ?_; walk_at "rq"; exact k0
            | true =>
              refine rd_bl' ?_
              refine rd_iteF ?_
              walk_at "rq"
              refine rd_ixT q (atI_nat (j := 3) rfl) ?_
              walk_at "rq"
              refine ⟨[], y4, e4, rfl, r4, ?_⟩
              cases h4 : Mt.numD e4 with
              | false => rw [h2, h3, h4] at k0; refine rd_bl' ?_; refine rd_iteT ?_; walk_at "rq"; exact k0
              | true =>
                obtain ⟨i4, rfl⟩ := Mt.numD_int h4
                obtain rfl := dt_int r4
                refine rd_bl' ?_
                refine rd_iteF ?_
                walk_at "rq"
                refine rd_ixT q (atI_nat (j := 3) rfl) ?_
                walk_at "rq"
                by_cases h1 : i4 < 1
                · rw [h2, h3, h4] at k0
                  dsimp only at k0
                  rw [decide_eq_false (by omega : ¬ 1 ≤ i4)] at k0
                  rw [decide_eq_true h1]
                  refine rd_iteT ?_
                  walk_at "rq"
                  exact k0
                · rw [decide_eq_false h1]
                  refine rd_iteF ?_
                  simp only [h2, h3, h4, decide_eq_true (by omega : 1 ≤ i4), Bool.true_and] at k k0
                  walk_at "rq"
                  refine rd_ixT q (atI_nat (j := 0) rfl) ?_
                  walk_at "rq"
                  rw [Mt.eqS]
                  cases hz : decide (z = Str.ofString "want") with
                  | true =>
                    obtain rfl := of_decide_eq_true hz
                    have nr : ∀ r, Mt.rowsL (.str (Str.ofString "want") :: r) = false := fun r => Mt.rowsL_no (by decide +kernel)
                    have ng : ∀ r, Mt.goneL (.str (Str.ofString "want") :: r) = false := fun r => Mt.goneL_no (by decide +kernel)
                    simp only [nr, ng, Bool.or_false] at k k0
                    refine rd_iteT ?_
                    walk_at "rq"
                    by_cases h8 : (V.str (Str.ofString "want") :: y2 :: y3 :: V.int i4 :: y5 :: yr).length = 8
                    · rw [show decide (V.int ((V.str (Str.ofString "want") :: y2 :: y3 :: V.int i4 :: y5 :: yr).length : Int) = V.int 8) = true from decide_eq_true (by rw [h8]; rfl)]
                      obtain ⟨y6, y7, y8, e6, e7, e8, rfl, rfl, r6, r7, r8⟩ := dt_3 rr (by simp only [List.length_cons] at h8; omega)
                      refine rd_iteF ?_
                      walk_at "rq"
                      refine ⟨sz (by simp), fun t1 H1 n1 s1 g1 => ?_⟩
                      walk_at "rq"
                      refine rd_slG (s1.tupS q) ?_
                      intro q2 H2 _ s2 g2
                      rw [show cutV [V.str (Str.ofString "want"), y2, y3, V.int i4, y5, y6, y7, y8] (some 4) (some 7) = [y5, y6, y7] from rfl] at g2
                      walk_at "rq"
                      refine rd_catG (SqT.of (s2 _ _ g1)) g2 (sz (by simp)) fun t3 H3 _ s3 g3 => ?_
                      have s03 : Same H H3 := (s1.trans s2).trans s3
                      walk_at "rq"
                      refine ⟨[], .ref t3, .tuple [.int 0, e5, e6, e7], rfl, .tup g3 (by simp) (.cons (.int 0) (.cons (r5.ext (Ext.same s03)) (.cons (r6.ext (Ext.same s03)) (.cons (r7.ext (Ext.same s03)) .nil)))), ?_⟩
                      rw [show Mt.sayD (.tuple [.int 0, e5, e6, e7]) = Mt.sayC (.int 0) e5 e6 e7 from rfl, ← Mt.sayC_0 h2]
                      have kk := k H3 s03
                      cases hs : Mt.sayC e2 e5 e6 e7 with
                      | false =>
                        have z : Mt.wantL [.str (Str.ofString "want"), e2, e3, .int i4, e5, e6, e7, e8] = false := by
                          cases hz : isTupD e8 with
                          | false => exact Mt.wantL_t hz
                          | true => obtain ⟨rs, rfl⟩ := Mt.tup_of hz; rw [Mt.wantL_8, hs, Bool.false_and, Bool.and_false]
                        rw [z] at kk
                        refine rd_bl' ?_
                        refine rd_iteT ?_
                        walk_at "rq"
                        exact kk
                      | true =>
                        refine rd_bl' ?_
                        refine rd_iteF ?_
                        have q := s03.tupS q
                        have r8 := r8.ext (Ext.same s03)
                        walk_at "rq"
                        cases ht8 : isTupD e8 with
                        | false =>
                          rw [Mt.wantL_t ht8] at kk
                          refine rd_iteT ?_
                          walk_at "rq"
                          exact kk
                        | true =>
                          obtain ⟨rs, rfl⟩ := Mt.tup_of ht8
                          obtain ⟨b8, zs, rfl, q8, r8'⟩ := dt_tuple r8
                          simp only [Mt.wantL_8, hs, Mt.strEq_s, decide_eq_true, Bool.true_and] at k
                          refine rd_iteF ?_
                          walk_at "rq"
                          have wr : (PyData.tuple rs).weight ≤ 1000000 := PyData.wt_at (i := 7) rfl hw
                          refine ⟨b8, rfl, ⟨zs, q8⟩, ?_⟩
                          intro acc hacc nka
                          have lz := r8'.length
                          refine comp_byF rs.length (PyData.wt_lt wr) (fun i vs σc H' => Same H3 H' ∧ (∃ o, σc = [o]) ∧ vs.length = ((rs.take i).filter fun d => !Mt.sayD d).length) ?_ ?_ ?_
                          · exact ⟨(Same.refl H3).upd2 hacc, ⟨none, rfl⟩, by simp⟩
                          · rintro i vs σc H' hi hl' ha ⟨sm, ⟨o, rfl⟩, hv⟩
                            obtain ⟨v, d, f1, f2, f3⟩ := r8'.at hi
                            refine ⟨⟨zs, v, sm.tupS q8, f1⟩, ?_⟩
                            rintro x H2 ⟨rfl, hx⟩ R S hR hS
                            have ex := hx zs (sm.tupS q8)
                            rw [f1] at ex; cases ex
                            walk_at "rq"
                            refine ⟨[], v, d, rfl, f3.ext (Ext.same sm), ?_⟩
                            cases hd2 : Mt.sayD d with
                            | true =>
                              refine rd_bl' ?_
                              refine rd_iteF ?_
                              refine hS _ _ ha ⟨sm, ⟨_, rfl⟩, ?_⟩
                              rw [List.take_add_one, f2, List.filter_append, List.length_append, hv]
                              simp [hd2]
                            | false =>
                              refine rd_bl' ?_
                              refine rd_iteT ?_
                              walk_at "rq"
                              refine hR _ _ _ ha ⟨sm.upd2 hacc, ⟨_, rfl⟩, ?_⟩
                              rw [List.take_add_one, f2, List.filter_append, List.length_append, List.length_append, hv]
                              simp [hd2]
                          · rintro vs σc H' hl' ha ⟨sm, _, hv⟩
                            refine ⟨⟨zs, sm.tupS q8, by omega⟩, ?_⟩
                            rw [List.take_length] at hv
                            walk_at "rq"
                            have kk := k H' (s03.trans sm)
                            rw [Mt.cnt_all, ← hv] at kk
                            exact kk
                    · rw [show decide (V.int ((V.str (Str.ofString "want") :: y2 :: y3 :: V.int i4 :: y5 :: yr).length : Int) = V.int 8) = false from decide_eq_false (fun z => h8 (by injection z with z; omega))]
                      have := rr.length
                      rw [Mt.wantL_len (by simp only [List.length_cons] at h8 ⊢; omega)] at k0
                      refine rd_iteT ?_
                      walk_at "rq"
                      exact k0
                  | false =>
                    refine rd_iteF ?_
                    have nw : ∀ r, Mt.wantL (.str z :: r) = false := fun r => Mt.wantL_no (by rw [Mt.strEq_s]; exact hz)
                    simp only [nw, Bool.false_or] at k k0
                    walk_at "rq"
                    refine rd_ixT q (atI_nat (j := 0) rfl) ?_
                    walk_at "rq"
                    rw [Mt.eqS]
                    cases hz2 : decide (z = Str.ofString "rows") with
                    | true =>
                      refine rd_iteT ?_
                      walk_at "rq"
                      have ng : ∀ r, Mt.goneL (.str z :: r) = false := fun r => Mt.goneL_no (by
                        rw [Mt.strEq_s]
                        obtain rfl := of_decide_eq_true hz2
                        decide +kernel)
                      simp only [ng, Bool.or_false] at k k0
                      by_cases h8 : (V.str z :: y2 :: y3 :: V.int i4 :: y5 :: yr).length = 7
                      · rw [show decide (V.int ((V.str z :: y2 :: y3 :: V.int i4 :: y5 :: yr).length : Int) = V.int 7) = true from decide_eq_true (by rw [h8]; rfl)]
                        obtain ⟨y6, y7, e6, e7, rfl, rfl, r6, r7⟩ := dt_2 rr (by simp only [List.length_cons] at h8; omega)
                        refine rd_iteF ?_
                        walk_at "rq"
                        refine ⟨[], y5, e5, rfl, r5, fun H3 s03 => ?_⟩
                        have kk := k H3 s03
                        cases hs : Mt.histD e5 with
                        | false =>
                          have z : Mt.rowsL [.str z, e2, e3, .int i4, e5, e6, e7] = false := by
                            cases hz : isTupD e7 with
                            | false => exact Mt.rowsL_t hz
                            | true => obtain ⟨rs, rfl⟩ := Mt.tup_of hz; rw [Mt.rowsL_7, hs, Bool.false_and, Bool.and_false]
                          rw [z] at kk
                          refine rd_bl' ?_
                          refine rd_iteT ?_
                          walk_at "rq"
                          exact kk
                        | true =>
                          refine rd_bl' ?_
                          refine rd_iteF ?_
                          have q := s03.tupS q
                          have r7 := r7.ext (Ext.same s03)
                          walk_at "rq"
                          refine ⟨[], y6, e6, _, rfl, r6.ext (Ext.same s03), ?_⟩
                          rw [Mt.p6]
                          cases h6 : Mt.withinD 0 1000000 e6 with
                          | false =>
                            have z : Mt.rowsL [.str z, e2, e3, .int i4, e5, e6, e7] = false := by
                              cases hz : isTupD e7 with
                              | false => exact Mt.rowsL_t hz
                              | true => obtain ⟨rs, rfl⟩ := Mt.tup_of hz; rw [Mt.rowsL_7, h6, Bool.false_and, Bool.and_false, Bool.and_false]
                            rw [z] at kk
                            refine rd_bl' ?_
                            refine rd_iteT ?_
                            walk_at "rq"
                            exact kk
                          | true =>
                            refine rd_bl' ?_
                            refine rd_iteF ?_
                            walk_at "rq"
                            cases ht8 : isTupD e7 with
                            | false =>
                              rw [Mt.rowsL_t ht8] at kk
                              exact kk
                            | true =>
                              obtain ⟨rs, rfl⟩ := Mt.tup_of ht8
                              obtain ⟨b8, zs, rfl, q8, r8'⟩ := dt_tuple r7
                              simp only [Mt.rowsL_7, hs, h6, Mt.strEq_s, hz2, Bool.true_and] at k
                              refine rd_iteT ?_
                              walk_at "rq"
                              have wr : (PyData.tuple rs).weight ≤ 1000000 := PyData.wt_at (i := 6) rfl hw
                              refine ⟨b8, rfl, ⟨zs, q8⟩, ?_⟩
                              intro acc hacc nka
                              have lz := r8'.length
                              refine comp_byF rs.length (PyData.wt_lt wr) (fun i vs σc H' => Same H3 H' ∧ (∃ o, σc = [o]) ∧ vs.length = ((rs.take i).filter fun d => !Mt.rowD d).length) ?_ ?_ ?_
                              · exact ⟨(Same.refl H3).upd2 hacc, ⟨none, rfl⟩, by simp⟩
                              · rintro i vs σc H' hi hl' ha ⟨sm, ⟨o, rfl⟩, hv⟩
                                obtain ⟨v, d, f1, f2, f3⟩ := r8'.at hi
                                refine ⟨⟨zs, v, sm.tupS q8, f1⟩, ?_⟩
                                rintro x H2 ⟨rfl, hx⟩ R S hR hS
                                have ex := hx zs (sm.tupS q8)
                                rw [f1] at ex; cases ex
                                walk_at "rq"
                                refine ⟨[], v, d, rfl, f3.ext (Ext.same sm), PyData.wt_at f2 wr, fun H5 s5 => ?_⟩
                                cases hd2 : Mt.rowD d with
                                | true =>
                                  refine rd_bl' ?_
                                  refine rd_iteF ?_
                                  refine hS _ _ (s5 _ _ ha) ⟨sm.trans s5, ⟨_, rfl⟩, ?_⟩
                                  rw [List.take_add_one, f2, List.filter_append, List.length_append, hv]
                                  simp [hd2]
                                | false =>
                                  refine rd_bl' ?_
                                  refine rd_iteT ?_
                                  walk_at "rq"
                                  refine hR _ _ _ (s5 _ _ ha) ⟨(sm.trans s5).upd2 hacc, ⟨_, rfl⟩, ?_⟩
                                  rw [List.take_add_one, f2, List.filter_append, List.length_append, List.length_append, hv]
                                  simp [hd2]
                              · rintro vs σc H' hl' ha ⟨sm, _, hv⟩
                                refine ⟨⟨zs, sm.tupS q8, by omega⟩, ?_⟩
                                rw [List.take_length] at hv
                                walk_at "rq"
                                have kk := k H' (s03.trans sm)
                                rw [Mt.cnt_all, ← hv] at kk
                                exact kk
                      · rw [show decide (V.int ((V.str z :: y2 :: y3 :: V.int i4 :: y5 :: yr).length : Int) = V.int 7) = false from decide_eq_false (fun z => h8 (by injection z with z; omega))]
                        have := rr.length
                        rw [Mt.rowsL_len (by simp only [List.length_cons] at h8 ⊢; omega)] at k0
                        refine rd_iteT ?_
                        walk_at "rq"
                        exact k0
                    | false =>
                      refine rd_iteF ?_
                      have nr : ∀ r, Mt.rowsL (.str z :: r) = false := fun r => Mt.rowsL_no (by rw [Mt.strEq_s]; exact hz2)
                      simp only [nr, Bool.false_or] at k k0
                      walk_at "rq"
                      refine rd_ixT q (atI_nat (j := 0) rfl) ?_
                      walk_at "rq"
                      rw [Mt.eqS]
                      cases hz3 : decide (z = Str.ofString "gone") with
                      | false =>
                        rw [Mt.goneL_no (by rw [Mt.strEq_s]; exact hz3)] at k0
                        exact k0
                      | true =>
                        refine rd_iteT ?_
                        walk_at "rq"
                        by_cases h8 : (V.str z :: y2 :: y3 :: V.int i4 :: y5 :: yr).length = 5
                        · rw [show decide (V.int ((V.str z :: y2 :: y3 :: V.int i4 :: y5 :: yr).length : Int) = V.int 5) = true from decide_eq_true (by rw [h8]; rfl)]
                          refine rd_iteT ?_
                          cases rr with
                          | cons _ _ => simp at h8
                          | nil =>
                            walk_at "rq"
                            refine ⟨[], y5, e5, _, rfl, r5, ?_⟩
                            rw [Mt.p6]
                            rw [Mt.goneL_5, Mt.strEq_s, hz3] at k0
                            exact k0
                        · rw [show decide (V.int ((V.str z :: y2 :: y3 :: V.int i4 :: y5 :: yr).length : Int) = V.int 5) = false from decide_eq_false (fun z => h8 (by injection z with z; omega))]
                          have := rr.length
                          rw [Mt.goneL_len (by simp only [List.length_cons] at h8 ⊢; omega)] at k0
                          exact k0

noncomputable def sp_law_place (K : PySem.W.Frag) : Sp := fun vs H Q _ => ∃ (st : Addr), vs = [.ref st] ∧ StOk K H st ∧
  ∀ (v : Int) (H' : Hp), 0 ≤ v → v ≤ 1000000 → StOk K H' st → Ext [st] H H' → Q (.int v) H'
theorem ok_law_place (T : Txt P K mg a) (G__law_next : FnOk P w K mg base CX0 1 a.f_law_next a.d_law_next ["_law_state_here", "_law_below"] (sp_law_next K)) : FnOk P w K mg base CX0 2 a.f_law_place a.d_law_place ["_law_state_here"] (sp_law_place K) := by
  refine T.F_law_place.ok sc_law_place (fun vs H Q E h => ?_) (fun cdv A outer s H vs Q E hr h => ?_)
  · obtain ⟨st, rfl, _⟩ := h; rfl
  · obtain ⟨st, rfl, S, k⟩ := h
    refine exW ⟨_, (qss_one (qs_ret (pe_ix ix_list (qe_lst (qa pe_int (qa (pe_op op_pow pe_int pe_int) (qa (qe_call G__law_next (hr.mono (by decide)) (by rfl) T.m__law_next T.k__law_next T.bd__law_next .nil pass0 (qa (pv 0 (by rfl) (by walk_at "vis") (by decide) (by decide)) (qa pe_int qa_nil (by rfl)) (by rfl)) (by decide) (by rfl) (by rfl)) (qa (qe_call G__law_next (hr.mono (by decide)) (by rfl) T.m__law_next T.k__law_next T.bd__law_next .nil pass0 (qa (pv 0 (by rfl) (by walk_at "vis") (by decide) (by decide)) (qa (pe_op op_add (pe_op op_pow pe_int pe_int) pe_int) qa_nil (by rfl)) (by rfl)) (by decide) (by rfl) (by rfl)) qa_nil (by rfl)) (by rfl)) (by rfl)) (by rfl))) (qe_call G__law_next (hr.mono (by decide)) (by rfl) T.m__law_next T.k__law_next T.bd__law_next .nil pass0 (qa (pv 0 (by rfl) (by walk_at "vis") (by decide) (by decide)) (qa pe_int qa_nil (by rfl)) (by rfl)) (by decide) (by rfl) (by rfl)) (fun _ _ => rfl)))), ?_⟩
    try dsimp only [cxOf]
    have p6 : (10 : Int) ^ (6 : Int).toNat = 1000000 := by decide +kernel
    walk_at "rd"
    refine ⟨st, 9, rfl, S, by decide, by decide, fun v1 H1 a1 b1 S1 x1 => ?_⟩
    walk_at "rd"
    refine ⟨st, _, rfl, S1, by decide +kernel, by decide +kernel, fun v2 H2 a2 b2 S2 x2 => ?_⟩
    walk_at "rd"
    refine ⟨sz (by simp), fun l2 n2 => ?_⟩
    walk_at "rd"
    refine ⟨st, 4, rfl, S2.toStOk.same (Same.upd n2), by decide, by decide, fun v3 H3 a3 b3 S3 x3 => ?_⟩
    have e3 := x3 _ _ upd_same (S2.nin (Same.refl _) n2)
    have x : Ext [st] H H3 := ((x1.trans x2).trans (Ext.new n2)).trans x3
    rw [p6] at e3 b2
    obtain ⟨j, rfl⟩ := Int.eq_ofNat_of_zero_le a3
    have hj : j < 4 := by omega
    match j, hj with
    | 0, _ => exact rd_ixL (SqL.of e3) rfl (k _ _ (by omega) (by omega) S3 x)
    | 1, _ => exact rd_ixL (SqL.of e3) rfl (k _ _ (by omega) (by omega) S3 x)
    | 2, _ => exact rd_ixL (SqL.of e3) rfl (k _ _ (by omega) (by omega) S3 x)
    | 3, _ => exact rd_ixL (SqL.of e3) rfl (k _ _ (by omega) (by omega) S3 x)

noncomputable def sp_law_line (K : PySem.W.Frag) : Sp := fun vs H Q _ => ∃ (st : Addr), vs = [.ref st] ∧ StOk K H st ∧
  ∀ (v : Int) (H' : Hp), 0 ≤ v → v ≤ 1000000000 → StOk K H' st → Ext [st] H H' → Q (.int v) H'
theorem ok_law_line (T : Txt P K mg a) (G__law_next : FnOk P w K mg base CX0 1 a.f_law_next a.d_law_next ["_law_state_here", "_law_below"] (sp_law_next K)) : FnOk P w K mg base CX0 2 a.f_law_line a.d_law_line ["_law_state_here"] (sp_law_line K) := by
  refine T.F_law_line.ok sc_law_line (fun vs H Q E h => ?_) (fun cdv A outer s H vs Q E hr h => ?_)
  · obtain ⟨st, rfl, _⟩ := h; rfl
  · obtain ⟨st, rfl, S, k⟩ := h
    refine exW ⟨_, (qss_one (qs_ret (pe_ix ix_list (qe_lst (qa pe_int (qa (pe_op op_pow pe_int pe_int) (qa (qe_call G__law_next (hr.mono (by decide)) (by rfl) T.m__law_next T.k__law_next T.bd__law_next .nil pass0 (qa (pv 0 (by rfl) (by walk_at "vis") (by decide) (by decide)) (qa pe_int qa_nil (by rfl)) (by rfl)) (by decide) (by rfl) (by rfl)) (qa (qe_call G__law_next (hr.mono (by decide)) (by rfl) T.m__law_next T.k__law_next T.bd__law_next .nil pass0 (qa (pv 0 (by rfl) (by walk_at "vis") (by decide) (by decide)) (qa (pe_op op_add (pe_op op_pow pe_int pe_int) pe_int) qa_nil (by rfl)) (by rfl)) (by decide) (by rfl) (by rfl)) qa_nil (by rfl)) (by rfl)) (by rfl)) (by rfl))) (qe_call G__law_next (hr.mono (by decide)) (by rfl) T.m__law_next T.k__law_next T.bd__law_next .nil pass0 (qa (pv 0 (by rfl) (by walk_at "vis") (by decide) (by decide)) (qa pe_int qa_nil (by rfl)) (by rfl)) (by decide) (by rfl) (by rfl)) (fun _ _ => rfl)))), ?_⟩
    try dsimp only [cxOf]
    have p6 : (10 : Int) ^ (9 : Int).toNat = 1000000000 := by decide +kernel
    walk_at "rd"
    refine ⟨st, 9, rfl, S, by decide, by decide, fun v1 H1 a1 b1 S1 x1 => ?_⟩
    walk_at "rd"
    refine ⟨st, _, rfl, S1, by decide +kernel, by decide +kernel, fun v2 H2 a2 b2 S2 x2 => ?_⟩
    walk_at "rd"
    refine ⟨sz (by simp), fun l2 n2 => ?_⟩
    walk_at "rd"
    refine ⟨st, 4, rfl, S2.toStOk.same (Same.upd n2), by decide, by decide, fun v3 H3 a3 b3 S3 x3 => ?_⟩
    have e3 := x3 _ _ upd_same (S2.nin (Same.refl _) n2)
    have x : Ext [st] H H3 := ((x1.trans x2).trans (Ext.new n2)).trans x3
    rw [p6] at e3 b2
    obtain ⟨j, rfl⟩ := Int.eq_ofNat_of_zero_le a3
    have hj : j < 4 := by omega
    match j, hj with
    | 0, _ => exact rd_ixL (SqL.of e3) rfl (k _ _ (by omega) (by omega) S3 x)
    | 1, _ => exact rd_ixL (SqL.of e3) rfl (k _ _ (by omega) (by omega) S3 x)
    | 2, _ => exact rd_ixL (SqL.of e3) rfl (k _ _ (by omega) (by omega) S3 x)
    | 3, _ => exact rd_ixL (SqL.of e3) rfl (k _ _ (by omega) (by omega) S3 x)

noncomputable def sp_law_past (K : PySem.W.Frag) : Sp := fun vs H Q _ => ∃ (st : Addr), vs = [.ref st] ∧ StOk K H st ∧
  ∀ (t : Addr) (xs : List V) (ds : List PyData) (H' : Hp), SqT K H' t xs → t ∉ [st] → DtAll K [st] H' xs ds → (∀ d ∈ ds, Mt.Itm 600 2 d) → ds.length ≤ 5 → StOk K H' st → Ext [st] H H' → Q (.ref t) H'
theorem ok_law_past (T : Txt P K mg a) (G__law_next : FnOk P w K mg base CX0 1 a.f_law_next a.d_law_next ["_law_state_here", "_law_below"] (sp_law_next K)) : FnOk P w K mg base CX0 2 a.f_law_past a.d_law_past ["_law_state_here"] (sp_law_past K) := by
  refine T.F_law_past.ok sc_law_past (fun vs H Q E h => ?_) (fun cdv A outer s H vs Q E hr h => ?_)
  · obtain ⟨st, rfl, _⟩ := h; rfl
  · obtain ⟨st, rfl, S, k⟩ := h
    refine exW ⟨_, (qss_cons (qs_set (i := 1) sc_law_past.nd rfl (Or.inl rfl) (qe_lstA (qa (qe_tupA (qa (qe_call G__law_next (hr.mono (by decide)) (by rfl) T.m__law_next T.k__law_next T.bd__law_next .nil pass0 (qa (pv 0 (by rfl) (by walk_at "vis") (by decide) (by decide)) (qa pe_int qa_nil (by rfl)) (by rfl)) (by decide) (by rfl) (by rfl)) (qa pe_int qa_nil (by rfl)) (by rfl))) qa_nil (by rfl))) (by rfl) (by first | exact Or.inl rfl | exact Or.inr rfl))
      (qss_cons (qs_for PassesOwn.never rfl (qi_range1 (by rfl) T.b_range (qa (qe_call G__law_next (hr.mono (by decide)) (by rfl) T.m__law_next T.k__law_next T.bd__law_next .nil pass0 (qa (pv 0 (by rfl) (by walk_at "vis") (by decide) (by decide)) (qa pe_int qa_nil (by rfl)) (by rfl)) (by decide) (by rfl) (by rfl)) qa_nil (by rfl)) (by rfl)) (pg_name (i := 2) sc_law_past.nd rfl (Or.inl rfl) (by first | exact Or.inl rfl | exact Or.inr rfl))
        (qss_cons (qs_asg (pe_ix ix_list (pv 1 (by rfl) (by walk_at "vis") (by decide) (by decide)) (pe_un un_neg pe_int) (fun _ _ => rfl)) (pg_tup (n := 2) rfl (pgs_cons (pg_name (i := 3) (show (["_law_state_here", "_law_found", "_law_k", "_law_line_here", "_law_fork", "_law_later"] : List Str).Nodup by decide +kernel) rfl (Or.inl rfl) (by first | exact Or.inl rfl | exact Or.inr rfl)) (pgs_cons (pg_name (i := 4) (show (["_law_state_here", "_law_found", "_law_k", "_law_line_here", "_law_fork", "_law_later"] : List Str).Nodup by decide +kernel) rfl (Or.inl rfl) (by first | exact Or.inl rfl | exact Or.inr rfl)) pgs_nil (by rfl)) (by rfl)) (by rfl) (by rfl)) (by rfl) (by rfl) (by rfl))
        (qss_cons (qs_set (i := 5) sc_law_past.nd rfl (Or.inl rfl) (qe_callB (cn_min (by rfl)) (by rfl) T.b_min (by decide +kernel) (qa (pe_op op_pow pe_int pe_int) (qa (pe_op op_add (pv 4 (by rfl) (by walk_at "vis") (by decide) (by decide)) (pe_ix ix_list (qe_lstA (qa pe_int (qa (qe_call G__law_next (hr.mono (by decide)) (by rfl) T.m__law_next T.k__law_next T.bd__law_next .nil pass0 (qa (pv 0 (by rfl) (by walk_at "vis") (by decide) (by decide)) (qa pe_int qa_nil (by rfl)) (by rfl)) (by decide) (by rfl) (by rfl)) qa_nil (by rfl)) (by rfl))) (qe_call G__law_next (hr.mono (by decide)) (by rfl) T.m__law_next T.k__law_next T.bd__law_next .nil pass0 (qa (pv 0 (by rfl) (by walk_at "vis") (by decide) (by decide)) (qa pe_int qa_nil (by rfl)) (by rfl)) (by decide) (by rfl) (by rfl)) (fun _ _ => rfl))) qa_nil (by rfl)) (by rfl)) (by decide) (by decide) (by rfl) (by rfl)) (by rfl) (by first | exact Or.inl rfl | exact Or.inr rfl))
        (qss_one (qs_expr (qe_append (pv 1 (by rfl) (by walk_at "vis") (by decide) (by decide)) (qa (qe_tupA (qa (pe_op op_add (pe_op op_add (pv 3 (by rfl) (by walk_at "vis") (by decide) (by decide)) pe_int) (qe_call G__law_next (hr.mono (by decide)) (by rfl) T.m__law_next T.k__law_next T.bd__law_next .nil pass0 (qa (pv 0 (by rfl) (by walk_at "vis") (by decide) (by decide)) (qa pe_int qa_nil (by rfl)) (by rfl)) (by decide) (by rfl) (by rfl))) (qa (pv 5 (by rfl) (by walk_at "vis") (by decide) (by decide)) qa_nil (by rfl)) (by rfl))) qa_nil (by rfl)) (by rfl) (by rfl) (by rfl) (by rfl) (by rfl)) (by rfl))))) (by intro _; rfl))
      (qss_one (qs_ret (qe_callTy (cn_tupleA (K := K) (by rfl)) (by rfl) T.b_tuple (by decide +kernel) (qa (pv 1 (by rfl) (by walk_at "vis") (by decide) (by decide)) qa_nil (by rfl)) (by decide) (by decide) (by rfl) (by rfl)))))), ?_⟩
    try dsimp only [cxOf]
    walk_at "rd"
    refine ⟨st, 9, rfl, S, by decide, by decide, fun v1 H1 a1 b1 S1 x1 => ?_⟩
    walk_at "rd"
    refine ⟨sz (by simp), fun t0 H2 n2 s2 g2 => ?_⟩
    walk_at "rd"
    refine ⟨sz (by simp), fun fl H3 n3 s3 g3 => ?_⟩
    have S2 := S1.same s2
    have S3 := S2.same s3
    have nfs : fl ≠ st := S2.ne n3
    have nfl : H fl = none := (x1.trans (Ext.same s2)).free n3 (by simpa using nfs)
    have nt0 : t0 ≠ st := S1.ne n2
    have nft : t0 ≠ fl := ne_of_none g2 n3
    walk_at "rd"
    refine ⟨st, 5, rfl, S3, by decide, by decide, fun v4 H4 a4 b4 S4 x4 => ?_⟩
    walk_at "rd"
    refine ⟨by omega, by omega, ?_⟩
    have ii : ∀ i : Int, 0 ≤ i → i ≤ 1000000 → Mt.Itm 140 0 (.int i) := fun i h1 h2 => Mt.itm_int (by omega)
    have two : ∀ a b : Int, 0 ≤ a → a ≤ 1000000 → 0 ≤ b → b ≤ 1000000 → Mt.Itm 600 2 (.tuple [.int a, .int b]) := fun a b h1 h2 h3 h4 => (Mt.itm_tuple (n := 2) (fun d hd => by
      simp only [List.mem_cons, List.not_mem_nil, or_false] at hd
      rcases hd with rfl | rfl
      · exact ii a h1 h2
      · exact ii b h3 h4) (by simp)).mono (by decide) (by decide)
    refine for_rangeW (fun i σ' H' => ∃ (o1 o2 o3 o4 : Option V) (ws : List V) (q : Addr) (line fork : Int) (ds : List PyData), σ' = [some (.ref st), some (.ref fl), o1, o2, o3, o4] ∧ H' fl = some (.lst (ws ++ [.ref q])) ∧ SqT K H' q [.int line, .int fork] ∧ q ∉ [st, fl] ∧ DtAll K [st, fl] H' ws ds ∧
      (∀ d ∈ ds, Mt.Itm 600 2 d) ∧ (∀ v ∈ ws, ∃ q, v = .ref q) ∧ ds.length = i ∧ 0 ≤ line ∧ line ≤ 9 + 20 * i ∧ 0 ≤ fork ∧ fork ≤ 1000000 ∧ StOk K H' st ∧ Ext [st] H H') ?_ ?_ ?_
    · have x34 := x4
      refine ⟨none, none, none, none, [], t0, v1, 0, [], rfl, x4 _ _ g3 (by simpa using nfs), SqT.of (x4 _ _ (s3 _ _ g2) (by simpa using nt0)), by simp [nt0, nft], .nil, by simp, by simp, rfl, a1, by omega, by decide, by decide, S4, ((x1.trans (Ext.same s2)).trans (Ext.same s3)).trans x4⟩
    · rintro i σ' H5 hi ⟨o1, o2, o3, o4, ws, q, line, fork, ds, rfl, hfl, hq, hqn, hda, hdi, hws, hdl, l0, l1, f0, f1, S5, x5⟩
      simp only [List.mem_cons, List.not_mem_nil, or_false, not_or] at hqn
      walk_at "rd"
      refine rd_ixL (SqL.of hfl) (atI_last ws _) ?_
      walk_at "rd"
      refine ⟨st, 9, rfl, S5, by decide, by decide, fun v6 H6 a6 b6 S6 x6 => ?_⟩
      walk_at "rd"
      refine ⟨sz (by simp), fun l7 H7 n7 s7 g7 => ?_⟩
      have S7 := S6.same s7
      have n7s : l7 ≠ st := S6.ne n7
      walk_at "rd"
      refine ⟨st, 2, rfl, S7, by decide, by decide, fun v8 H8 a8 b8 S8 x8 => ?_⟩
      obtain ⟨w, ew, w0, w1⟩ : ∃ w : Int, L2.atI [V.int 0, .int v6] v8 = some (.int w) ∧ 0 ≤ w ∧ w ≤ 9 := by
        obtain ⟨j, rfl⟩ := Int.eq_ofNat_of_zero_le a8
        have hj : j < 2 := by omega
        match j, hj with
        | 0, _ => exact ⟨0, rfl, by omega, by omega⟩
        | 1, _ => exact ⟨v6, rfl, by omega, by omega⟩
      refine rd_ixL (SqL.of (x8 _ _ g7 (by simpa using n7s))) ew ?_
      walk_at "rd"
      rw [Mt.p6]
      obtain ⟨fork', hfe, hf2, hf3⟩ : ∃ fork' : Int, (if fork + w < 1000000 then fork + w else 1000000) = fork' ∧ 0 ≤ fork' ∧ fork' ≤ 1000000 := by
        refine ⟨_, rfl, ?_, ?_⟩ <;> split <;> omega
      rw [hfe]
      have x58 : Ext [st] H5 H8 := (x6.trans (Ext.same s7)).trans x8
      have hfl8 := x58 _ _ hfl (by simpa using nfs)
      walk_at "rd"
      refine ⟨.inl ⟨rfl, _, SqL.of hfl8⟩, ?_⟩
      walk_at "rd"
      refine ⟨st, 9, rfl, S8, by decide, by decide, fun v9 H9 a9 b9 S9 x9 => ?_⟩
      walk_at "rd"
      refine ⟨sz (by simp), fun t H10 n10 s10 g10 => ?_⟩
      have x510 : Ext [st] H5 H10 := (x58.trans x9).trans (Ext.same s10)
      have hfl9 := x9 _ _ hfl8 (by simpa using nfs)
      have hfl10 := s10 _ _ hfl9
      have ntf : fl ≠ t := ne_of_none hfl9 n10
      have nts : t ≠ st := S9.ne n10
      walk_at "rd"
      have hl := hda.length
      refine rd_append hfl10 ?_ ?_
      · have : sizeLine = 16777216 := rfl
        simp only [List.length_append, List.length_singleton]
        omega
      · have up : Ext [st, fl] H5 (upd H10 fl (.lst (ws ++ [.ref q] ++ [.ref t]))) := fun b u e n => by
          simp only [List.mem_cons, List.not_mem_nil, or_false, not_or] at n
          rw [upd_ne n.2]
          exact x510 b u e (by simpa using n.1)
        refine ⟨_, _, _, _, ws ++ [.ref q], t, line + 1 + v9, fork', ds ++ [.tuple [.int line, .int fork]], rfl, upd_same, SqT.of (by rw [upd_ne (Ne.symm ntf)]; exact g10), by simp [nts, Ne.symm ntf], ?_, ?_, ?_, by simp [hdl], by omega, by omega, hf2, hf3, (S9.same s10).acc nfs hfl10 ?_, ?_⟩
        · refine (hda.ext up).append (.cons (.tup (up.tup hq (by simp [hqn.1, hqn.2])) (by simp [hqn.1, hqn.2]) (.cons (.int _) (.cons (.int _) .nil))) .nil)
        · intro d hd
          rcases List.mem_append.mp hd with hd | hd
          · exact hdi d hd
          · have : d = .tuple [.int line, .int fork] := by simpa using hd
            rw [this]; exact two _ _ l0 (by omega) f0 f1
        · intro v hv
          rcases List.mem_append.mp hv with hv | hv
          · exact hws v hv
          · exact ⟨q, by simpa using hv⟩
        · intro v hv
          rcases List.mem_append.mp hv with hv | hv
          · exact hws v hv
          · exact ⟨q, by simpa using hv⟩
        · exact (x5.trans x510).upd2 nfl
    · rintro σ' H5 ⟨o1, o2, o3, o4, ws, q, line, fork, ds, rfl, hfl, hq, hqn, hda, hdi, hws, hdl, l0, l1, f0, f1, S5, x5⟩
      simp only [List.mem_cons, List.not_mem_nil, or_false, not_or] at hqn
      walk_at "rd"
      intro p H6 hp s6 g6
      have hpn : p ≠ st := by
        rcases hp with rfl | hp
        · exact nfs
        · exact S5.ne hp
      refine k p _ (ds ++ [.tuple [.int line, .int fork]]) H6 g6 (by simpa using hpn) (((hda.weaken (by simp)).ext (Ext.same s6)).append (.cons (.tup (s6.tupS hq) (by simp [hqn.1]) (.cons (.int _) (.cons (.int _) .nil))) .nil)) ?_ (by simp; omega) (S5.same s6) (x5.trans (Ext.same s6))
      intro d hd
      rcases List.mem_append.mp hd with hd | hd
      · exact hdi d hd
      · have : d = .tuple [.int line, .int fork] := by simpa using hd
        rw [this]; exact two _ _ l0 (by omega) f0 f1

noncomputable def sp_law_said (K : PySem.W.Frag) : Sp := fun vs H Q _ => ∃ (st : Addr), vs = [.ref st] ∧ StOk K H st ∧
  ∀ (t : Addr) (a b c d : Int) (H' : Hp), H' t = some (.tup [.int a, .int b, .int c, .int d]) → t ≠ st → H t = none → (0 ≤ a ∧ a ≤ 1000000000) → (0 ≤ b ∧ b ≤ 1000000000) → (0 ≤ c ∧ c ≤ 1000000000) → (0 ≤ d ∧ d ≤ 1000000000) → StOk K H' st → Ext [st] H H' → Q (.ref t) H'
theorem ok_law_said (T : Txt P K mg a) (G__law_line : FnOk P w K mg base CX0 2 a.f_law_line a.d_law_line ["_law_state_here"] (sp_law_line K)) (G__law_next : FnOk P w K mg base CX0 1 a.f_law_next a.d_law_next ["_law_state_here", "_law_below"] (sp_law_next K)) (G__law_place : FnOk P w K mg base CX0 2 a.f_law_place a.d_law_place ["_law_state_here"] (sp_law_place K)) : FnOk P w K mg base CX0 3 a.f_law_said a.d_law_said ["_law_state_here"] (sp_law_said K) := by
  refine T.F_law_said.ok sc_law_said (fun vs H Q E h => ?_) (fun cdv A outer s H vs Q E hr h => ?_)
  · obtain ⟨st, rfl, _⟩ := h; rfl
  · obtain ⟨st, rfl, S, k⟩ := h
    refine exW ⟨_, (qss_cons (qs_set (i := 1) sc_law_said.nd rfl (Or.inl rfl) (qe_call G__law_place (hr.mono (by decide)) (by rfl) T.m__law_place T.k__law_place T.bd__law_place .nil pass0 (qa (pv 0 (by rfl) (by walk_at "vis") (by decide) (by decide)) qa_nil (by rfl)) (by decide) (by rfl) (by rfl)) (by rfl) (by first | exact Or.inl rfl | exact Or.inr rfl))
      (qss_one (qs_ret (qe_tupA (qa (qe_call G__law_next (hr.mono (by decide)) (by rfl) T.m__law_next T.k__law_next T.bd__law_next .nil pass0 (qa (pv 0 (by rfl) (by walk_at "vis") (by decide) (by decide)) (qa pe_int qa_nil (by rfl)) (by rfl)) (by decide) (by rfl) (by rfl)) (qa (qe_call G__law_line (hr.mono (by decide)) (by rfl) T.m__law_line T.k__law_line T.bd__law_line .nil pass0 (qa (pv 0 (by rfl) (by walk_at "vis") (by decide) (by decide)) qa_nil (by rfl)) (by decide) (by rfl) (by rfl)) (qa (pv 1 (by rfl) (by walk_at "vis") (by decide) (by decide)) (qa (pe_ix ix_list (qe_lstA (qa pe_int (qa (pv 1 (by rfl) (by walk_at "vis") (by decide) (by decide)) (qa (qe_call G__law_next (hr.mono (by decide)) (by rfl) T.m__law_next T.k__law_next T.bd__law_next .nil pass0 (qa (pv 0 (by rfl) (by walk_at "vis") (by decide) (by decide)) (qa (pe_op op_add (pv 1 (by rfl) (by walk_at "vis") (by decide) (by decide)) pe_int) qa_nil (by rfl)) (by rfl)) (by decide) (by rfl) (by rfl)) qa_nil (by rfl)) (by rfl)) (by rfl))) (qe_call G__law_next (hr.mono (by decide)) (by rfl) T.m__law_next T.k__law_next T.bd__law_next .nil pass0 (qa (pv 0 (by rfl) (by walk_at "vis") (by decide) (by decide)) (qa pe_int qa_nil (by rfl)) (by rfl)) (by decide) (by rfl) (by rfl)) (fun _ _ => rfl)) qa_nil (by rfl)) (by rfl)) (by rfl)) (by rfl)))))), ?_⟩
    try dsimp only [cxOf]
    walk_at "rd"
    refine ⟨st, rfl, S, fun v1 H1 a1 b1 S1 x1 => ?_⟩
    walk_at "rd"
    refine ⟨st, 8, rfl, S1, by decide, by decide, fun v2 H2 a2 b2 S2 x2 => ?_⟩
    walk_at "rd"
    refine ⟨st, rfl, S2, fun v3 H3 a3 b3 S3 x3 => ?_⟩
    walk_at "rd"
    refine ⟨st, v1 + 1, rfl, S3, by omega, by omega, fun v4 H4 a4 b4 S4 x4 => ?_⟩
    walk_at "rd"
    refine ⟨sz (by simp), fun l5 H5 n5 s5 g5 => ?_⟩
    walk_at "rd"
    refine ⟨st, 3, rfl, S4.same s5, by decide, by decide, fun v6 H6 a6 b6 S6 x6 => ?_⟩
    obtain ⟨w, ew, w0, w1⟩ : ∃ w : Int, L2.atI [V.int 0, .int v1, .int v4] v6 = some (.int w) ∧ 0 ≤ w ∧ w ≤ 1000000 := by
      obtain ⟨j, rfl⟩ := Int.eq_ofNat_of_zero_le a6
      have hj : j < 3 := by omega
      match j, hj with
      | 0, _ => exact ⟨0, rfl, by omega, by omega⟩
      | 1, _ => exact ⟨v1, rfl, by omega, by omega⟩
      | 2, _ => exact ⟨v4, rfl, by omega, by omega⟩
    refine rd_ixL (SqL.of (x6 _ _ g5 (S4.nin (Same.refl _) n5))) ew ?_
    walk_at "rd"
    refine ⟨sz (by simp), fun t7 H7 n7 s7 g7 => ?_⟩
    have x : Ext [st] H H6 := ((((x1.trans x2).trans x3).trans x4).trans (Ext.same s5)).trans x6
    exact k t7 _ _ _ _ H7 g7 (S6.ne n7) (x.free n7 (S6.nin (Same.refl _) n7)) ⟨a2, by omega⟩ ⟨a3, by omega⟩ ⟨a1, by omega⟩ ⟨w0, by omega⟩ (S6.same s7) (x.trans (Ext.same s7))

noncomputable def sp_law_letter (K : PySem.W.Frag) : Sp := fun vs H Q _ => ∃ (st : Addr), vs = [.ref st] ∧ StOk K H st ∧
  ∀ (t : Addr) (xs : List V) (ds : List PyData) (H' : Hp), SqT K H' t xs → t ∉ [st] → DtAll K [st] H' xs ds → (∀ d ∈ ds, Mt.Itm 7000 4 d) → ds.length ≤ 9 → StOk K H' st → Ext [st] H H' → Q (.ref t) H'
theorem ok_law_letter (T : Txt P K mg a) (G__law_keys : FnOk P w K mg base CX0 3 a.f_law_keys a.d_law_keys ["_law_state_here"] (sp_law_keys K)) (G__law_next : FnOk P w K mg base CX0 1 a.f_law_next a.d_law_next ["_law_state_here", "_law_below"] (sp_law_next K)) (G__law_past : FnOk P w K mg base CX0 2 a.f_law_past a.d_law_past ["_law_state_here"] (sp_law_past K)) (G__law_place : FnOk P w K mg base CX0 2 a.f_law_place a.d_law_place ["_law_state_here"] (sp_law_place K)) (G__law_row : FnOk P w K mg base CX0 3 a.f_law_row a.d_law_row ["_law_state_here", "_law_keys_here"] (sp_law_row K)) (G__law_said : FnOk P w K mg base CX0 3 a.f_law_said a.d_law_said ["_law_state_here"] (sp_law_said K)) : FnOk P w K mg base CX0 4 a.f_law_letter a.d_law_letter ["_law_state_here"] (sp_law_letter K) := by
  refine T.F_law_letter.ok sc_law_letter (fun vs H Q E h => ?_) (fun cdv A outer s H vs Q E hr h => ?_)
  · obtain ⟨st, rfl, _⟩ := h; rfl
  · obtain ⟨st, rfl, S, k⟩ := h
    refine exW ⟨_, (qss_cons (qs_set (i := 1) sc_law_letter.nd rfl (Or.inl rfl) (pe_ix ix_list (qe_lstA (qa pe_int (qa (pe_op op_add pe_int (qe_call G__law_next (hr.mono (by decide)) (by rfl) T.m__law_next T.k__law_next T.bd__law_next .nil pass0 (qa (pv 0 (by rfl) (by walk_at "vis") (by decide) (by decide)) (qa pe_int qa_nil (by rfl)) (by rfl)) (by decide) (by rfl) (by rfl))) (qa (pe_op op_add pe_int (qe_call G__law_next (hr.mono (by decide)) (by rfl) T.m__law_next T.k__law_next T.bd__law_next .nil pass0 (qa (pv 0 (by rfl) (by walk_at "vis") (by decide) (by decide)) (qa (pe_op op_pow pe_int pe_int) qa_nil (by rfl)) (by rfl)) (by decide) (by rfl) (by rfl))) qa_nil (by rfl)) (by rfl)) (by rfl))) (qe_call G__law_next (hr.mono (by decide)) (by rfl) T.m__law_next T.k__law_next T.bd__law_next .nil pass0 (qa (pv 0 (by rfl) (by walk_at "vis") (by decide) (by decide)) (qa pe_int qa_nil (by rfl)) (by rfl)) (by decide) (by rfl) (by rfl)) (fun _ _ => rfl)) (by rfl) (by first | exact Or.inl rfl | exact Or.inr rfl))
      (qss_cons (qs_set (i := 2) sc_law_letter.nd rfl (Or.inl rfl) (qe_tupA (qa (qe_call G__law_next (hr.mono (by decide)) (by rfl) T.m__law_next T.k__law_next T.bd__law_next .nil pass0 (qa (pv 0 (by rfl) (by walk_at "vis") (by decide) (by decide)) (qa pe_int qa_nil (by rfl)) (by rfl)) (by decide) (by rfl) (by rfl)) (qa (qe_call G__law_next (hr.mono (by decide)) (by rfl) T.m__law_next T.k__law_next T.bd__law_next .nil pass0 (qa (pv 0 (by rfl) (by walk_at "vis") (by decide) (by decide)) (qa pe_int qa_nil (by rfl)) (by rfl)) (by decide) (by rfl) (by rfl)) (qa (pv 1 (by rfl) (by walk_at "vis") (by decide) (by decide)) qa_nil (by rfl)) (by rfl)) (by rfl))) (by rfl) (by first | exact Or.inl rfl | exact Or.inr rfl))
      (qss_cons (qs_set (i := 3) sc_law_letter.nd rfl (Or.inl rfl) (qe_call G__law_next (hr.mono (by decide)) (by rfl) T.m__law_next T.k__law_next T.bd__law_next .nil pass0 (qa (pv 0 (by rfl) (by walk_at "vis") (by decide) (by decide)) (qa pe_int qa_nil (by rfl)) (by rfl)) (by decide) (by rfl) (by rfl)) (by rfl) (by first | exact Or.inl rfl | exact Or.inr rfl))
      (qss_cons (qs_if (pt_cmpR op_eq (pv 3 (by rfl) (by walk_at "vis") (by decide) (by decide)) pe_int (nomark _))
        (qss_cons (qs_set (i := 4) sc_law_letter.nd rfl (Or.inl rfl) (qe_callTy (cn_tupleA (K := K) (by rfl)) (by rfl) T.b_tuple (by decide +kernel) (qa (by
        refine' pe_comp (NC := ["_law_k", "_law_state_here"]) (fr := [none, some 0]) ?B10 rfl ?hi10 ?hg10 ?ht10 ?he10 (by intro _; rfl)
        case B10 => exact ⟨rfl, rfl, by decide +kernel, by decide +kernel, rfl, ⟨trivial, ⟨rfl, rfl, Or.inl rfl⟩, trivial⟩⟩
        case hi10 => exact (qi_range1 (by rfl) T.b_range (qa (qe_call G__law_next (hr.mono (by decide)) (by rfl) T.m__law_next T.k__law_next T.bd__law_next .nil pass0 (qa (pv 0 (by rfl) (by walk_at "vis") (by decide) (by decide)) (qa pe_int qa_nil (by rfl)) (by rfl)) (by decide) (by rfl) (by rfl)) qa_nil (by rfl)) (by rfl))
        case hg10 => intro _ _ _; exact (pg_name (i := 0) (show (["_law_k", "_law_state_here"] : List Str).Nodup by decide +kernel) rfl (Or.inl rfl) (by first | exact Or.inl rfl | exact Or.inr rfl))
        case ht10 => intro _ _ _; exact pf_nil
        case he10 => intro _ _ _; exact (qe_call G__law_said (hr.mono (by decide)) (by rfl) T.m__law_said T.k__law_said T.bd__law_said .nil pass0 (qa (pv 1 (by rfl) (by walk_at "vis") (by decide) (by decide)) qa_nil (by rfl)) (by decide) (by rfl) (by rfl))) qa_nil (by rfl)) (by decide) (by decide) (by rfl) (by rfl)) (by rfl) (by first | exact Or.inl rfl | exact Or.inr rfl))
        (qss_one (qs_ret (pe_op op_catG (pe_op op_catG (pe_op op_catG (qe_tupA (qa pe_str qa_nil (by rfl))) (pv 2 (by rfl) (by walk_at "vis") (by decide) (by decide))) (pe_slice sl_tupG (qe_call G__law_said (hr.mono (by decide)) (by rfl) T.m__law_said T.k__law_said T.bd__law_said .nil pass0 (qa (pv 0 (by rfl) (by walk_at "vis") (by decide) (by decide)) qa_nil (by rfl)) (by decide) (by rfl) (by rfl)) (po_some pe_int) po_none)) (qe_tupA (qa (pv 4 (by rfl) (by walk_at "vis") (by decide) (by decide)) qa_nil (by rfl)))))))
        qss_nil)
      (qss_cons (qs_if (pt_cmpR op_eq (pv 3 (by rfl) (by walk_at "vis") (by decide) (by decide)) pe_int (nomark _))
        (qss_cons (qs_set (i := 5) sc_law_letter.nd rfl (Or.inr rfl) (qe_call G__law_keys (hr.mono (by decide)) (by rfl) T.m__law_keys T.k__law_keys T.bd__law_keys .nil pass0 (qa (pv 0 (by rfl) (by walk_at "vis") (by decide) (by decide)) qa_nil (by rfl)) (by decide) (by rfl) (by rfl)) (by rfl) (by first | exact Or.inl rfl | exact Or.inr rfl))
        (qss_cons (qs_set (i := 6) sc_law_letter.nd rfl (Or.inl rfl) (qe_callTy (cn_tupleA (K := K) (by rfl)) (by rfl) T.b_tuple (by decide +kernel) (qa (by
        refine' pe_comp (NC := ["_law_k", "_law_state_here", "_law_keys_here"]) (fr := [none, some 0, some 5]) ?B11 rfl ?hi11 ?hg11 ?ht11 ?he11 (by intro _; rfl)
        case B11 => exact ⟨rfl, rfl, by decide +kernel, by decide +kernel, rfl, ⟨trivial, ⟨rfl, rfl, Or.inl rfl⟩, ⟨rfl, rfl, Or.inl rfl⟩, trivial⟩⟩
        case hi11 => exact (qi_range1 (by rfl) T.b_range (qa (qe_call G__law_next (hr.mono (by decide)) (by rfl) T.m__law_next T.k__law_next T.bd__law_next .nil pass0 (qa (pv 0 (by rfl) (by walk_at "vis") (by decide) (by decide)) (qa pe_int qa_nil (by rfl)) (by rfl)) (by decide) (by rfl) (by rfl)) qa_nil (by rfl)) (by rfl))
        case hg11 => intro _ _ _; exact (pg_name (i := 0) (show (["_law_k", "_law_state_here", "_law_keys_here"] : List Str).Nodup by decide +kernel) rfl (Or.inl rfl) (by first | exact Or.inl rfl | exact Or.inr rfl))
        case ht11 => intro _ _ _; exact pf_nil
        case he11 => intro _ _ _; exact (qe_call G__law_row (hr.mono (by decide)) (by rfl) T.m__law_row T.k__law_row T.bd__law_row .nil pass0 (qa (pv 1 (by rfl) (by walk_at "vis") (by decide) (by decide)) (qa (pv 2 (by rfl) (by walk_at "vis") (by decide) (by decide)) qa_nil (by rfl)) (by rfl)) (by decide) (by rfl) (by rfl))) qa_nil (by rfl)) (by decide) (by decide) (by rfl) (by rfl)) (by rfl) (by first | exact Or.inl rfl | exact Or.inr rfl))
        (qss_one (qs_ret (pe_op op_catG (pe_op op_catG (qe_tupA (qa pe_str qa_nil (by rfl))) (pv 2 (by rfl) (by walk_at "vis") (by decide) (by decide))) (qe_tupA (qa (qe_call G__law_past (hr.mono (by decide)) (by rfl) T.m__law_past T.k__law_past T.bd__law_past .nil pass0 (qa (pv 0 (by rfl) (by walk_at "vis") (by decide) (by decide)) qa_nil (by rfl)) (by decide) (by rfl) (by rfl)) (qa (qe_call G__law_place (hr.mono (by decide)) (by rfl) T.m__law_place T.k__law_place T.bd__law_place .nil pass0 (qa (pv 0 (by rfl) (by walk_at "vis") (by decide) (by decide)) qa_nil (by rfl)) (by decide) (by rfl) (by rfl)) (qa (pv 6 (by rfl) (by walk_at "vis") (by decide) (by decide)) qa_nil (by rfl)) (by rfl)) (by rfl))))))))
        qss_nil)
      (qss_one (qs_ret (pe_op op_catG (pe_op op_catG (qe_tupA (qa pe_str qa_nil (by rfl))) (pv 2 (by rfl) (by walk_at "vis") (by decide) (by decide))) (qe_tupA (qa (qe_call G__law_place (hr.mono (by decide)) (by rfl) T.m__law_place T.k__law_place T.bd__law_place .nil pass0 (qa (pv 0 (by rfl) (by walk_at "vis") (by decide) (by decide)) qa_nil (by rfl)) (by decide) (by rfl) (by rfl)) qa_nil (by rfl))))))))))), ?_⟩
    try dsimp only [cxOf]
    have p9 : (10 : Int) ^ (9 : Int).toNat = 1000000000 := by decide +kernel
    walk_at "rd"
    refine ⟨st, 9, rfl, S, by decide, by decide, fun v1 H1 a1 b1 S1 x1 => ?_⟩
    walk_at "rd"
    refine ⟨st, _, rfl, S1, by decide +kernel, by decide +kernel, fun v2 H2 a2 b2 S2 x2 => ?_⟩
    rw [p9] at b2
    walk_at "rd"
    refine ⟨sz (by simp), fun l3 H3 n3 s3 g3 => ?_⟩
    walk_at "rd"
    refine ⟨st, 3, rfl, S2.same s3, by decide, by decide, fun v4 H4 a4 b4 S4 x4 => ?_⟩
    obtain ⟨un, ew, w0, w1⟩ : ∃ w : Int, L2.atI [V.int 1, .int (1 + v1), .int (1 + v2)] v4 = some (.int w) ∧ 0 ≤ w ∧ w ≤ 1000000000 := by
      obtain ⟨j, rfl⟩ := Int.eq_ofNat_of_zero_le a4
      have hj : j < 3 := by omega
      match j, hj with
      | 0, _ => exact ⟨1, rfl, by omega, by omega⟩
      | 1, _ => exact ⟨1 + v1, rfl, by omega, by omega⟩
      | 2, _ => exact ⟨1 + v2, rfl, by omega, by omega⟩
    refine rd_ixL (SqL.of (x4 _ _ g3 (S2.nin (Same.refl _) n3))) ew ?_
    have x04 : Ext [st] H H4 := ((x1.trans x2).trans (Ext.same s3)).trans x4
    walk_at "rd"
    refine ⟨st, 8, rfl, S4, by decide, by decide, fun v5 H5 a5 b5 S5 x5 => ?_⟩
    walk_at "rd"
    refine ⟨st, 8, rfl, S5, by decide, by decide, fun v6 H6 a6 b6 S6 x6 => ?_⟩
    walk_at "rd"
    refine ⟨sz (by simp), fun th H7 n7 s7 g7 => ?_⟩
    have S7 := S6.same s7
    have nth : th ≠ st := S6.ne n7
    have x07 : Ext [st] H H7 := ((x04.trans x5).trans x6).trans (Ext.same s7)
    walk_at "rd"
    refine ⟨st, 3, rfl, S7, by decide, by decide, fun v8 H8 a8 b8 S8 x8 => ?_⟩
    have g8 := x8 _ _ g7 (by simpa using nth)
    have x08 := x07.trans x8
    have ii : ∀ i : Int, 0 ≤ i → i ≤ 1000000000 → Mt.Itm 140 0 (.int i) := fun i h1 h2 => Mt.itm_int (by omega)
    have iw : ∀ z : Str, Mt.cpsOk z → z.length ≤ 140 → Mt.Itm 140 0 (.str z) := fun z h1 h2 => Mt.itm_str h1 h2
    have hth : SqT K H8 th [.int v5, .int v6, .int un] := SqT.of g8
    have hI : ∀ d ∈ [PyData.int v5, .int v6, .int un], Mt.Itm 7000 4 d := fun d hd => by
      simp only [List.mem_cons, List.not_mem_nil, or_false] at hd
      rcases hd with rfl | rfl | rfl
      · exact (ii _ a5 (by omega)).mono (by decide) (by decide)
      · exact (ii _ a6 (by omega)).mono (by decide) (by decide)
      · exact (ii _ w0 w1).mono (by decide) (by decide)
    walk_at "rd"
    refine rd_ite2 (fun hc => ?_) (fun hc => ?_)
    · walk_at "rd"
      refine ⟨st, 4, rfl, S8, by decide, by decide, fun v9 H9 a9 b9 S9 x9 => ?_⟩
      walk_at "rd"
      refine ⟨by omega, by omega, ?_⟩
      intro acc hacc nka
      have na : acc ≠ st := S9.ne hacc
      refine comp_by v9.toNat ?_ (fun i vs σc H' => ∃ (o : Option V) (ds : List PyData), σc = [o, some (.ref st)] ∧ StOk K H' st ∧ Ext [st] H9 H' ∧ DtAll K [acc, st] H' vs ds ∧ (∀ d ∈ ds, Mt.Itm 564 1 d) ∧ ∀ v ∈ vs, ∃ q, v = .ref q) ?_ ?_ ?_
      · have : sizeLine = 16777216 := rfl
        omega
      · exact ⟨none, [], rfl, S9.toStOk.same (Same.upd hacc), Ext.new hacc, .nil, by simp, by simp⟩
      · rintro i vs σc H' hi hl ha ⟨o, ds, rfl, S', x', dd, di, dr⟩
        refine ⟨hi, ?_⟩
        rintro x H2 ⟨hH6, rfl⟩ R hR
        subst hH6
        walk_at "rd"
        refine ⟨st, rfl, S', fun t a b c d H3 g3 nts n3 ha' hb hc' hd S3 x3 => ?_⟩
        have ha3 := x3 _ _ ha (by simpa using na)
        have nta : t ≠ acc := Ne.symm (ne_of_none ha n3)
        refine hR _ _ _ ha3 ⟨_, ds ++ [.tuple [.int a, .int b, .int c, .int d]], rfl, S3.acc na ha3 dr, ?_, ?_, ?_, ?_⟩
        · intro b u e n
          rw [upd_ne (ne_of_none e hacc)]
          exact x3 _ _ (x' _ _ e n) n
        · have up : Ext [acc, st] _ (upd H3 acc (.lst (vs ++ [.ref t]))) := fun b u e n => by
            simp only [List.mem_cons, List.not_mem_nil, or_false, not_or] at n
            rw [upd_ne n.1]; exact x3 _ _ e (by simpa using n.2)
          exact (dd.ext up).append (.cons (.tup (SqT.of (by rw [upd_ne nta]; exact g3)) (by simp [nta, nts]) (.cons (.int _) (.cons (.int _) (.cons (.int _) (.cons (.int _) .nil))))) .nil)
        · intro e he
          rcases List.mem_append.mp he with he | he
          · exact di e he
          · have : e = .tuple [.int a, .int b, .int c, .int d] := by simpa using he
            rw [this]
            refine (Mt.itm_tuple (w := 140) (k := 0) (n := 4) (ds := [.int a, .int b, .int c, .int d]) (fun e he => ?_) (by simp)).mono (by decide) (by decide)
            simp only [List.mem_cons, List.not_mem_nil, or_false] at he
            rcases he with rfl | rfl | rfl | rfl
            · exact ii _ ha'.1 ha'.2
            · exact ii _ hb.1 hb.2
            · exact ii _ hc'.1 hc'.2
            · exact ii _ hd.1 hd.2
        · intro v hv
          rcases List.mem_append.mp hv with hv | hv
          · exact dr v hv
          · exact ⟨t, by simpa using hv⟩
      · rintro vs σc H' hl ha ⟨o, ds, rfl, S', x', dd, di, dr⟩
        refine ⟨Nat.le_refl _, ?_⟩
        have hdl := dd.length
        walk_at "rd"
        intro q10 H10 hq10 s10 g10
        have nq10 : q10 ≠ st := by
          rcases hq10 with rfl | h
          · exact na
          · exact S'.ne h
        have S10 := S'.same s10
        have dd10 := (dd.weaken (fun b hb => List.mem_cons_of_mem _ hb)).ext (Ext.same s10)
        have xx := ((x08.trans x9).trans x').trans (Ext.same s10)
        have th10 := ((x9.trans x').trans (Ext.same s10)).tup hth (by simpa using nth)
        walk_at "rd"
        refine ⟨sz (by simp), fun t11 H11 n11 s11 g11 => ?_⟩
        have S11 := S10.same s11
        walk_at "rd"
        refine cat_st S11 (S10.ne n11) nth (SqT.of g11) (s11.tupS th10) (by simp) fun r12 H12 n12 s12 g12 => ?_
        have S12 := S11.same s12
        walk_at "rd"
        refine ⟨st, rfl, S12, fun t a b c d H13 g13 nts n13 ha' hb hc' hd S13 x13 => ?_⟩
        walk_at "rd"
        intro r14 H14 hr14 s14 g14
        have n14 : r14 ≠ st := by
          rcases hr14 with rfl | h
          · exact nts
          · exact S13.ne h
        rw [show cutV [V.int a, .int b, .int c, .int d] (some 1) none = [.int b, .int c, .int d] from rfl] at g14
        have S14 := S13.same s14
        walk_at "rd"
        refine cat_st S14 n12 n14 ((x13.trans (Ext.same s14)).tup g12 (by simpa using n12)) g14 (by simp) fun r15 H15 n15 s15 g15 => ?_
        have S15 := S14.same s15
        walk_at "rd"
        refine ⟨sz (by simp), fun t16 H16 n16 s16 g16 => ?_⟩
        have S16 := S15.same s16
        walk_at "rd"
        refine cat_st S16 n15 (S15.ne n16) (s16.tupS g15) (SqT.of g16) (by simp) fun r17 H17 n17 s17 g17 => ?_
        have S17 := S16.same s17
        have y : Ext [st] H10 H17 := ((((Ext.same s11).trans (Ext.same s12)).trans x13).trans (Ext.same s14)).trans (Ext.same ((s15.trans s16).trans s17))
        refine k r17 _ [.str "want", .int v5, .int v6, .int un, .int b, .int c, .int d, .tuple ds] H17 g17 (by simpa using n17) (.cons (.str _) (.cons (.int _) (.cons (.int _) (.cons (.int _) (.cons (.int _) (.cons (.int _) (.cons (.int _) (.cons (.tup (y.tup g10 (by simpa using nq10)) (by simpa using nq10) (dd10.ext y)) .nil)))))))) ?_ (by simp) S17 (xx.trans y)
        intro e he
        simp only [List.mem_cons, List.not_mem_nil, or_false] at he
        rcases he with rfl | rfl | rfl | rfl | rfl | rfl | rfl | rfl
        · exact (iw _ (by unfold Mt.cpsOk; decide +kernel) (by decide +kernel)).mono (by decide) (by decide)
        · exact hI _ (by simp)
        · exact hI _ (by simp)
        · exact hI _ (by simp)
        · exact (ii _ hb.1 hb.2).mono (by decide) (by decide)
        · exact (ii _ hc'.1 hc'.2).mono (by decide) (by decide)
        · exact (ii _ hd.1 hd.2).mono (by decide) (by decide)
        · exact (Mt.itm_tuple (n := 3) di (by omega)).mono (by decide) (by decide)
    · walk_at "rd"
      refine rd_ite2 (fun hd => ?_) (fun hd => ?_)
      · walk_at "rd"
        refine ⟨st, rfl, S8, fun lk zs H9 g9 nlk n9 z1 z5 hz S9 x9 => ?_⟩
        walk_at "rd"
        refine ⟨st, 4, rfl, S9, by decide, by decide, fun v10 H10 a10 b10 S10 x10 => ?_⟩
        walk_at "rd"
        have g10 := x10 _ _ g9 (by simpa using nlk)
        refine ⟨by omega, by omega, ?_⟩
        intro acc hacc nka
        have na : acc ≠ st := S10.ne hacc
        refine comp_by v10.toNat ?_ (fun i vs σc H' => ∃ (o : Option V) (ds : List PyData), σc = [o, some (.ref st), some (.ref lk)] ∧ StOk K H' st ∧ Ext [st] H10 H' ∧ DtAll K [acc, st] H' vs ds ∧ (∀ d ∈ ds, Mt.Itm 423 1 d) ∧ ∀ v ∈ vs, ∃ q, v = .ref q) ?_ ?_ ?_
        · have : sizeLine = 16777216 := rfl
          omega
        · exact ⟨none, [], rfl, S10.toStOk.same (Same.upd hacc), Ext.new hacc, .nil, by simp, by simp⟩
        · rintro i vs σc H' hi hl ha ⟨o, ds, rfl, S', x', dd, di, dr⟩
          refine ⟨hi, ?_⟩
          rintro x H2 ⟨hH6, rfl⟩ R hR
          subst hH6
          walk_at "rd"
          refine ⟨st, lk, zs, rfl, S', x' _ _ g10 (by simpa using nlk), nlk, z1, z5, hz, fun t xs es H3 g3 n3 de _ l3 ie S3 x3 => ?_⟩
          have ha3 := x3 _ _ ha (by simpa using na)
          have nta : t ≠ acc := Ne.symm (ne_of_none ha n3)
          have nts : t ≠ st := S'.ne n3
          have hes := (de [] H3).length
          refine hR _ _ _ ha3 ⟨_, ds ++ [.tuple es], rfl, S3.acc na ha3 dr, ?_, ?_, ?_, ?_⟩
          · intro b u e n
            rw [upd_ne (ne_of_none e hacc)]
            exact x3 _ _ (x' _ _ e n) n
          · have up : Ext [acc, st] _ (upd H3 acc (.lst (vs ++ [.ref t]))) := fun b u e n => by
              simp only [List.mem_cons, List.not_mem_nil, or_false, not_or] at n
              rw [upd_ne n.1]; exact x3 _ _ e (by simpa using n.2)
            refine (dd.ext up).append (.cons (.tup (SqT.of (by rw [upd_ne nta]; exact g3)) (by simp [nta, nts]) ?_) .nil)
            exact de _ _
          · intro e he
            rcases List.mem_append.mp he with he | he
            · exact di e he
            · have : e = .tuple es := by simpa using he
              rw [this]
              exact (Mt.itm_tuple (n := 3) ie (by omega)).mono (by decide) (by decide)
          · intro v hv
            rcases List.mem_append.mp hv with hv | hv
            · exact dr v hv
            · exact ⟨t, by simpa using hv⟩
        · rintro vs σc H' hl ha ⟨o, ds, rfl, S', x', dd, di, dr⟩
          refine ⟨Nat.le_refl _, ?_⟩
          have hdl := dd.length
          walk_at "rd"
          intro q11 H11 hq11 s11 g11
          have nq11 : q11 ≠ st := by
            rcases hq11 with rfl | h
            · exact na
            · exact S'.ne h
          have S11 := S'.same s11
          have dd11 := (dd.weaken (fun b hb => List.mem_cons_of_mem _ hb)).ext (Ext.same s11)
          have x811 := ((x9.trans x10).trans x').trans (Ext.same s11)
          have th11 := x811.tup hth (by simpa using nth)
          walk_at "rd"
          refine ⟨sz (by simp), fun t12 H12 n12 s12 g12 => ?_⟩
          have S12 := S11.same s12
          walk_at "rd"
          refine cat_st S12 (S11.ne n12) nth (SqT.of g12) (s12.tupS th11) (by simp) fun r13 H13 n13 s13 g13 => ?_
          have S13 := S12.same s13
          walk_at "rd"
          refine ⟨st, rfl, S13, fun tp xp dp H14 g14 ntp ddp ip lp S14 x14 => ?_⟩
          walk_at "rd"
          refine ⟨st, rfl, S14, fun v15 H15 a15 b15 S15 x15 => ?_⟩
          walk_at "rd"
          refine ⟨sz (by simp), fun t16 H16 n16 s16 g16 => ?_⟩
          have S16 := S15.same s16
          have y1316 : Ext [st] H13 H16 := (x14.trans x15).trans (Ext.same s16)
          walk_at "rd"
          refine cat_st S16 n13 (S15.ne n16) (y1316.tup g13 (by simpa using n13)) (SqT.of g16) (by simp) fun r17 H17 n17 s17 g17 => ?_
          have y : Ext [st] H11 H17 := ((Ext.same s12).trans (Ext.same s13)).trans (y1316.trans (Ext.same s17))
          have y14 : Ext [st] H14 H17 := (x15.trans (Ext.same s16)).trans (Ext.same s17)
          refine k r17 _ [.str "rows", .int v5, .int v6, .int un, .tuple dp, .int v15, .tuple ds] H17 g17 (by simpa using n17) (.cons (.str _) (.cons (.int _) (.cons (.int _) (.cons (.int _) (.cons (.tup (y14.tup g14 ntp) ntp (ddp.ext y14)) (.cons (.int _) (.cons (.tup (y.tup g11 (by simpa using nq11)) (by simpa using nq11) (dd11.ext y)) .nil))))))) ?_ (by simp) (S16.same s17) ((x08.trans x811).trans y)
          intro e he
          simp only [List.mem_cons, List.not_mem_nil, or_false] at he
          rcases he with rfl | rfl | rfl | rfl | rfl | rfl | rfl
          · exact (iw _ (by unfold Mt.cpsOk; decide +kernel) (by decide +kernel)).mono (by decide) (by decide)
          · exact hI _ (by simp)
          · exact hI _ (by simp)
          · exact hI _ (by simp)
          · exact (Mt.itm_tuple (n := 5) ip lp).mono (by decide) (by decide)
          · exact (ii _ a15 (by omega)).mono (by decide) (by decide)
          · exact (Mt.itm_tuple (n := 3) di (by omega)).mono (by decide) (by decide)
      · walk_at "rd"
        refine ⟨sz (by simp), fun t11 H11 n11 s11 g11 => ?_⟩
        have S11 := S8.same s11
        walk_at "rd"
        refine cat_st S11 (S8.ne n11) nth (SqT.of g11) (s11.tupS hth) (by simp) fun r12 H12 n12 s12 g12 => ?_
        have S12 := S11.same s12
        walk_at "rd"
        refine ⟨st, rfl, S12, fun v13 H13 a13 b13 S13 x13 => ?_⟩
        walk_at "rd"
        refine ⟨sz (by simp), fun t14 H14 n14 s14 g14 => ?_⟩
        have S14 := S13.same s14
        walk_at "rd"
        refine cat_st S14 n12 (S13.ne n14) ((x13.trans (Ext.same s14)).tup g12 (by simpa using n12)) (SqT.of g14) (by simp) fun r15 H15 n15 s15 g15 => ?_
        refine k r15 _ [.str "gone", .int v5, .int v6, .int un, .int v13] H15 g15 (by simpa using n15) (.cons (.str _) (.cons (.int _) (.cons (.int _) (.cons (.int _) (.cons (.int _) .nil))))) ?_ (by simp) (S14.same s15) (((x08.trans (Ext.same (s11.trans s12))).trans x13).trans (Ext.same (s14.trans s15)))
        intro e he
        simp only [List.mem_cons, List.not_mem_nil, or_false] at he
        rcases he with rfl | rfl | rfl | rfl | rfl
        · exact (iw _ (by unfold Mt.cpsOk; decide +kernel) (by decide +kernel)).mono (by decide) (by decide)
        · exact hI _ (by simp)
        · exact hI _ (by simp)
        · exact hI _ (by simp)
        · exact (ii _ a13 (by omega)).mono (by decide) (by decide)

noncomputable def sp_law_odd (K : PySem.W.Frag) : Sp := fun vs H Q _ => ∃ (N : List Addr) (st : Addr), vs = [.ref st] ∧ StOk K H st ∧ st ∈ N ∧ (∀ b ∈ N, H b ≠ none) ∧
  ∀ (x : V) (d : PyData) (H' : Hp), Dt K N H' x d → Mt.Big 2000 13 d → StOkT K H H' st → Ext [st] H H' → Q x H'
theorem ok_law_odd (T : Txt P K mg a) (G__law_deep : FnOk P w K mg base CX0 1 a.f_law_deep a.d_law_deep ["_law_many"] (sp_law_deep K)) (G__law_next : FnOk P w K mg base CX0 1 a.f_law_next a.d_law_next ["_law_state_here", "_law_below"] (sp_law_next K)) : FnOk P w K mg base CX0 2 a.f_law_odd a.d_law_odd ["_law_state_here"] (sp_law_odd K) := by
  refine T.F_law_odd.ok sc_law_odd (fun vs H Q E h => ?_) (fun cdv A outer s H vs Q E hr h => ?_)
  · obtain ⟨N, st, rfl, _⟩ := h; rfl
  · obtain ⟨N, st, rfl, S, hst, hN, k⟩ := h
    have nF : ∀ {q : Addr}, H q = none → q ∉ N := fun e z => hN _ z e
    refine exW ⟨_, (qss_cons (qs_set (i := 1) sc_law_odd.nd rfl (Or.inl rfl) (qe_lstS (qa pe_non (qa pe_bl (qa pe_bl (qa pe_int (qa (by exact (pe_un un_neg pe_int)) (qa pe_int (qa (by exact (pe_op op_pow pe_int pe_int)) (qa pe_str (qa pe_str (qa pe_str (qa pe_str (qa (by exact (qe_tupS qa_nil)) (qa (by exact (qe_lstS qa_nil)) (qa pe_dnewA (qa (by exact (qe_tupS (qa (qe_tupS qa_nil) qa_nil (by rfl)))) (qa (by exact (qe_call G__law_deep (hr.mono (by decide)) (by rfl) T.m__law_deep T.k__law_deep T.bd__law_deep .nil pass0 (qa pe_int qa_nil (by rfl)) (by decide) (by rfl) (by rfl))) qa_nil (by rfl)) (by rfl)) (by rfl)) (by rfl)) (by rfl)) (by rfl)) (by rfl)) (by rfl)) (by rfl)) (by rfl)) (by rfl)) (by rfl)) (by rfl)) (by rfl)) (by rfl)) (by rfl))) (by rfl) (by first | exact Or.inl rfl | exact Or.inr rfl))
      (qss_one (qs_ret (pe_ix ix_list (pv 1 (by rfl) (by walk_at "vis") (by decide) (by decide)) (qe_call G__law_next (hr.mono (by decide)) (by rfl) T.m__law_next T.k__law_next T.bd__law_next .nil pass0 (qa (pv 0 (by rfl) (by walk_at "vis") (by decide) (by decide)) (qa pe_int qa_nil (by rfl)) (by rfl)) (by decide) (by rfl) (by rfl)) (fun _ _ => rfl))))), ?_⟩
    try dsimp only [cxOf]
    walk_at "rd"
    refine ⟨sz (by simp), fun t1 H1 n1 m1 s1 g1 => ?_⟩
    walk_at "rd"
    refine ⟨sz (by simp), fun l2 H2 n2 m2 s2 g2 => ?_⟩
    walk_at "rd"
    intro d3 H3 n3 s3 g3
    walk_at "rd"
    refine ⟨sz (by simp), fun t4 H4 n4 m4 s4 g4 => ?_⟩
    walk_at "rd"
    refine ⟨sz (by simp), fun t5 H5 n5 m5 s5 g5 => ?_⟩
    have S1 := S.same s1
    have S2 := S1.same s2
    have S3 := S2.same s3
    have S4 := S3.same s4
    have S5 := S4.same s5
    walk_at "rd"
    have s05 := ((((s1.trans s2).trans s3).trans s4).trans s5)
    refine ⟨12, N, rfl, by decide, (fun b hb z => hN b hb (s05.free z)), fun x6 H6 s6 q6 => ?_⟩
    have S6 := S5.same s6
    walk_at "rd"
    refine ⟨sz (by simp), fun l7 H7 n7 m7 s7 g7 => ?_⟩
    have S7 := S6.same s7
    walk_at "rd"
    refine ⟨st, 16, rfl, S7, by decide, by decide, fun v8 H8 a8 b8 S8 x8 => ?_⟩
    have nn : ∀ {p : Addr}, p ≠ st → p ∉ [st] := fun h => by simpa using h
    have e7 := x8 _ _ g7 (nn (S6.ne n7))
    have e1 := x8 _ _ (s7 _ _ (s6 _ _ (s5 _ _ (s4 _ _ (s3 _ _ (s2 _ _ g1)))))) (nn (S.ne n1))
    have e2 := x8 _ _ (s7 _ _ (s6 _ _ (s5 _ _ (s4 _ _ (s3 _ _ g2))))) (nn (S1.ne n2))
    have e3 := x8 _ _ (s7 _ _ (s6 _ _ (s5 _ _ (s4 _ _ g3)))) (nn (S2.ne n3))
    have e4 := x8 _ _ (s7 _ _ (s6 _ _ (s5 _ _ g4))) (nn (S3.ne n4))
    have e5 := x8 _ _ (s7 _ _ (s6 _ _ g5)) (nn (S4.ne n5))
    have q8 := (q6.sub (N' := N) (fun b hb => List.mem_cons_of_mem _ hb)).ext ((Ext.same s7).trans (x8.up hst))
    have x : Ext [st] H H8 := (Ext.same (((((((s1.trans s2).trans s3).trans s4).trans s5).trans s6).trans s7))).trans x8
    have D1 : Dt K N H8 (.ref t1) (.tuple []) := .tup (SqT.of e1) (nF n1) .nil
    have D2 : Dt K N H8 (.ref l2) (.list []) := .lst (SqL.of e2) (nF (s1.free n2)) .nil
    have D3 : Dt K N H8 (.ref d3) (.dict []) := .dk0 e3 (nF ((s1.trans s2).free n3))
    have D5 : Dt K N H8 (.ref t5) (.tuple [.tuple []]) := .tup (SqT.of e5) (nF ((((s1.trans s2).trans s3).trans s4).free n5)) (.cons (.tup (SqT.of e4) (nF (((s1.trans s2).trans s3).free n4)) .nil) .nil)
    have p40 : (10 : Int) ^ (40 : Int).toNat = 10000000000000000000000000000000000000000 := by decide +kernel
    rw [p40] at e7
    have fin : ∀ (x : V) (d : PyData), Dt K N H8 x d → Mt.Big 2000 13 d → Q x H8 := fun x d g1 g2 => k x d H8 g1 g2 (.pre (((((((s1.trans s2).trans s3).trans s4).trans s5).trans s6).trans s7)) S8) ‹Ext [st] H H8›
    have bi : ∀ i : Int, i.natAbs < 10 ^ 41 → Q (.int i) H8 := fun i h => fin _ _ (.int i) ((Mt.itm_int h).big.mono (by decide) (by decide))
    have bs : ∀ z : Str, Mt.cpsOk z → z.length ≤ 140 → Q (.str z) H8 := fun z h1 h2 => fin _ _ (.str z) ((Mt.itm_str h1 h2).big.mono (by decide) (by decide))
    obtain ⟨j, rfl⟩ := Int.eq_ofNat_of_zero_le a8
    have hj : j < 16 := by omega
    match j, hj with
    | 0, _ => exact rd_ixL (SqL.of e7) rfl (fin _ _ .non (Mt.itm_none.big.mono (by decide) (by decide)))
    | 1, _ => exact rd_ixL (SqL.of e7) rfl (fin _ _ (.bl _) ((Mt.itm_bool _).big.mono (by decide) (by decide)))
    | 2, _ => exact rd_ixL (SqL.of e7) rfl (fin _ _ (.bl _) ((Mt.itm_bool _).big.mono (by decide) (by decide)))
    | 3, _ => exact rd_ixL (SqL.of e7) rfl (bi _ (by decide +kernel))
    | 4, _ => exact rd_ixL (SqL.of e7) rfl (bi _ (by decide +kernel))
    | 5, _ => exact rd_ixL (SqL.of e7) rfl (bi _ (by decide +kernel))
    | 6, _ => exact rd_ixL (SqL.of e7) rfl (bi _ (by decide +kernel))
    | 7, _ => exact rd_ixL (SqL.of e7) rfl (bs _ (by unfold Mt.cpsOk; decide +kernel) (by decide +kernel))
    | 8, _ => exact rd_ixL (SqL.of e7) rfl (bs _ (by unfold Mt.cpsOk; decide +kernel) (by decide +kernel))
    | 9, _ => exact rd_ixL (SqL.of e7) rfl (bs _ (by unfold Mt.cpsOk; decide +kernel) (by decide +kernel))
    | 10, _ => exact rd_ixL (SqL.of e7) rfl (bs _ (by unfold Mt.cpsOk; decide +kernel) (by decide +kernel))
    | 11, _ => exact rd_ixL (SqL.of e7) rfl (fin _ _ D1 ⟨rfl, rfl, by decide +kernel, by decide +kernel⟩)
    | 12, _ => exact rd_ixL (SqL.of e7) rfl (fin _ _ D2 ⟨rfl, rfl, by decide +kernel, by decide +kernel⟩)
    | 13, _ => exact rd_ixL (SqL.of e7) rfl (fin _ _ D3 ⟨rfl, rfl, by decide +kernel, by decide +kernel⟩)
    | 14, _ => exact rd_ixL (SqL.of e7) rfl (fin _ _ D5 ⟨rfl, rfl, by decide +kernel, by decide +kernel⟩)
    | 15, _ =>
      obtain ⟨h1, h2, h3, h4⟩ := Mt.deep_big 12 (by decide)
      exact rd_ixL (SqL.of e7) rfl (fin _ _ q8 ⟨h1, h2, by omega, h4⟩)

noncomputable def spr_law_bent (K : PySem.W.Frag) (m : Nat) : Sp := fun vs H Q _ => ∃ (N : List Addr) (st : Addr) (x : V) (d : PyData) (n w w0 : Nat), vs = [.ref st, x, .int n] ∧ n < m ∧ StOk K H st ∧ st ∈ N ∧ (∀ b ∈ N, H b ≠ none) ∧ Dt K N H x d ∧ Mt.Big w w0 d ∧ w ≤ 100000 ∧ d.leavesShort 50 = true ∧
  ∀ (y : V) (e : PyData) (H' : Hp), Dt K N H' y e → Mt.Big (w + 2100 * (n + 1)) (max w0 (14 + n)) e → StOkT K H H' st → Ext [st] H H' → Q y H'
theorem spr_law_bent_zero {K : PySem.W.Frag} {vs : List V} {H : Hp} {Q : VK} {E : XK} : ¬ spr_law_bent K 0 vs H Q E := fun ⟨_, _, _, _, _, _, _, _, h, _⟩ => absurd h (Nat.not_lt_zero _)
noncomputable def sp_law_bent (K : PySem.W.Frag) : Sp := spr_law_bent K 5
theorem okr_law_bent (T : Txt P K mg a) {k m : Nat} (hk : 2 ≤ k) (G__law_bent : FnOk P w K mg base CX0 k a.f_law_bent a.d_law_bent ["_law_state_here", "_law_thing", "_law_depth"] (spr_law_bent K m)) (G__law_next : FnOk P w K mg base CX0 1 a.f_law_next a.d_law_next ["_law_state_here", "_law_below"] (sp_law_next K)) (G__law_odd : FnOk P w K mg base CX0 2 a.f_law_odd a.d_law_odd ["_law_state_here"] (sp_law_odd K)) (G__law_whole : FnOk P w K mg base CX0 1 a.f_law_whole a.d_law_whole ["_law_found"] (sp_law_whole K)) : FnOk P w K mg base CX0 (k + 1) a.f_law_bent a.d_law_bent ["_law_state_here", "_law_thing", "_law_depth"] (spr_law_bent K (m + 1)) := by
  refine T.F_law_bent.ok sc_law_bent (fun vs H Q E h => ?_) (fun cdv A outer s H vs Q E hr h => ?_)
  · obtain ⟨N, st, x, d, n, w, w0, rfl, _⟩ := h; rfl
  · obtain ⟨N, st, x, d, n, w, w0, rfl, hn, S, hst, hN, hd, hb, hw, hv, k⟩ := h
    have tr : ∀ {H' : Hp}, StOk K H' st → Ext [st] H H' → ∀ b ∈ N, H' b ≠ none := fun S' x' => trN S' x' hN
    have fr : ∀ {H' : Hp} {q : Addr}, StOk K H' st → Ext [st] H H' → H' q = none → q ∉ N := fun S' x' e z => tr S' x' _ z e
    have n1 : ∀ {q : Addr}, q ∉ N → q ∉ [st] := fun h z => h (by rw [List.mem_singleton.mp z]; exact hst)
    refine exW ⟨_, (qss_cons (qs_set (i := 3) sc_law_bent.nd rfl (Or.inl rfl) (qe_call G__law_next (hr.mono (by omega)) (by rfl) T.m__law_next T.k__law_next T.bd__law_next .nil pass0 (qa (pv 0 (by rfl) (by walk_at "vis") (by decide) (by decide)) (qa pe_int qa_nil (by rfl)) (by rfl)) (by decide) (by rfl) (by rfl)) (by rfl) (by first | exact Or.inl rfl | exact Or.inr rfl))
      (qss_cons (qs_if (pw_or (pt_cmpR op_eq (pv 2 (by rfl) (by walk_at "vis") (by decide) (by decide)) pe_int (nomark _)) (pw_or (pt_cmpR op_eq (pv 3 (by rfl) (by walk_at "vis") (by decide) (by decide)) pe_int (nomark _)) (pw_or (pt_not (pt_val (qe_callB cn_isi (by rfl) T.b_isinstance (by decide +kernel) (qa (pv 1 (by rfl) (by walk_at "vis") (by decide) (by decide)) (qa (pe_bltn (by rfl) T.b_tuple (by decide +kernel) (v := .ty "tuple") rfl (by decide) (by decide)) qa_nil (by rfl)) (by rfl)) (by decide) (by decide) (by rfl) (by rfl)) (by intro _; rfl))) (pw_or1 (pt_cmpR op_eq (qe_callB cn_len (by rfl) T.b_len (by decide +kernel) (qa (pv 1 (by rfl) (by walk_at "vis") (by decide) (by decide)) qa_nil (by rfl)) (by decide) (by decide) (by rfl) (by rfl)) pe_int (nomark _)))))).pt
        (qss_cons (qs_if (pw_and (pt_val (qe_call G__law_whole (hr.mono (by omega)) (by rfl) T.m__law_whole T.k__law_whole T.bd__law_whole .nil pass0 (qa (pv 1 (by rfl) (by walk_at "vis") (by decide) (by decide)) qa_nil (by rfl)) (by decide) (by rfl) (by rfl)) (by intro _; rfl)) (pw_and1 (pt_cmpR op_gt (pv 3 (by rfl) (by walk_at "vis") (by decide) (by decide)) pe_int (nomark _)))).pt
          (qss_one (qs_ret (pe_ix ix_list (qe_lstS (qa (by exact (pe_op op_add (pv 1 (by rfl) (by walk_at "vis") (by decide) (by decide)) pe_int)) (qa (by exact (pe_op op_sub (pv 1 (by rfl) (by walk_at "vis") (by decide) (by decide)) pe_int)) (qa (by exact (pe_cmpR op_eq (pv 1 (by rfl) (by walk_at "vis") (by decide) (by decide)) pe_int (nomark _))) (qa (by exact (qe_callTy cn_str (by rfl) T.b_str (by decide +kernel) (qa (pv 1 (by rfl) (by walk_at "vis") (by decide) (by decide)) qa_nil (by rfl)) (by decide) (by decide) (by rfl) (by rfl))) (qa (by exact (pe_op op_add (pe_op op_pow pe_int pe_int) pe_int)) (qa (by exact (pe_op op_add (pe_op op_pow pe_int pe_int) pe_int)) (qa pe_int qa_nil (by rfl)) (by rfl)) (by rfl)) (by rfl)) (by rfl)) (by rfl)) (by rfl))) (qe_call G__law_next (hr.mono (by omega)) (by rfl) T.m__law_next T.k__law_next T.bd__law_next .nil pass0 (qa (pv 0 (by rfl) (by walk_at "vis") (by decide) (by decide)) (qa pe_int qa_nil (by rfl)) (by rfl)) (by decide) (by rfl) (by rfl)) (fun _ _ => rfl))))
          qss_nil)
        (qss_one (qs_ret (qe_call G__law_odd (hr.mono (by omega)) (by rfl) T.m__law_odd T.k__law_odd T.bd__law_odd .nil pass0 (qa (pv 0 (by rfl) (by walk_at "vis") (by decide) (by decide)) qa_nil (by rfl)) (by decide) (by rfl) (by rfl)))))
        qss_nil)
      (qss_cons (qs_set (i := 4) sc_law_bent.nd rfl (Or.inl rfl) (qe_call G__law_next (hr.mono (by omega)) (by rfl) T.m__law_next T.k__law_next T.bd__law_next .nil pass0 (qa (pv 0 (by rfl) (by walk_at "vis") (by decide) (by decide)) (qa (qe_callB cn_len (by rfl) T.b_len (by decide +kernel) (qa (pv 1 (by rfl) (by walk_at "vis") (by decide) (by decide)) qa_nil (by rfl)) (by decide) (by decide) (by rfl) (by rfl)) qa_nil (by rfl)) (by rfl)) (by decide) (by rfl) (by rfl)) (by rfl) (by first | exact Or.inl rfl | exact Or.inr rfl))
      (qss_cons (qs_if (pt_cmpR op_eq (pv 3 (by rfl) (by walk_at "vis") (by decide) (by decide)) pe_int (nomark _))
        (qss_one (qs_ret (pe_ix ix_list (qe_lstS (qa (qe_callTy (cn_listA (K := K) (by rfl)) (by rfl) T.b_list (by decide +kernel) (qa (pv 1 (by rfl) (by walk_at "vis") (by decide) (by decide)) qa_nil (by rfl)) (by decide) (by decide) (by rfl) (by rfl)) (qa (pe_op op_catG (pe_slice sl_tupG (pv 1 (by rfl) (by walk_at "vis") (by decide) (by decide)) po_none (po_some (pv 4 (by rfl) (by walk_at "vis") (by decide) (by decide)))) (pe_slice sl_tupG (pv 1 (by rfl) (by walk_at "vis") (by decide) (by decide)) (po_some (pe_op op_add (pv 4 (by rfl) (by walk_at "vis") (by decide) (by decide)) pe_int)) po_none)) (qa (pe_op op_catG (pv 1 (by rfl) (by walk_at "vis") (by decide) (by decide)) (qe_tupS (qa pe_int qa_nil (by rfl)))) (qa (pe_sliceRevT (pv 1 (by rfl) (by walk_at "vis") (by decide) (by decide)) (pe_un un_neg pe_int)) qa_nil (by rfl)) (by rfl)) (by rfl)) (by rfl))) (qe_call G__law_next (hr.mono (by omega)) (by rfl) T.m__law_next T.k__law_next T.bd__law_next .nil pass0 (qa (pv 0 (by rfl) (by walk_at "vis") (by decide) (by decide)) (qa pe_int qa_nil (by rfl)) (by rfl)) (by decide) (by rfl) (by rfl)) (fun _ _ => rfl))))
        qss_nil)
      (qss_one (qs_ret (pe_op op_catG (pe_op op_catG (pe_slice sl_tupG (pv 1 (by rfl) (by walk_at "vis") (by decide) (by decide)) po_none (po_some (pv 4 (by rfl) (by walk_at "vis") (by decide) (by decide)))) (qe_tupS (qa (qe_call G__law_bent (hr.mono (by omega)) (by rfl) T.m__law_bent T.k__law_bent T.bd__law_bent .nil pass0 (qa (pv 0 (by rfl) (by walk_at "vis") (by decide) (by decide)) (qa (pe_ix ix_tup (pv 1 (by rfl) (by walk_at "vis") (by decide) (by decide)) (pv 4 (by rfl) (by walk_at "vis") (by decide) (by decide)) (fun _ _ => rfl)) (qa (pe_op op_sub (pv 2 (by rfl) (by walk_at "vis") (by decide) (by decide)) pe_int) qa_nil (by rfl)) (by rfl)) (by rfl)) (by decide) (by rfl) (by rfl)) qa_nil (by rfl)))) (pe_slice sl_tupG (pv 1 (by rfl) (by walk_at "vis") (by decide) (by decide)) (po_some (pe_op op_add (pv 4 (by rfl) (by walk_at "vis") (by decide) (by decide)) pe_int)) po_none)))))))), ?_⟩
    try dsimp only [cxOf]
    walk_at "rq"
    refine ⟨st, 8, rfl, S, by decide, by decide, fun v1 H1 a1 b1 S1 x1 => ?_⟩
    have hd1 := hd.ext (x1.up hst)
    walk_at "rs"
    have odd : ∀ {H2 : Hp}, StOkT K H H2 st → Ext [st] H H2 → ∀ (y : V) (e : PyData) (H' : Hp), Dt K N H' y e → Mt.Big 2000 13 e → StOkT K H2 H' st → Ext [st] H2 H' → Q y H' := fun S2 x2 y e H' g1 g2 g3 g4 => k y e H' g1 (g2.mono (by omega) (by omega)) (S2.trans g3) (x2.trans g4)
    refine rd_seqK (fun σ' H' => ∃ (a : Addr) (xs : List V) (ds : List PyData) (m : Nat), σ' = [some (.ref st), some x, some (.int n), some (.int v1), none] ∧ x = .ref a ∧ d = .tuple ds ∧ a ∉ N ∧ SqT K H' a xs ∧ DtAll K N H' xs ds ∧ 0 < xs.length ∧ n = m + 1 ∧ StOkT K H H' st ∧ Ext [st] H H') ?_ ?_
    · rintro σ' H2 ⟨a, xs, ds, m, rfl, rfl, rfl, na, hq, hr, hl, rfl, S2, x2⟩
      have hbl := hb.items
      have hw0 : 1 ≤ w0 := by
        have e : (PyData.tuple ds).depth = PyData.depthAll ds + 1 := rfl
        have := hb.dp
        omega
      have hdl := hr.length
      have hlen : ds.length ≤ 100000 := Nat.le_trans PyData.wt_len (Nat.le_trans hb.wt hw)
      walk_at "rq"
      refine ⟨st, _, rfl, S2, by omega, by omega, fun v3 H3 a3 b3 S3 x3 => ?_⟩
      obtain ⟨j, rfl⟩ := Int.eq_ofNat_of_zero_le a3
      have hj : j < xs.length := by omega
      have hq3 := x3.tup hq (n1 na)
      have hr3 := hr.ext (x3.up hst)
      have x03 := x2.trans x3
      walk_at "rq"
      refine rd_ite2 (fun hc => ?_) (fun hc => ?_)
      · walk_at "rq"
        intro l4 H4 n4 s4 g4
        have S4 := S3.same s4
        have x04 : Ext [st] H H4 := x03.trans (Ext.same s4)
        walk_at "rq"
        refine rd_slG (s4.tupS hq3) ?_
        rw [cutV_take]
        intro q5 H5 hq5 s5 g5
        have S5 := S4.same s5
        have x05 := x04.trans (Ext.same s5)
        have nq5 : q5 ∉ N := by
          rcases hq5 with rfl | h
          · exact na
          · exact fr S4 x04 h
        walk_at "rq"
        refine rd_slG ((s4.trans s5).tupS hq3) ?_
        rw [show ((j : Nat) : Int) + 1 = ((j + 1 : Nat) : Int) by omega, cutV_drop]
        intro q6 H6 hq6 s6 g6
        have S6 := S5.same s6
        have x06 := x05.trans (Ext.same s6)
        have nq6 : q6 ∉ N := by
          rcases hq6 with rfl | h
          · exact na
          · exact fr S5 x05 h
        have ltk : (xs.take j).length ≤ 100000 := by rw [List.length_take]; omega
        have ldr : (xs.drop (j + 1)).length ≤ 100000 := by rw [List.length_drop]; omega
        have big : sizeLine = 16777216 := rfl
        refine rd_catG (s6.tupS g5) g6 (by omega) fun r7 H7 hr7 s7 g7 => ?_
        have S7 := S6.same s7
        have x07 := x06.trans (Ext.same s7)
        have nr7 : r7 ∉ N := by
          rcases hr7 with rfl | rfl | h
          · exact nq5
          · exact nq6
          · exact fr S6 x06 h
        walk_at "rq"
        refine ⟨sz (by simp), fun t8 H8 n8 m8 s8 g8 => ?_⟩
        have S8 := S7.same s8
        have x08 := x07.trans (Ext.same s8)
        have q8 := ((s4.trans s5).trans ((s6.trans s7).trans s8)).tupS hq3
        walk_at "rq"
        refine rd_catG q8 (SqT.of g8) (by rw [List.length_singleton]; omega) fun r9 H9 hr9 s9 g9 => ?_
        have S9 := S8.same s9
        have x09 := x08.trans (Ext.same s9)
        have nr9 : r9 ∉ N := by
          rcases hr9 with rfl | rfl | h
          · exact na
          · exact fr S7 x07 n8
          · exact fr S8 x08 h
        walk_at "rq"
        refine ⟨a, xs, rfl, ?_⟩
        walk_at "rq"
        refine ⟨rfl, s9.tupS q8, fun r10 H10 n10 s10 g10 => ?_⟩
        have S10 := S9.same s10
        have x010 := x09.trans (Ext.same s10)
        have nr10 := fr S9 x09 n10
        walk_at "rq"
        refine ⟨sz (by simp), fun l11 H11 n11 m11 s11 g11 => ?_⟩
        have S11 := S10.same s11
        have x011 := x010.trans (Ext.same s11)
        have nl11 := fr S10 x010 n11
        walk_at "rq"
        refine ⟨st, 4, rfl, S11, by decide, by decide, fun v12 H12 a12 b12 S12 x12 => ?_⟩
        have x712 : Ext [st] H7 H12 := (Ext.same (((s8.trans s9).trans s10).trans s11)).trans x12
        have x912 : Ext [st] H9 H12 := (Ext.same (s10.trans s11)).trans x12
        have x1012 : Ext [st] H10 H12 := (Ext.same s11).trans x12
        have x412 : Ext [st] H4 H12 := (Ext.same ((s5.trans s6).trans s7)).trans x712
        have x312 : Ext [st] H3 H12 := (Ext.same s4).trans x412
        have hr12 := hr3.ext (x312.up hst)
        have fin : ∀ (y : V) (e : PyData), Dt K N H12 y e → Mt.Big (w + 2100) (w0 - 1 + 1) e → Q y H12 := fun y e g1 g2 => k y e H12 g1 (g2.mono (by omega) (by omega)) ((S2.trans S11).trans S12) (x011.trans x12)
        obtain ⟨i, rfl⟩ := Int.eq_ofNat_of_zero_le a12
        have hi : i < 4 := by omega
        have e11 := x12 _ _ g11 (n1 nl11)
        match i, hi with
        | 0, _ => exact rd_ixL (SqL.of e11) rfl (fin _ _ (.lst (SqL.of (x412 _ _ g4 (n1 (fr S3 x03 n4)))) (fr S3 x03 n4) hr12) (hbl.lst.mono (by omega) (by omega)))
        | 1, _ => exact rd_ixL (SqL.of e11) rfl (fin _ _ (.tup (x712.tup g7 (n1 nr7)) nr7 ((hr12.take j).append (hr12.drop (j + 1)))) (hbl.out.tup.mono (by omega) (by omega)))
        | 2, _ => exact rd_ixL (SqL.of e11) rfl (fin _ _ (.tup (x912.tup g9 (n1 nr9)) nr9 (hr12.append (.cons (.int 0) .nil))) ((Mt.BigL.append (Mt.BigL.cons (w := 200) (v := 0) ((Mt.big_int (by decide)).mono (Nat.le_refl _) (Nat.zero_le _)) Mt.BigL.nil) hbl).tup.mono (by omega) (by omega)))
        | 3, _ => exact rd_ixL (SqL.of e11) rfl (fin _ _ (.tup (SqT.of (x1012 _ _ g10 (n1 nr10))) nr10 hr12.rev) (hbl.rev.tup.mono (by omega) (by omega)))
      · walk_at "rq"
        rw [cutV_take]
        intro q4 H4 hq4 s4 g4
        have S4 := S3.same s4
        have x04 : Ext [st] H H4 := x03.trans (Ext.same s4)
        have nq4 : q4 ∉ N := by
          rcases hq4 with rfl | h
          · exact na
          · exact fr S3 x03 h
        have hr4 := hr3.ext (Ext.same s4)
        obtain ⟨v, d', f1, f2, f3⟩ := hr4.at (i := j) (by omega)
        walk_at "rq"
        refine rd_ixT (s4.tupS hq3) (atI_nat f1) ?_
        walk_at "rq"
        have hat := hbl.at f2
        refine ⟨N, st, v, d', m, d'.weight, w0 - 1, (by rw [show ((m + 1 : Nat) : Int) - 1 = (m : Int) by omega]; rfl), by omega, S4, hst, tr S4 x04, f3, ⟨hat.sh, hat.lv, Nat.le_refl _, hat.dp⟩, Nat.le_trans hat.wt hw, Mt.lv_at hv f2, fun y e H5 g5 b5 S5 x5 => ?_⟩
        walk_at "rq"
        refine ⟨sz (by simp), fun t6 H6 n6 m6 s6 g6 => ?_⟩
        have x05 := x04.trans x5
        have S6 := S5.same s6
        have x06 := x05.trans (Ext.same s6)
        have x46 := x5.trans (Ext.same s6)
        have ltk : (xs.take j).length ≤ 100000 := by rw [List.length_take]; omega
        have ldr : (xs.drop (j + 1)).length ≤ 100000 := by rw [List.length_drop]; omega
        have big : sizeLine = 16777216 := rfl
        walk_at "rq"
        refine rd_catG (x46.tup g4 (n1 nq4)) (SqT.of g6) (by rw [List.length_singleton]; omega) fun r7 H7 hr7 s7 g7 => ?_
        have S7 := S6.same s7
        have nr7 : r7 ∉ N := by
          rcases hr7 with rfl | rfl | h
          · exact nq4
          · exact fr S5 x05 n6
          · exact fr S6 x06 h
        have x07 := x06.trans (Ext.same s7)
        have x47 := x46.trans (Ext.same s7)
        have hq7 := x47.tup (s4.tupS hq3) (n1 na)
        walk_at "rq"
        rw [show ((j : Nat) : Int) + 1 = ((j + 1 : Nat) : Int) by omega, cutV_drop]
        intro q8 H8 hq8 s8 g8
        have S8 := S7.same s8
        have nq8 : q8 ∉ N := by
          rcases hq8 with rfl | h
          · exact na
          · exact fr S7 x07 h
        have x08 := x07.trans (Ext.same s8)
        walk_at "rq"
        refine rd_catG (s8.tupS g7) g8 (by rw [List.length_append, List.length_singleton]; omega) fun r9 H9 hr9 s9 g9 => ?_
        have nr9 : r9 ∉ N := by
          rcases hr9 with rfl | rfl | h
          · exact nr7
          · exact nq8
          · exact fr S8 x08 h
        have x49 := (x47.trans (Ext.same s8)).trans (Ext.same s9)
        have dt : DtAll K N H9 (xs.take j ++ [y] ++ xs.drop (j + 1)) (ds.take j ++ e :: ds.drop (j + 1)) := by
          have := ((hr4.ext (x49.up hst)).take j).append (.cons (g5.ext (((Ext.same s6).trans (Ext.same s7)).trans ((Ext.same s8).trans (Ext.same s9)))) ((hr4.ext (x49.up hst)).drop (j + 1)))
          simpa using this
        obtain ⟨c1, c2⟩ := Mt.BigL.swap b5 (hbl.up (Nat.le_max_left _ (14 + m))) f2
        exact k (.ref r9) _ H9 (.tup g9 nr9 dt) (c2.tup.mono (by omega) (by omega)) ((S2.trans S4).trans (S8.same s9)) (((x03.trans (Ext.same s4)).trans x49))
    · intro hrest
      have num : ∀ (i : Int) (l : Addr) (H3 : Hp) (v3 : Int), (PyData.int i).leavesShort 50 = true → 0 ≤ v3 → v3 < 7 → H3 l = some (.lst [.int (i + 1), .int (i - 1), .bl (decide (V.int i = V.int 1)), .str (Str.ofString (toString i)), .int (10 ^ Int.toNat 6 + 1), .int (10 ^ Int.toNat 9 + 1), .int 8]) → StOkT K H H3 st → Ext [st] H H3 → rIxL K (.ref l) (.int v3) H3 Q := by
        intro i l H3 v3 hi h0 h1 g S3 x3
        have hi := Mt.int_short hi
        have fin : ∀ (y : V) (e : PyData), Dt K N H3 y e → Mt.Big 200 0 e → Q y H3 := fun y e g1 g2 => k y e H3 g1 (g2.mono (by omega) (by omega)) S3 x3
        obtain ⟨j, rfl⟩ := Int.eq_ofNat_of_zero_le h0
        have hj : j < 7 := by omega
        match j, hj with
        | 0, _ => exact rd_ixL (SqL.of g) rfl (fin _ _ (.int _) (Mt.big_int (by omega)))
        | 1, _ => exact rd_ixL (SqL.of g) rfl (fin _ _ (.int _) (Mt.big_int (by omega)))
        | 2, _ => exact rd_ixL (SqL.of g) rfl (fin _ _ (.bl _) ((Mt.itm_bool _).big.mono (by decide) (by decide)))
        | 3, _ => exact rd_ixL (SqL.of g) rfl (fin _ _ (.str _) (Mt.big_text (by omega)))
        | 4, _ => exact rd_ixL (SqL.of g) rfl (fin _ _ (.int _) (Mt.big_int (by decide +kernel)))
        | 5, _ => exact rd_ixL (SqL.of g) rfl (fin _ _ (.int _) (Mt.big_int (by decide +kernel)))
        | 6, _ => exact rd_ixL (SqL.of g) rfl (fin _ _ (.int _) (Mt.big_int (by decide +kernel)))
      walk_at "rs"
      refine rd_ite2 (fun hc0 => ?_) (fun hc0 => ?_)
      · refine rd_iteT ?_
        walk_at "rq"
        refine ⟨N, x, d, rfl, hd1, ?_⟩
        cases hw1 : Mt.numD d with
        | false =>
          refine rd_bl' ?_
          refine rd_iteF ?_
          walk_at "rq"
          exact ⟨N, st, rfl, S1, hst, tr S1 x1, fun y e H' g1 g2 g3 g4 => odd S1 x1 y e H' g1 g2 g3 g4⟩
        | true =>
          obtain ⟨i, rfl⟩ := Mt.numD_int hw1
          obtain rfl := dt_int hd1
          refine rd_bl' ?_
          refine rd_iteT ?_
          walk_at "rq"
          refine rd_ite2 (fun hc1 => ?_) (fun hc1 => ?_)
          · walk_at "rq"
            refine rd_str (Mt.log_short (Mt.int_short hv)) ?_
            walk_at "rq"
            refine ⟨sz (by simp), fun l2 H2 n2 m2 s2 g2 => ?_⟩
            have S2 := S1.same s2
            have x2 := x1.trans (Ext.same s2)
            walk_at "rq"
            refine ⟨st, 7, rfl, S2, by decide, by decide, fun v3 H3 a3 b3 S3 x3 => ?_⟩
            exact num i l2 H3 v3 hv a3 b3 (x3 _ _ g2 (n1 (fr S1 x1 n2))) (S2.trans S3) (x2.trans x3)
          · walk_at "rq"
            exact ⟨N, st, rfl, S1, hst, tr S1 x1, fun y e H' g1 g2 g3 g4 => odd S1 x1 y e H' g1 g2 g3 g4⟩
      · walk_at "rq"
        refine rd_ite2 (fun hw0 => ?_) (fun hw0 => ?_)
        · have hv0 : v1 = 0 := by simpa using of_decide_eq_true hw0
          subst hv0
          refine rd_iteT ?_
          walk_at "rq"
          refine ⟨N, x, d, rfl, hd1, ?_⟩
          cases hw1 : Mt.numD d with
          | false =>
            refine rd_bl' ?_
            refine rd_iteF ?_
            walk_at "rq"
            exact ⟨N, st, rfl, S1, hst, tr S1 x1, fun y e H' g1 g2 g3 g4 => odd S1 x1 y e H' g1 g2 g3 g4⟩
          | true =>
            refine rd_bl' ?_
            refine rd_iteT ?_
            walk_at "rq"
            exact ⟨N, st, rfl, S1, hst, tr S1 x1, fun y e H' g1 g2 g3 g4 => odd S1 x1 y e H' g1 g2 g3 g4⟩
        · walk_at "rq"
          cases ht : isTupD d with
          | false =>
            refine rd_iteT ?_
            walk_at "rq"
            refine ⟨N, x, d, rfl, hd1, ?_⟩
            cases hw1 : Mt.numD d with
            | false =>
              refine rd_bl' ?_
              refine rd_iteF ?_
              walk_at "rq"
              exact ⟨N, st, rfl, S1, hst, tr S1 x1, fun y e H' g1 g2 g3 g4 => odd S1 x1 y e H' g1 g2 g3 g4⟩
            | true =>
              obtain ⟨i, rfl⟩ := Mt.numD_int hw1
              obtain rfl := dt_int hd1
              refine rd_bl' ?_
              refine rd_iteT ?_
              walk_at "rq"
              refine rd_ite2 (fun hc1 => ?_) (fun hc1 => ?_)
              · walk_at "rq"
                refine rd_str (Mt.log_short (Mt.int_short hv)) ?_
                walk_at "rq"
                refine ⟨sz (by simp), fun l2 H2 n2 m2 s2 g2 => ?_⟩
                have S2 := S1.same s2
                have x2 := x1.trans (Ext.same s2)
                walk_at "rq"
                refine ⟨st, 7, rfl, S2, by decide, by decide, fun v3 H3 a3 b3 S3 x3 => ?_⟩
                exact num i l2 H3 v3 hv a3 b3 (x3 _ _ g2 (n1 (fr S1 x1 n2))) (S2.trans S3) (x2.trans x3)
              · walk_at "rq"
                exact ⟨N, st, rfl, S1, hst, tr S1 x1, fun y e H' g1 g2 g3 g4 => odd S1 x1 y e H' g1 g2 g3 g4⟩
          | true =>
            obtain ⟨ds, rfl⟩ := Mt.tup_of ht
            obtain ⟨a, xs, rfl, na, hq, hr⟩ := dt_tupN hd1
            walk_at "rq"
            refine rd_ite2 (fun hl0 => ?_) (fun hl0 => ?_)
            · walk_at "rq"
              refine ⟨N, .ref a, .tuple ds, rfl, hd1, ?_⟩
              refine rd_bl' ?_
              refine rd_iteF ?_
              walk_at "rq"
              exact ⟨N, st, rfl, S1, hst, tr S1 x1, fun y e H' g1 g2 g3 g4 => odd S1 x1 y e H' g1 g2 g3 g4⟩
            · have hn0 : n ≠ 0 := by
                intro z
                subst z
                simp at hc0
              obtain ⟨m', rfl⟩ := Nat.exists_eq_succ_of_ne_zero hn0
              have hl1 : 0 < xs.length := by
                have : ¬ ((xs.length : Int) = 0) := fun z => by rw [z] at hl0; simp at hl0
                omega
              exact hrest _ _ ⟨a, xs, ds, m', rfl, rfl, rfl, na, hq, hr, hl1, rfl, S1, x1⟩

theorem rec_law_bent (T : Txt P K mg a) (G__law_next : FnOk P w K mg base CX0 1 a.f_law_next a.d_law_next ["_law_state_here", "_law_below"] (sp_law_next K)) (G__law_odd : FnOk P w K mg base CX0 2 a.f_law_odd a.d_law_odd ["_law_state_here"] (sp_law_odd K)) (G__law_whole : FnOk P w K mg base CX0 1 a.f_law_whole a.d_law_whole ["_law_found"] (sp_law_whole K)) : ∀ m, FnOk P w K mg base CX0 (2 + m) a.f_law_bent a.d_law_bent ["_law_state_here", "_law_thing", "_law_depth"] (spr_law_bent K m)
  | 0 => ⟨fun vs H Q E h => absurd h (spr_law_bent_zero), fun A outer s H args us vs Q E _ _ _ _ h => absurd h (spr_law_bent_zero)⟩
  | m + 1 => okr_law_bent T (Nat.le_add_right _ _) (rec_law_bent T G__law_next G__law_odd G__law_whole m) G__law_next G__law_odd G__law_whole
theorem ok_law_bent (T : Txt P K mg a) (G__law_next : FnOk P w K mg base CX0 1 a.f_law_next a.d_law_next ["_law_state_here", "_law_below"] (sp_law_next K)) (G__law_odd : FnOk P w K mg base CX0 2 a.f_law_odd a.d_law_odd ["_law_state_here"] (sp_law_odd K)) (G__law_whole : FnOk P w K mg base CX0 1 a.f_law_whole a.d_law_whole ["_law_found"] (sp_law_whole K)) : FnOk P w K mg base CX0 7 a.f_law_bent a.d_law_bent ["_law_state_here", "_law_thing", "_law_depth"] (sp_law_bent K) := rec_law_bent T G__law_next G__law_odd G__law_whole 5
noncomputable def sp_law_applied_fits (K : PySem.W.Frag) : Sp := fun vs H Q _ => ∃ (N : List Addr) (x : V) (ds : List PyData), vs = [x] ∧ Dt K N H x (.tuple ds) ∧ ∀ b : Bool, Q (.bl b) H
theorem ok_law_applied_fits (T : Txt P K mg a) (G__law_whole : FnOk P w K mg base CX0 1 a.f_law_whole a.d_law_whole ["_law_found"] (sp_law_whole K)) : FnOk P w K mg base CX0 2 a.f_law_applied_fits a.d_law_applied_fits ["_law_thing"] (sp_law_applied_fits K) := by
  refine T.F_law_applied_fits.ok sc_law_applied_fits (fun vs H Q E h => ?_) (fun cdv A outer s H vs Q E hr h => ?_)
  · obtain ⟨N, x, ds, rfl, _⟩ := h; rfl
  · obtain ⟨N, x, ds, rfl, hd, k⟩ := h
    refine exW ⟨_, (qss_cons (qs_if (pw_or (pt_cmpR op_lt (qe_callB cn_len (by rfl) T.b_len (by decide +kernel) (qa (pv 0 (by rfl) (by walk_at "vis") (by decide) (by decide)) qa_nil (by rfl)) (by decide) (by decide) (by rfl) (by rfl)) pe_int (nomark _)) (pw_or (pt_not (pt_val (qe_call G__law_whole (hr.mono (by decide)) (by rfl) T.m__law_whole T.k__law_whole T.bd__law_whole .nil pass0 (qa (pe_ix ix_tup (pv 0 (by rfl) (by walk_at "vis") (by decide) (by decide)) pe_int (fun _ _ => rfl)) qa_nil (by rfl)) (by decide) (by rfl) (by rfl)) (by intro _; rfl))) (pw_or1 (pt_not (pt_val (qe_call G__law_whole (hr.mono (by decide)) (by rfl) T.m__law_whole T.k__law_whole T.bd__law_whole .nil pass0 (qa (pe_ix ix_tup (pv 0 (by rfl) (by walk_at "vis") (by decide) (by decide)) pe_int (fun _ _ => rfl)) qa_nil (by rfl)) (by decide) (by rfl) (by rfl)) (by intro _; rfl)))))).pt
        (qss_one (qs_ret pe_bl))
        qss_nil)
      (qss_one (qs_ret (pe_cmpR op_le (pe_ix ix_tup (pv 0 (by rfl) (by walk_at "vis") (by decide) (by decide)) pe_int (fun _ _ => rfl)) (pe_ix ix_tup (pv 0 (by rfl) (by walk_at "vis") (by decide) (by decide)) pe_int (fun _ _ => rfl)) (nomark _))))), ?_⟩
    try dsimp only [cxOf]
    obtain ⟨b, ys, rfl, q, r⟩ := dt_tuple hd
    have ly := r.length
    walk_at "rq"
    by_cases h7 : ys.length < 7
    · rw [show decide ((ys.length : Int) < 7) = true from decide_eq_true (by omega)]
      refine rd_iteT ?_
      walk_at "rq"
      exact k _
    · rw [show decide ((ys.length : Int) < 7) = false from decide_eq_false (by omega)]
      refine rd_iteF ?_
      obtain ⟨v5, d5, f5, g5, r5⟩ := r.at (i := 5) (by omega)
      obtain ⟨v6, d6, f6, g6, r6⟩ := r.at (i := 6) (by omega)
      walk_at "rq"
      refine rd_ixT q (atI_nat (j := 5) f5) ?_
      walk_at "rq"
      refine ⟨N, v5, d5, rfl, r5, ?_⟩
      cases h5 : Mt.numD d5 with
      | false =>
        refine rd_bl' ?_
        refine rd_iteT ?_
        walk_at "rq"
        exact k _
      | true =>
        refine rd_bl' ?_
        refine rd_iteF ?_
        walk_at "rq"
        refine rd_ixT q (atI_nat (j := 6) f6) ?_
        walk_at "rq"
        refine ⟨N, v6, d6, rfl, r6, ?_⟩
        cases h6 : Mt.numD d6 with
        | false =>
          refine rd_bl' ?_
          refine rd_iteT ?_
          walk_at "rq"
          exact k _
        | true =>
          refine rd_bl' ?_
          refine rd_iteF ?_
          obtain ⟨i5, rfl⟩ := Mt.numD_int h5
          obtain ⟨i6, rfl⟩ := Mt.numD_int h6
          obtain rfl := dt_int r5
          obtain rfl := dt_int r6
          walk_at "rq"
          refine rd_ixT q (atI_nat (j := 6) f6) ?_
          walk_at "rq"
          refine rd_ixT q (atI_nat (j := 5) f5) ?_
          walk_at "rq"
          exact k _

noncomputable def sp_law (K : PySem.W.Frag) : Sp := fun vs H Q _ => ∃ (p : Addr) (ns : List Int), vs = [.ref p] ∧ SqL K H p (ns.map V.int) ∧ ns.length ≤ 63 ∧ ∀ H', Q (.bl true) H'
theorem ok_law (T : Txt P K mg a) (G__law_applied_fits : FnOk P w K mg base CX0 2 a.f_law_applied_fits a.d_law_applied_fits ["_law_thing"] (sp_law_applied_fits K)) (G__law_bent : FnOk P w K mg base CX0 7 a.f_law_bent a.d_law_bent ["_law_state_here", "_law_thing", "_law_depth"] (sp_law_bent K)) (G__law_is_letter : FnOk P w K mg base CX0 4 a.f_law_is_letter a.d_law_is_letter ["_law_thing"] (sp_law_is_letter K)) (G__law_letter : FnOk P w K mg base CX0 4 a.f_law_letter a.d_law_letter ["_law_state_here"] (sp_law_letter K)) (G__law_odd : FnOk P w K mg base CX0 2 a.f_law_odd a.d_law_odd ["_law_state_here"] (sp_law_odd K)) (G__law_says : FnOk P w K mg base CX0 1 a.f_law_says a.d_law_says ["_law_found", "_law_due"] (sp_law_says K)) (G__law_state : FnOk P w K mg base CX0 1 a.f_law_state a.d_law_state ["_law_script", "_law_seed"] (sp_law_state K)) (G__law_whole : FnOk P w K mg base CX0 1 a.f_law_whole a.d_law_whole ["_law_found"] (sp_law_whole K)) (G_is_letter : FnOk P w K mg base CX0 7 a.f_is_letter a.d_is_letter ["thing"] (sp_is_letter K)) : FnOk P w K mg base CX0 8 a.f_law a.d_law ["_law_script"] (sp_law K) := by
  refine T.F_law.ok sc_law (fun vs H Q E h => ?_) (fun cdv A outer s H vs Q E hr h => ?_)
  · obtain ⟨p, ns, rfl, _⟩ := h; rfl
  · obtain ⟨p, ns, rfl, hq, hl, k⟩ := h
    refine exW ⟨_, (qss_cons (qs_set (i := 1) sc_law.nd rfl (Or.inr rfl) (qe_call G__law_state (hr.mono (by decide)) (by rfl) T.m__law_state T.k__law_state T.bd__law_state .nil pass0 (qa (pv 0 (by rfl) (by walk_at "vis") (by decide) (by decide)) (qa pe_int qa_nil (by rfl)) (by rfl)) (by decide) (by rfl) (by rfl)) (by rfl) (by first | exact Or.inl rfl | exact Or.inr rfl))
      (qss_cons (qs_if (pw_or (pt_not (pt_val (qe_call G__law_whole (hr.mono (by decide)) (by rfl) T.m__law_whole T.k__law_whole T.bd__law_whole .nil pass0 (qa (pe_glob (by rfl) T.c_LETTERS.1 T.c_LETTERS.2 (by decide)) qa_nil (by rfl)) (by decide) (by rfl) (by rfl)) (by intro _; rfl))) (pw_or1 (pt_cmpR op_ne (pe_glob (by rfl) T.c_LETTERS.1 T.c_LETTERS.2 (by decide)) pe_int (nomark _)))).pt
        (qss_one (qs_ret pe_bl))
        qss_nil)
      (qss_cons (qs_for PassesOwn.never rfl (qi_range1 (by rfl) T.b_range (qa pe_int qa_nil (by rfl)) (by rfl)) (pg_name (i := 2) sc_law.nd rfl (Or.inl rfl) (by first | exact Or.inl rfl | exact Or.inr rfl))
        (qss_cons (qs_set (i := 3) sc_law.nd rfl (Or.inr rfl) (qe_call G__law_letter (hr.mono (by decide)) (by rfl) T.m__law_letter T.k__law_letter T.bd__law_letter .nil pass0 (qa (pv 1 (by rfl) (by walk_at "vis") (by decide) (by decide)) qa_nil (by rfl)) (by decide) (by rfl) (by rfl)) (by rfl) (by first | exact Or.inl rfl | exact Or.inr rfl))
        (qss_one (qs_for PassesOwn.never rfl (pi_list (pe_op op_catA (pe_op op_catA (qe_lstA (qa (pv 3 (by rfl) (by walk_at "vis") (by decide) (by decide)) qa_nil (by rfl))) (by
        refine' pe_comp (NC := ["_law_k", "_law_state_here", "_law_letter_here"]) (fr := [none, some 1, some 3]) ?B12 rfl ?hi12 ?hg12 ?ht12 ?he12 (by intro _; rfl)
        case B12 => exact ⟨rfl, rfl, by decide +kernel, by decide +kernel, rfl, ⟨trivial, ⟨rfl, rfl, Or.inl rfl⟩, ⟨rfl, rfl, Or.inl rfl⟩, trivial⟩⟩
        case hi12 => exact (qi_range1 (by rfl) T.b_range (qa pe_int qa_nil (by rfl)) (by rfl))
        case hg12 => intro _ _ _; exact (pg_name (i := 0) (show (["_law_k", "_law_state_here", "_law_letter_here"] : List Str).Nodup by decide +kernel) rfl (Or.inl rfl) (by first | exact Or.inl rfl | exact Or.inr rfl))
        case ht12 => intro _ _ _; exact pf_nil
        case he12 => intro _ _ _; exact (qe_call G__law_bent (hr.mono (by decide)) (by rfl) T.m__law_bent T.k__law_bent T.bd__law_bent .nil pass0 (qa (pv 1 (by rfl) (by walk_at "vis") (by decide) (by decide)) (qa (pv 2 (by rfl) (by walk_at "vis") (by decide) (by decide)) (qa pe_int qa_nil (by rfl)) (by rfl)) (by rfl)) (by decide) (by rfl) (by rfl)))) (qe_lstA (qa (qe_call G__law_odd (hr.mono (by decide)) (by rfl) T.m__law_odd T.k__law_odd T.bd__law_odd .nil pass0 (qa (pv 1 (by rfl) (by walk_at "vis") (by decide) (by decide)) qa_nil (by rfl)) (by decide) (by rfl) (by rfl)) qa_nil (by rfl))))) (pg_name (i := 4) sc_law.nd rfl (Or.inl rfl) (by first | exact Or.inl rfl | exact Or.inr rfl))
          (qss_cons (qs_set (i := 5) sc_law.nd rfl (Or.inl rfl) (qe_callB (cn_reprS hr T.sysK) (by rfl) T.b_repr (by decide +kernel) (qa (pv 4 (by rfl) (by walk_at "vis") (by decide) (by decide)) qa_nil (by rfl)) (by decide) (by decide) (by rfl) (by rfl)) (by rfl) (by first | exact Or.inl rfl | exact Or.inr rfl))
          (qss_one (qs_if (pw_or (pt_cmpR (on_eqX hr) (pv 4 (by rfl) (by walk_at "vis") (by decide) (by decide)) (pv 3 (by rfl) (by walk_at "vis") (by decide) (by decide)) (nomark _)) (pw_or (pt_not (pt_val (qe_callB cn_isi (by rfl) T.b_isinstance (by decide +kernel) (qa (pv 4 (by rfl) (by walk_at "vis") (by decide) (by decide)) (qa (pe_bltn (by rfl) T.b_tuple (by decide +kernel) (v := .ty "tuple") rfl (by decide) (by decide)) qa_nil (by rfl)) (by rfl)) (by decide) (by decide) (by rfl) (by rfl)) (by intro _; rfl))) (pw_or1 (pt_cmpR (on_neX hr) (pe_slice sl_tupG (pv 4 (by rfl) (by walk_at "vis") (by decide) (by decide)) po_none (po_some pe_int)) (qe_tupA (qa pe_str qa_nil (by rfl))) (nomark _))))).pt
            (qss_one (qs_if (pw_or (pt_not (pt_val (qe_call G__law_says (hr.mono (by decide)) (by rfl) T.m__law_says T.k__law_says T.bd__law_says .nil pass0 (qa (qe_call G_is_letter (hr.mono (by decide)) (by rfl) T.m_is_letter T.k_is_letter T.bd_is_letter .nil pass0 (qa (pv 4 (by rfl) (by walk_at "vis") (by decide) (by decide)) qa_nil (by rfl)) (by decide) (by rfl) (by rfl)) (qa (qe_call G__law_is_letter (hr.mono (by decide)) (by rfl) T.m__law_is_letter T.k__law_is_letter T.bd__law_is_letter .nil pass0 (qa (pv 4 (by rfl) (by walk_at "vis") (by decide) (by decide)) qa_nil (by rfl)) (by decide) (by rfl) (by rfl)) qa_nil (by rfl)) (by rfl)) (by decide) (by rfl) (by rfl)) (by intro _; rfl))) (pw_or1 (pt_cmpR op_ne (qe_callB (cn_reprS hr T.sysK) (by rfl) T.b_repr (by decide +kernel) (qa (pv 4 (by rfl) (by walk_at "vis") (by decide) (by decide)) qa_nil (by rfl)) (by decide) (by decide) (by rfl) (by rfl)) (pv 5 (by rfl) (by walk_at "vis") (by decide) (by decide)) (nomark _)))).pt
              (qss_one (qs_ret pe_bl))
              qss_nil))
            (qss_one (qs_if (pw_and (pt_val (qe_call G__law_applied_fits (hr.mono (by decide)) (by rfl) T.m__law_applied_fits T.k__law_applied_fits T.bd__law_applied_fits .nil pass0 (qa (pv 4 (by rfl) (by walk_at "vis") (by decide) (by decide)) qa_nil (by rfl)) (by decide) (by rfl) (by rfl)) (by intro _; rfl)) (pw_and1 (pt_not (pt_val (qe_call G__law_says (hr.mono (by decide)) (by rfl) T.m__law_says T.k__law_says T.bd__law_says .nil pass0 (qa (qe_call G_is_letter (hr.mono (by decide)) (by rfl) T.m_is_letter T.k_is_letter T.bd_is_letter .nil pass0 (qa (pv 4 (by rfl) (by walk_at "vis") (by decide) (by decide)) qa_nil (by rfl)) (by decide) (by rfl) (by rfl)) (qa (qe_call G__law_is_letter (hr.mono (by decide)) (by rfl) T.m__law_is_letter T.k__law_is_letter T.bd__law_is_letter .nil pass0 (qa (pv 4 (by rfl) (by walk_at "vis") (by decide) (by decide)) qa_nil (by rfl)) (by decide) (by rfl) (by rfl)) qa_nil (by rfl)) (by rfl)) (by decide) (by rfl) (by rfl)) (by intro _; rfl))))).pt
              (qss_one (qs_ret pe_bl))
              qss_nil))))) (by intro _; rfl)))) (by intro _; rfl))
      (qss_one (qs_ret pe_bl))))), ?_⟩
    try dsimp only [cxOf]
    walk_at "rq"
    refine ⟨p, ns, 46, rfl, by decide, by decide, hq, hl, fun st H1 S1 s1 n1 => ?_⟩
    walk_at "rq"
    refine ⟨[st], .int 2000, .int 2000, rfl, .int _, ?_⟩
    walk_at "rq"
    refine ⟨by decide, by decide, ?_⟩
    refine for_rangeW (fun i σ' H' => ∃ o2 o3 o4 o5 : Option V, σ' = [some (.ref p), some (.ref st), o2, o3, o4, o5] ∧ StOk K H' st) ?_ ?_ ?_
    · exact ⟨none, none, none, none, rfl, S1⟩
    · rintro i σ' H2 hi ⟨o2, o3, o4, o5, rfl, S2⟩
      walk_at "rq"
      refine ⟨st, rfl, S2, fun t xs ds H3 g3 nt dt it dl S3 x3 => ?_⟩
      walk_at "rq"
      refine ⟨sz (by simp), fun l4 H4 n4 s4 g4 => ?_⟩
      have S4 := S3.same s4
      have dl4 := S3.ne n4
      have nt : t ≠ st := by simpa using nt
      have hT4 : Dt K [st] H4 (.ref t) (.tuple ds) := .tup (s4.tupS g3) (by simpa using nt) (dt.ext (Ext.same s4))
      have hb : Mt.BigL 63009 4 ds := (Mt.itms_big it).mono (by have := Nat.mul_le_mul_right 7001 dl; omega) (Nat.le_refl _)
      have hcl : PyData.canLayAll0 ds = true := Mt.all_nodict it
      have hlv : (PyData.tuple ds).leavesShort 50 = true := Mt.all_leaves it
      obtain ⟨c, a0, e0, nc, hc⟩ := S4.cell
      walk_at "rq"
      refine ⟨by decide, by decide, ?_⟩
      intro acc hacc nka
      have na : acc ≠ st := S4.ne hacc
      have nac : acc ≠ c := fun z => hc (by rw [← z]; exact hacc)
      refine comp_by 8 (by decide) (fun i vs σc H' => ∃ (o : Option V) (a : List V), σc = [o, some (.ref st), some (.ref t)] ∧ StOk K H' st ∧ H' st = some (.lst (.ref c :: a)) ∧ Ext [st] H4 H' ∧ ∀ v ∈ vs, ∃ d, Dt K [acc, st] H' v d ∧ Mt.Big 75000 18 d) ?_ ?_ ?_
      · exact ⟨none, a0, rfl, S4.same (Same.upd hacc), (by rw [upd_ne (Ne.symm na)]; exact e0), Ext.new hacc, by simp⟩
      · rintro i vs σc H' hi hl ha ⟨o, a, rfl, S', e', x', dd⟩
        refine ⟨hi, ?_⟩
        rintro x H2 ⟨hH6, rfl⟩ R hR
        subst hH6
        walk_at "rq"
        have x'' : Ext [acc, st] H4 H2 := x'.up (by simp)
        refine ⟨[acc, st], st, .ref t, .tuple ds, 4, 63009, 5, rfl, by decide, S', by simp, ?_, (hT4.fresh hacc nka).ext x'', hb.tup, by decide, hlv, fun y e H3 g1 g2 g3 g4 => ?_⟩
        · intro b hb
          simp only [List.mem_cons, List.not_mem_nil, or_false] at hb
          rcases hb with rfl | rfl
          · rw [ha]; simp
          · rw [e']; simp
        obtain ⟨b, eb⟩ := g3.keep c a e'
        have up : Ext [acc, st] H2 (upd H3 acc (.lst (vs ++ [y]))) := fun b u e n => by
          simp only [List.mem_cons, List.not_mem_nil, or_false, not_or] at n
          rw [upd_ne n.1]; exact g4 _ _ e (by simpa using n.2)
        refine hR _ _ _ (g4 _ _ ha (by simpa using na)) ⟨_, b, rfl, g3.toStOk.accC eb nac na, (by rw [upd_ne (Ne.symm na)]; exact eb), ?_, ?_⟩
        · intro b u e n
          rw [upd_ne (ne_of_none e hacc)]
          exact g4 _ _ (x' _ _ e n) n
        · intro v hv
          rcases List.mem_append.mp hv with hv | hv
          · obtain ⟨d, h1, h2⟩ := dd v hv
            exact ⟨d, h1.ext up, h2⟩
          · have hv : v = y := by simpa using hv
            subst hv
            exact ⟨e, g1.ext (Ext.at (by simp)), g2.mono (by decide) (by decide)⟩
      · rintro vs σc H' hl ha ⟨o, a, rfl, S', e', x', dd⟩
        refine ⟨Nat.le_refl _, ?_⟩
        walk_at "rq"
        refine rd_catA (x' _ _ g4 (by simpa using dl4)) ha (sz (by simp; omega)) fun l5 H5 n5 s5 g5 => ?_
        have S5 := S'.same s5
        have dl5 := S'.ne n5
        walk_at "rq"
        refine ⟨[st], st, rfl, S5, by simp, (fun b hb => by
          have : b = st := by simpa using hb
          subst this
          obtain ⟨xs, e⟩ := S5.at
          rw [e]; simp), fun y dy H6 q6 b6 S6 x6 => ?_⟩
        walk_at "rq"
        refine ⟨sz (by simp), fun l7 H7 n7 s7 g7 => ?_⟩
        walk_at "rq"
        refine rd_catA ((x6.trans (Ext.same s7)) _ _ g5 (by simpa using dl5)) g7 (sz (by simp; omega)) fun l8 H8 n8 s8 g8 => ?_
        have S8 : StOk K H8 st := (S6.same s7).same s8
        have x68 : Ext [st] H6 H8 := (Ext.same s7).trans (Ext.same s8)
        have x58 : Ext [st] H5 H8 := x6.trans x68
        have hT8 : Dt K [st] H8 (.ref t) (.tuple ds) := hT4.ext (x'.trans ((Ext.same s5).trans x58))
        have all : ∀ v ∈ [V.ref t] ++ vs ++ [y], ∃ d, Dt K [st] H8 v d ∧ Mt.Big 75000 18 d := by
          intro v hv
          rcases List.mem_append.mp hv with hv | hv
          · rcases List.mem_append.mp hv with hv | hv
            · have hv : v = .ref t := by simpa using hv
              subst hv
              exact ⟨_, hT8, hb.tup.mono (by decide) (by decide)⟩
            · obtain ⟨d, h1, h2⟩ := dd v hv
              exact ⟨d, (h1.sub (N' := [st]) (by simp)).ext ((Ext.same s5).trans x58), h2⟩
          · have hv : v = y := by simpa using hv
            subst hv
            exact ⟨dy, q6.ext x68, b6.mono (by decide) (by decide)⟩
        walk_at "rq"
        refine ⟨l8, rfl, ⟨_, SqL.of g8⟩, ?_⟩
        refine for_listW (xs := [V.ref t] ++ vs ++ [y]) (fun i' σ' H' => ∃ o4 o5 : Option V, σ' = [some (.ref p), some (.ref st), some (.int (0 + i)), some (.ref t), o4, o5] ∧ Same H8 H') ?_ ?_ ?_ ?_
        · exact ⟨_, _, rfl, Same.refl _⟩
        · rintro i' σ' H' _ ⟨o4, o5, rfl, s9⟩
          exact SqL.of (s9 _ _ g8)
        · rintro i' v σ' H9 hv ⟨o4, o5, rfl, s9⟩
          obtain ⟨d, hd8, bd⟩ := all v (List.mem_of_getElem? hv)
          have hd9 := hd8.ext (Ext.same s9)
          have wd : d.weight ≤ 1000000 := Nat.le_trans bd.wt (by decide)
          walk_at "rq"
          refine rd_reprS hd9 bd.sh (Nat.le_trans bd.dp (by decide)) (bd.ln (by decide)) ?_
          repeat (first | with_reducible refine rd_name ?_ | with_reducible refine rd_next ?_ | dsimp only)
          refine rd_ifJ (Same H9) (fun Ha => Same H9 Ha ∧ ∃ es, d = .tuple es) (fun Ha sa => ?_) (fun Ha sa => ?_) (fun st1 st2 => ?_)
          · walk_at "rq"
            have hda := hd9.ext (Ext.same sa)
            refine ⟨[st], v, d, rfl, hda, wd, fun Hb sb => ?_⟩
            walk_at "rq"
            have hdb := hda.ext (Ext.same sb)
            refine ⟨[st], v, d, rfl, hdb, wd, fun Hc sc => ?_⟩
            walk_at "rq"
            have hdc := hdb.ext (Ext.same sc)
            refine ⟨_, _, rfl, ?_⟩
            rw [decide_eq_true rfl]
            refine rd_bl' ?_
            walk_at "rq"
            refine rd_reprS hdc bd.sh (Nat.le_trans bd.dp (by decide)) (bd.ln (by decide)) ?_
            walk_at "rq"
            rw [decide_eq_true rfl]
            refine rd_iteF ?_
            exact ⟨_, _, rfl, s9.trans (sa.trans (sb.trans sc))⟩
          · obtain ⟨sa, es, rfl⟩ := sa
            walk_at "rq"
            have hda := hd9.ext (Ext.same sa)
            refine ⟨[st], v, es, rfl, hda, fun b => ?_⟩
            refine rd_bl' ?_
            cases b with
            | false =>
              refine rd_iteF ?_
              refine rd_iteF ?_
              exact ⟨_, _, rfl, s9.trans sa⟩
            | true =>
              refine rd_iteT ?_
              walk_at "rq"
              refine ⟨[st], v, _, rfl, hda, wd, fun Hb sb => ?_⟩
              walk_at "rq"
              have hdb := hda.ext (Ext.same sb)
              refine ⟨[st], v, _, rfl, hdb, wd, fun Hc sc => ?_⟩
              walk_at "rq"
              refine ⟨_, _, rfl, ?_⟩
              rw [decide_eq_true rfl]
              refine rd_bl' ?_
              walk_at "rq"
              exact ⟨_, _, rfl, s9.trans (sa.trans (sb.trans sc))⟩
          · refine rd_or ?_
            walk_at "rq"
            refine rd_eqX hd9 (hT8.ext (Ext.same s9)) hcl (Nat.le_trans bd.dp (by decide)) fun b => ?_
            refine ⟨b, rfl, ?_⟩
            cases b with
            | true =>
              refine rd_iteT ?_
              refine rd_iteT ?_
              exact st1 _ (Same.refl _)
            | false =>
              refine rd_iteF ?_
              walk_at "rq"
              cases ht : isTupD d with
              | false =>
                refine rd_iteT ?_
                refine rd_iteT ?_
                exact st1 _ (Same.refl _)
              | true =>
                obtain ⟨es, rfl⟩ := Mt.tup_of ht
                obtain ⟨a, xs, rfl, na', hqa, hra⟩ := dt_tupN hd9
                refine rd_iteF ?_
                walk_at "rq"
                intro q Ha hq' sa ga
                have nq : q ∉ [st] := by
                  rcases hq' with rfl | h
                  · exact na'
                  · simpa using (S8.same s9).ne h
                walk_at "rq"
                refine ⟨sz (by simp), fun tw Hb nw sb gb => ?_⟩
                walk_at "rq"
                refine rd_neX (N := [st]) (M := []) (xs := cutD es none (some 1)) (ys := [.str "want"]) (.tup (sb.tupS ga) nq ((hra.cut none (some 1)).ext (Ext.same (sa.trans sb)))) (.tup (SqT.of gb) (by simp) (.cons (.str _) .nil)) (by decide +kernel) (Nat.le_trans bd.items.cut.tup.dp (by decide)) fun b2 => ?_
                refine ⟨b2, rfl, ?_⟩
                cases b2 with
                | true =>
                  refine rd_iteT ?_
                  exact st1 _ (sa.trans sb)
                | false =>
                  refine rd_iteF ?_
                  exact st2 _ ⟨sa.trans sb, _, rfl⟩
        · rintro σ' H' ⟨o4, o5, rfl, s9⟩
          exact ⟨_, _, _, _, rfl, S8.same s9⟩
    · rintro σ' H2 ⟨o2, o3, o4, o5, rfl, S2⟩
      walk_at "rq"
      exact k _

end
theorem txt_mk {P : Program} {K : PySem.W.Frag} {h : Heap} {mg : Str → Option Value} (X : K.In h) (G : h.Ns mainGlobals mg)
    {f_is_number : Addr} {od_is_number an_is_number : Option Addr} {sl_is_number : Array (Option Value)} {oc_is_number kV_is_number dc_is_number pm_is_number cd_is_number ct_is_number : Value}
    {f_is_within : Addr} {od_is_within an_is_within : Option Addr} {sl_is_within : Array (Option Value)} {oc_is_within kV_is_within dc_is_within pm_is_within cd_is_within ct_is_within : Value}
    {f_is_place : Addr} {od_is_place an_is_place : Option Addr} {sl_is_place : Array (Option Value)} {oc_is_place kV_is_place dc_is_place pm_is_place cd_is_place ct_is_place : Value}
    {f_is_line : Addr} {od_is_line an_is_line : Option Addr} {sl_is_line : Array (Option Value)} {oc_is_line kV_is_line dc_is_line pm_is_line cd_is_line ct_is_line : Value}
    {f_is_line_and_place : Addr} {od_is_line_and_place an_is_line_and_place : Option Addr} {sl_is_line_and_place : Array (Option Value)} {oc_is_line_and_place kV_is_line_and_place dc_is_line_and_place pm_is_line_and_place cd_is_line_and_place ct_is_line_and_place : Value}
    {f_is_history : Addr} {od_is_history an_is_history : Option Addr} {sl_is_history : Array (Option Value)} {oc_is_history kV_is_history dc_is_history pm_is_history cd_is_history ct_is_history : Value}
    {f_is_key : Addr} {od_is_key an_is_key : Option Addr} {sl_is_key : Array (Option Value)} {oc_is_key kV_is_key dc_is_key pm_is_key cd_is_key ct_is_key : Value}
    {f_is_value : Addr} {od_is_value an_is_value : Option Addr} {sl_is_value : Array (Option Value)} {oc_is_value kV_is_value dc_is_value pm_is_value cd_is_value ct_is_value : Value}
    {f_is_word : Addr} {od_is_word an_is_word : Option Addr} {sl_is_word : Array (Option Value)} {oc_is_word kV_is_word dc_is_word pm_is_word cd_is_word ct_is_word : Value}
    {f_is_set : Addr} {od_is_set an_is_set : Option Addr} {sl_is_set : Array (Option Value)} {oc_is_set kV_is_set dc_is_set pm_is_set cd_is_set ct_is_set : Value}
    {f_is_cut : Addr} {od_is_cut an_is_cut : Option Addr} {sl_is_cut : Array (Option Value)} {oc_is_cut kV_is_cut dc_is_cut pm_is_cut cd_is_cut ct_is_cut : Value}
    {f_is_row : Addr} {od_is_row an_is_row : Option Addr} {sl_is_row : Array (Option Value)} {oc_is_row kV_is_row dc_is_row pm_is_row cd_is_row ct_is_row : Value}
    {f_is_house : Addr} {od_is_house an_is_house : Option Addr} {sl_is_house : Array (Option Value)} {oc_is_house kV_is_house dc_is_house pm_is_house cd_is_house ct_is_house : Value}
    {f_is_saying : Addr} {od_is_saying an_is_saying : Option Addr} {sl_is_saying : Array (Option Value)} {oc_is_saying kV_is_saying dc_is_saying pm_is_saying cd_is_saying ct_is_saying : Value}
    {f_is_addressed : Addr} {od_is_addressed an_is_addressed : Option Addr} {sl_is_addressed : Array (Option Value)} {oc_is_addressed kV_is_addressed dc_is_addressed pm_is_addressed cd_is_addressed ct_is_addressed : Value}
    {f_is_want : Addr} {od_is_want an_is_want : Option Addr} {sl_is_want : Array (Option Value)} {oc_is_want kV_is_want dc_is_want pm_is_want cd_is_want ct_is_want : Value}
    {f_is_rows_letter : Addr} {od_is_rows_letter an_is_rows_letter : Option Addr} {sl_is_rows_letter : Array (Option Value)} {oc_is_rows_letter kV_is_rows_letter dc_is_rows_letter pm_is_rows_letter cd_is_rows_letter ct_is_rows_letter : Value}
    {f_is_gone : Addr} {od_is_gone an_is_gone : Option Addr} {sl_is_gone : Array (Option Value)} {oc_is_gone kV_is_gone dc_is_gone pm_is_gone cd_is_gone ct_is_gone : Value}
    {f_is_letter : Addr} {od_is_letter an_is_letter : Option Addr} {sl_is_letter : Array (Option Value)} {oc_is_letter kV_is_letter dc_is_letter pm_is_letter cd_is_letter ct_is_letter : Value}
    {f_law_state : Addr} {od_law_state an_law_state : Option Addr} {sl_law_state : Array (Option Value)} {oc_law_state kV_law_state dc_law_state pm_law_state cd_law_state ct_law_state : Value}
    {f_law_next : Addr} {od_law_next an_law_next : Option Addr} {sl_law_next : Array (Option Value)} {oc_law_next kV_law_next dc_law_next pm_law_next cd_law_next ct_law_next : Value}
    {f_law_whole : Addr} {od_law_whole an_law_whole : Option Addr} {sl_law_whole : Array (Option Value)} {oc_law_whole kV_law_whole dc_law_whole pm_law_whole cd_law_whole ct_law_whole : Value}
    {f_law_key : Addr} {od_law_key an_law_key : Option Addr} {sl_law_key : Array (Option Value)} {oc_law_key kV_law_key dc_law_key pm_law_key cd_law_key ct_law_key : Value}
    {f_law_amount : Addr} {od_law_amount an_law_amount : Option Addr} {sl_law_amount : Array (Option Value)} {oc_law_amount kV_law_amount dc_law_amount pm_law_amount cd_law_amount ct_law_amount : Value}
    {f_law_row : Addr} {od_law_row an_law_row : Option Addr} {sl_law_row : Array (Option Value)} {oc_law_row kV_law_row dc_law_row pm_law_row cd_law_row ct_law_row : Value}
    {f_law_keys : Addr} {od_law_keys an_law_keys : Option Addr} {sl_law_keys : Array (Option Value)} {oc_law_keys kV_law_keys dc_law_keys pm_law_keys cd_law_keys ct_law_keys : Value}
    {f_law_says : Addr} {od_law_says an_law_says : Option Addr} {sl_law_says : Array (Option Value)} {oc_law_says kV_law_says dc_law_says pm_law_says cd_law_says ct_law_says : Value}
    {f_law_deep : Addr} {od_law_deep an_law_deep : Option Addr} {sl_law_deep : Array (Option Value)} {oc_law_deep kV_law_deep dc_law_deep pm_law_deep cd_law_deep ct_law_deep : Value}
    {f_law_upto : Addr} {od_law_upto an_law_upto : Option Addr} {sl_law_upto : Array (Option Value)} {oc_law_upto kV_law_upto dc_law_upto pm_law_upto cd_law_upto ct_law_upto : Value}
    {f_law_is_key : Addr} {od_law_is_key an_law_is_key : Option Addr} {sl_law_is_key : Array (Option Value)} {oc_law_is_key kV_law_is_key dc_law_is_key pm_law_is_key cd_law_is_key ct_law_is_key : Value}
    {f_law_is_row : Addr} {od_law_is_row an_law_is_row : Option Addr} {sl_law_is_row : Array (Option Value)} {oc_law_is_row kV_law_is_row dc_law_is_row pm_law_is_row cd_law_is_row ct_law_is_row : Value}
    {f_law_is_past : Addr} {od_law_is_past an_law_is_past : Option Addr} {sl_law_is_past : Array (Option Value)} {oc_law_is_past kV_law_is_past dc_law_is_past pm_law_is_past cd_law_is_past ct_law_is_past : Value}
    {f_law_is_said : Addr} {od_law_is_said an_law_is_said : Option Addr} {sl_law_is_said : Array (Option Value)} {oc_law_is_said kV_law_is_said dc_law_is_said pm_law_is_said cd_law_is_said ct_law_is_said : Value}
    {f_law_is_letter : Addr} {od_law_is_letter an_law_is_letter : Option Addr} {sl_law_is_letter : Array (Option Value)} {oc_law_is_letter kV_law_is_letter dc_law_is_letter pm_law_is_letter cd_law_is_letter ct_law_is_letter : Value}
    {f_law_place : Addr} {od_law_place an_law_place : Option Addr} {sl_law_place : Array (Option Value)} {oc_law_place kV_law_place dc_law_place pm_law_place cd_law_place ct_law_place : Value}
    {f_law_line : Addr} {od_law_line an_law_line : Option Addr} {sl_law_line : Array (Option Value)} {oc_law_line kV_law_line dc_law_line pm_law_line cd_law_line ct_law_line : Value}
    {f_law_past : Addr} {od_law_past an_law_past : Option Addr} {sl_law_past : Array (Option Value)} {oc_law_past kV_law_past dc_law_past pm_law_past cd_law_past ct_law_past : Value}
    {f_law_said : Addr} {od_law_said an_law_said : Option Addr} {sl_law_said : Array (Option Value)} {oc_law_said kV_law_said dc_law_said pm_law_said cd_law_said ct_law_said : Value}
    {f_law_letter : Addr} {od_law_letter an_law_letter : Option Addr} {sl_law_letter : Array (Option Value)} {oc_law_letter kV_law_letter dc_law_letter pm_law_letter cd_law_letter ct_law_letter : Value}
    {f_law_odd : Addr} {od_law_odd an_law_odd : Option Addr} {sl_law_odd : Array (Option Value)} {oc_law_odd kV_law_odd dc_law_odd pm_law_odd cd_law_odd ct_law_odd : Value}
    {f_law_bent : Addr} {od_law_bent an_law_bent : Option Addr} {sl_law_bent : Array (Option Value)} {oc_law_bent kV_law_bent dc_law_bent pm_law_bent cd_law_bent ct_law_bent : Value}
    {f_law_applied_fits : Addr} {od_law_applied_fits an_law_applied_fits : Option Addr} {sl_law_applied_fits : Array (Option Value)} {oc_law_applied_fits kV_law_applied_fits dc_law_applied_fits pm_law_applied_fits cd_law_applied_fits ct_law_applied_fits : Value}
    {f_law : Addr} {od_law an_law : Option Addr} {sl_law : Array (Option Value)} {oc_law kV_law dc_law pm_law cd_law ct_law : Value}
    {u_HOUSES : Value}
    {u_LAST_LINE : Value}
    {u_LAST_PLACE : Value}
    {u_LETTERS : Value}
    {u_LINES : Value}
    {u_LONGEST_KEY : Value}
    {u_MOST : Value}
    (a_is_number : PySem.W.nsIn K mainGlobals "is_number" = some (some (.ref f_is_number)))
    (l_is_number : K.lookup f_is_number = some ⟨oc_is_number, od_is_number, .func (PySem.W.fnOf "is_number" "is_number" (defArgs s_is_number) (defBody s_is_number) (defScope s_is_number) .none kV_is_number dc_is_number pm_is_number an_is_number cd_is_number ct_is_number), sl_is_number⟩)
    (c_is_number : PySem.W.codeIn K cd_is_number "is_number" = true)
    (k_is_number : PySem.W.keepIn K (.ref f_is_number) = true)
    (a_is_within : PySem.W.nsIn K mainGlobals "is_within" = some (some (.ref f_is_within)))
    (l_is_within : K.lookup f_is_within = some ⟨oc_is_within, od_is_within, .func (PySem.W.fnOf "is_within" "is_within" (defArgs s_is_within) (defBody s_is_within) (defScope s_is_within) .none kV_is_within dc_is_within pm_is_within an_is_within cd_is_within ct_is_within), sl_is_within⟩)
    (c_is_within : PySem.W.codeIn K cd_is_within "is_within" = true)
    (k_is_within : PySem.W.keepIn K (.ref f_is_within) = true)
    (a_is_place : PySem.W.nsIn K mainGlobals "is_place" = some (some (.ref f_is_place)))
    (l_is_place : K.lookup f_is_place = some ⟨oc_is_place, od_is_place, .func (PySem.W.fnOf "is_place" "is_place" (defArgs s_is_place) (defBody s_is_place) (defScope s_is_place) .none kV_is_place dc_is_place pm_is_place an_is_place cd_is_place ct_is_place), sl_is_place⟩)
    (c_is_place : PySem.W.codeIn K cd_is_place "is_place" = true)
    (k_is_place : PySem.W.keepIn K (.ref f_is_place) = true)
    (a_is_line : PySem.W.nsIn K mainGlobals "is_line" = some (some (.ref f_is_line)))
    (l_is_line : K.lookup f_is_line = some ⟨oc_is_line, od_is_line, .func (PySem.W.fnOf "is_line" "is_line" (defArgs s_is_line) (defBody s_is_line) (defScope s_is_line) .none kV_is_line dc_is_line pm_is_line an_is_line cd_is_line ct_is_line), sl_is_line⟩)
    (c_is_line : PySem.W.codeIn K cd_is_line "is_line" = true)
    (k_is_line : PySem.W.keepIn K (.ref f_is_line) = true)
    (a_is_line_and_place : PySem.W.nsIn K mainGlobals "is_line_and_place" = some (some (.ref f_is_line_and_place)))
    (l_is_line_and_place : K.lookup f_is_line_and_place = some ⟨oc_is_line_and_place, od_is_line_and_place, .func (PySem.W.fnOf "is_line_and_place" "is_line_and_place" (defArgs s_is_line_and_place) (defBody s_is_line_and_place) (defScope s_is_line_and_place) .none kV_is_line_and_place dc_is_line_and_place pm_is_line_and_place an_is_line_and_place cd_is_line_and_place ct_is_line_and_place), sl_is_line_and_place⟩)
    (c_is_line_and_place : PySem.W.codeIn K cd_is_line_and_place "is_line_and_place" = true)
    (k_is_line_and_place : PySem.W.keepIn K (.ref f_is_line_and_place) = true)
    (a_is_history : PySem.W.nsIn K mainGlobals "is_history" = some (some (.ref f_is_history)))
    (l_is_history : K.lookup f_is_history = some ⟨oc_is_history, od_is_history, .func (PySem.W.fnOf "is_history" "is_history" (defArgs s_is_history) (defBody s_is_history) (defScope s_is_history) .none kV_is_history dc_is_history pm_is_history an_is_history cd_is_history ct_is_history), sl_is_history⟩)
    (c_is_history : PySem.W.codeIn K cd_is_history "is_history" = true)
    (k_is_history : PySem.W.keepIn K (.ref f_is_history) = true)
    (a_is_key : PySem.W.nsIn K mainGlobals "is_key" = some (some (.ref f_is_key)))
    (l_is_key : K.lookup f_is_key = some ⟨oc_is_key, od_is_key, .func (PySem.W.fnOf "is_key" "is_key" (defArgs s_is_key) (defBody s_is_key) (defScope s_is_key) .none kV_is_key dc_is_key pm_is_key an_is_key cd_is_key ct_is_key), sl_is_key⟩)
    (c_is_key : PySem.W.codeIn K cd_is_key "is_key" = true)
    (k_is_key : PySem.W.keepIn K (.ref f_is_key) = true)
    (a_is_value : PySem.W.nsIn K mainGlobals "is_value" = some (some (.ref f_is_value)))
    (l_is_value : K.lookup f_is_value = some ⟨oc_is_value, od_is_value, .func (PySem.W.fnOf "is_value" "is_value" (defArgs s_is_value) (defBody s_is_value) (defScope s_is_value) .none kV_is_value dc_is_value pm_is_value an_is_value cd_is_value ct_is_value), sl_is_value⟩)
    (c_is_value : PySem.W.codeIn K cd_is_value "is_value" = true)
    (k_is_value : PySem.W.keepIn K (.ref f_is_value) = true)
    (a_is_word : PySem.W.nsIn K mainGlobals "is_word" = some (some (.ref f_is_word)))
    (l_is_word : K.lookup f_is_word = some ⟨oc_is_word, od_is_word, .func (PySem.W.fnOf "is_word" "is_word" (defArgs s_is_word) (defBody s_is_word) (defScope s_is_word) .none kV_is_word dc_is_word pm_is_word an_is_word cd_is_word ct_is_word), sl_is_word⟩)
    (c_is_word : PySem.W.codeIn K cd_is_word "is_word" = true)
    (k_is_word : PySem.W.keepIn K (.ref f_is_word) = true)
    (a_is_set : PySem.W.nsIn K mainGlobals "is_set" = some (some (.ref f_is_set)))
    (l_is_set : K.lookup f_is_set = some ⟨oc_is_set, od_is_set, .func (PySem.W.fnOf "is_set" "is_set" (defArgs s_is_set) (defBody s_is_set) (defScope s_is_set) .none kV_is_set dc_is_set pm_is_set an_is_set cd_is_set ct_is_set), sl_is_set⟩)
    (c_is_set : PySem.W.codeIn K cd_is_set "is_set" = true)
    (k_is_set : PySem.W.keepIn K (.ref f_is_set) = true)
    (a_is_cut : PySem.W.nsIn K mainGlobals "is_cut" = some (some (.ref f_is_cut)))
    (l_is_cut : K.lookup f_is_cut = some ⟨oc_is_cut, od_is_cut, .func (PySem.W.fnOf "is_cut" "is_cut" (defArgs s_is_cut) (defBody s_is_cut) (defScope s_is_cut) .none kV_is_cut dc_is_cut pm_is_cut an_is_cut cd_is_cut ct_is_cut), sl_is_cut⟩)
    (c_is_cut : PySem.W.codeIn K cd_is_cut "is_cut" = true)
    (k_is_cut : PySem.W.keepIn K (.ref f_is_cut) = true)
    (a_is_row : PySem.W.nsIn K mainGlobals "is_row" = some (some (.ref f_is_row)))
    (l_is_row : K.lookup f_is_row = some ⟨oc_is_row, od_is_row, .func (PySem.W.fnOf "is_row" "is_row" (defArgs s_is_row) (defBody s_is_row) (defScope s_is_row) .none kV_is_row dc_is_row pm_is_row an_is_row cd_is_row ct_is_row), sl_is_row⟩)
    (c_is_row : PySem.W.codeIn K cd_is_row "is_row" = true)
    (k_is_row : PySem.W.keepIn K (.ref f_is_row) = true)
    (a_is_house : PySem.W.nsIn K mainGlobals "is_house" = some (some (.ref f_is_house)))
    (l_is_house : K.lookup f_is_house = some ⟨oc_is_house, od_is_house, .func (PySem.W.fnOf "is_house" "is_house" (defArgs s_is_house) (defBody s_is_house) (defScope s_is_house) .none kV_is_house dc_is_house pm_is_house an_is_house cd_is_house ct_is_house), sl_is_house⟩)
    (c_is_house : PySem.W.codeIn K cd_is_house "is_house" = true)
    (k_is_house : PySem.W.keepIn K (.ref f_is_house) = true)
    (a_is_saying : PySem.W.nsIn K mainGlobals "is_saying" = some (some (.ref f_is_saying)))
    (l_is_saying : K.lookup f_is_saying = some ⟨oc_is_saying, od_is_saying, .func (PySem.W.fnOf "is_saying" "is_saying" (defArgs s_is_saying) (defBody s_is_saying) (defScope s_is_saying) .none kV_is_saying dc_is_saying pm_is_saying an_is_saying cd_is_saying ct_is_saying), sl_is_saying⟩)
    (c_is_saying : PySem.W.codeIn K cd_is_saying "is_saying" = true)
    (k_is_saying : PySem.W.keepIn K (.ref f_is_saying) = true)
    (a_is_addressed : PySem.W.nsIn K mainGlobals "is_addressed" = some (some (.ref f_is_addressed)))
    (l_is_addressed : K.lookup f_is_addressed = some ⟨oc_is_addressed, od_is_addressed, .func (PySem.W.fnOf "is_addressed" "is_addressed" (defArgs s_is_addressed) (defBody s_is_addressed) (defScope s_is_addressed) .none kV_is_addressed dc_is_addressed pm_is_addressed an_is_addressed cd_is_addressed ct_is_addressed), sl_is_addressed⟩)
    (c_is_addressed : PySem.W.codeIn K cd_is_addressed "is_addressed" = true)
    (k_is_addressed : PySem.W.keepIn K (.ref f_is_addressed) = true)
    (a_is_want : PySem.W.nsIn K mainGlobals "is_want" = some (some (.ref f_is_want)))
    (l_is_want : K.lookup f_is_want = some ⟨oc_is_want, od_is_want, .func (PySem.W.fnOf "is_want" "is_want" (defArgs s_is_want) (defBody s_is_want) (defScope s_is_want) .none kV_is_want dc_is_want pm_is_want an_is_want cd_is_want ct_is_want), sl_is_want⟩)
    (c_is_want : PySem.W.codeIn K cd_is_want "is_want" = true)
    (k_is_want : PySem.W.keepIn K (.ref f_is_want) = true)
    (a_is_rows_letter : PySem.W.nsIn K mainGlobals "is_rows_letter" = some (some (.ref f_is_rows_letter)))
    (l_is_rows_letter : K.lookup f_is_rows_letter = some ⟨oc_is_rows_letter, od_is_rows_letter, .func (PySem.W.fnOf "is_rows_letter" "is_rows_letter" (defArgs s_is_rows_letter) (defBody s_is_rows_letter) (defScope s_is_rows_letter) .none kV_is_rows_letter dc_is_rows_letter pm_is_rows_letter an_is_rows_letter cd_is_rows_letter ct_is_rows_letter), sl_is_rows_letter⟩)
    (c_is_rows_letter : PySem.W.codeIn K cd_is_rows_letter "is_rows_letter" = true)
    (k_is_rows_letter : PySem.W.keepIn K (.ref f_is_rows_letter) = true)
    (a_is_gone : PySem.W.nsIn K mainGlobals "is_gone" = some (some (.ref f_is_gone)))
    (l_is_gone : K.lookup f_is_gone = some ⟨oc_is_gone, od_is_gone, .func (PySem.W.fnOf "is_gone" "is_gone" (defArgs s_is_gone) (defBody s_is_gone) (defScope s_is_gone) .none kV_is_gone dc_is_gone pm_is_gone an_is_gone cd_is_gone ct_is_gone), sl_is_gone⟩)
    (c_is_gone : PySem.W.codeIn K cd_is_gone "is_gone" = true)
    (k_is_gone : PySem.W.keepIn K (.ref f_is_gone) = true)
    (a_is_letter : PySem.W.nsIn K mainGlobals "is_letter" = some (some (.ref f_is_letter)))
    (l_is_letter : K.lookup f_is_letter = some ⟨oc_is_letter, od_is_letter, .func (PySem.W.fnOf "is_letter" "is_letter" (defArgs s_is_letter) (defBody s_is_letter) (defScope s_is_letter) .none kV_is_letter dc_is_letter pm_is_letter an_is_letter cd_is_letter ct_is_letter), sl_is_letter⟩)
    (c_is_letter : PySem.W.codeIn K cd_is_letter "is_letter" = true)
    (k_is_letter : PySem.W.keepIn K (.ref f_is_letter) = true)
    (a_law_state : PySem.W.nsIn K mainGlobals "_law_state" = some (some (.ref f_law_state)))
    (l_law_state : K.lookup f_law_state = some ⟨oc_law_state, od_law_state, .func (PySem.W.fnOf "_law_state" "_law_state" (defArgs s_law_state) (defBody s_law_state) (defScope s_law_state) .none kV_law_state dc_law_state pm_law_state an_law_state cd_law_state ct_law_state), sl_law_state⟩)
    (c_law_state : PySem.W.codeIn K cd_law_state "_law_state" = true)
    (k_law_state : PySem.W.keepIn K (.ref f_law_state) = true)
    (a_law_next : PySem.W.nsIn K mainGlobals "_law_next" = some (some (.ref f_law_next)))
    (l_law_next : K.lookup f_law_next = some ⟨oc_law_next, od_law_next, .func (PySem.W.fnOf "_law_next" "_law_next" (defArgs s_law_next) (defBody s_law_next) (defScope s_law_next) .none kV_law_next dc_law_next pm_law_next an_law_next cd_law_next ct_law_next), sl_law_next⟩)
    (c_law_next : PySem.W.codeIn K cd_law_next "_law_next" = true)
    (k_law_next : PySem.W.keepIn K (.ref f_law_next) = true)
    (a_law_whole : PySem.W.nsIn K mainGlobals "_law_whole" = some (some (.ref f_law_whole)))
    (l_law_whole : K.lookup f_law_whole = some ⟨oc_law_whole, od_law_whole, .func (PySem.W.fnOf "_law_whole" "_law_whole" (defArgs s_law_whole) (defBody s_law_whole) (defScope s_law_whole) .none kV_law_whole dc_law_whole pm_law_whole an_law_whole cd_law_whole ct_law_whole), sl_law_whole⟩)
    (c_law_whole : PySem.W.codeIn K cd_law_whole "_law_whole" = true)
    (k_law_whole : PySem.W.keepIn K (.ref f_law_whole) = true)
    (a_law_key : PySem.W.nsIn K mainGlobals "_law_key" = some (some (.ref f_law_key)))
    (l_law_key : K.lookup f_law_key = some ⟨oc_law_key, od_law_key, .func (PySem.W.fnOf "_law_key" "_law_key" (defArgs s_law_key) (defBody s_law_key) (defScope s_law_key) .none kV_law_key dc_law_key pm_law_key an_law_key cd_law_key ct_law_key), sl_law_key⟩)
    (c_law_key : PySem.W.codeIn K cd_law_key "_law_key" = true)
    (k_law_key : PySem.W.keepIn K (.ref f_law_key) = true)
    (a_law_amount : PySem.W.nsIn K mainGlobals "_law_amount" = some (some (.ref f_law_amount)))
    (l_law_amount : K.lookup f_law_amount = some ⟨oc_law_amount, od_law_amount, .func (PySem.W.fnOf "_law_amount" "_law_amount" (defArgs s_law_amount) (defBody s_law_amount) (defScope s_law_amount) .none kV_law_amount dc_law_amount pm_law_amount an_law_amount cd_law_amount ct_law_amount), sl_law_amount⟩)
    (c_law_amount : PySem.W.codeIn K cd_law_amount "_law_amount" = true)
    (k_law_amount : PySem.W.keepIn K (.ref f_law_amount) = true)
    (a_law_row : PySem.W.nsIn K mainGlobals "_law_row" = some (some (.ref f_law_row)))
    (l_law_row : K.lookup f_law_row = some ⟨oc_law_row, od_law_row, .func (PySem.W.fnOf "_law_row" "_law_row" (defArgs s_law_row) (defBody s_law_row) (defScope s_law_row) .none kV_law_row dc_law_row pm_law_row an_law_row cd_law_row ct_law_row), sl_law_row⟩)
    (c_law_row : PySem.W.codeIn K cd_law_row "_law_row" = true)
    (k_law_row : PySem.W.keepIn K (.ref f_law_row) = true)
    (a_law_keys : PySem.W.nsIn K mainGlobals "_law_keys" = some (some (.ref f_law_keys)))
    (l_law_keys : K.lookup f_law_keys = some ⟨oc_law_keys, od_law_keys, .func (PySem.W.fnOf "_law_keys" "_law_keys" (defArgs s_law_keys) (defBody s_law_keys) (defScope s_law_keys) .none kV_law_keys dc_law_keys pm_law_keys an_law_keys cd_law_keys ct_law_keys), sl_law_keys⟩)
    (c_law_keys : PySem.W.codeIn K cd_law_keys "_law_keys" = true)
    (k_law_keys : PySem.W.keepIn K (.ref f_law_keys) = true)
    (a_law_says : PySem.W.nsIn K mainGlobals "_law_says" = some (some (.ref f_law_says)))
    (l_law_says : K.lookup f_law_says = some ⟨oc_law_says, od_law_says, .func (PySem.W.fnOf "_law_says" "_law_says" (defArgs s_law_says) (defBody s_law_says) (defScope s_law_says) .none kV_law_says dc_law_says pm_law_says an_law_says cd_law_says ct_law_says), sl_law_says⟩)
    (c_law_says : PySem.W.codeIn K cd_law_says "_law_says" = true)
    (k_law_says : PySem.W.keepIn K (.ref f_law_says) = true)
    (a_law_deep : PySem.W.nsIn K mainGlobals "_law_deep" = some (some (.ref f_law_deep)))
    (l_law_deep : K.lookup f_law_deep = some ⟨oc_law_deep, od_law_deep, .func (PySem.W.fnOf "_law_deep" "_law_deep" (defArgs s_law_deep) (defBody s_law_deep) (defScope s_law_deep) .none kV_law_deep dc_law_deep pm_law_deep an_law_deep cd_law_deep ct_law_deep), sl_law_deep⟩)
    (c_law_deep : PySem.W.codeIn K cd_law_deep "_law_deep" = true)
    (k_law_deep : PySem.W.keepIn K (.ref f_law_deep) = true)
    (a_law_upto : PySem.W.nsIn K mainGlobals "_law_upto" = some (some (.ref f_law_upto)))
    (l_law_upto : K.lookup f_law_upto = some ⟨oc_law_upto, od_law_upto, .func (PySem.W.fnOf "_law_upto" "_law_upto" (defArgs s_law_upto) (defBody s_law_upto) (defScope s_law_upto) .none kV_law_upto dc_law_upto pm_law_upto an_law_upto cd_law_upto ct_law_upto), sl_law_upto⟩)
    (c_law_upto : PySem.W.codeIn K cd_law_upto "_law_upto" = true)
    (k_law_upto : PySem.W.keepIn K (.ref f_law_upto) = true)
    (a_law_is_key : PySem.W.nsIn K mainGlobals "_law_is_key" = some (some (.ref f_law_is_key)))
    (l_law_is_key : K.lookup f_law_is_key = some ⟨oc_law_is_key, od_law_is_key, .func (PySem.W.fnOf "_law_is_key" "_law_is_key" (defArgs s_law_is_key) (defBody s_law_is_key) (defScope s_law_is_key) .none kV_law_is_key dc_law_is_key pm_law_is_key an_law_is_key cd_law_is_key ct_law_is_key), sl_law_is_key⟩)
    (c_law_is_key : PySem.W.codeIn K cd_law_is_key "_law_is_key" = true)
    (k_law_is_key : PySem.W.keepIn K (.ref f_law_is_key) = true)
    (a_law_is_row : PySem.W.nsIn K mainGlobals "_law_is_row" = some (some (.ref f_law_is_row)))
    (l_law_is_row : K.lookup f_law_is_row = some ⟨oc_law_is_row, od_law_is_row, .func (PySem.W.fnOf "_law_is_row" "_law_is_row" (defArgs s_law_is_row) (defBody s_law_is_row) (defScope s_law_is_row) .none kV_law_is_row dc_law_is_row pm_law_is_row an_law_is_row cd_law_is_row ct_law_is_row), sl_law_is_row⟩)
    (c_law_is_row : PySem.W.codeIn K cd_law_is_row "_law_is_row" = true)
    (k_law_is_row : PySem.W.keepIn K (.ref f_law_is_row) = true)
    (a_law_is_past : PySem.W.nsIn K mainGlobals "_law_is_past" = some (some (.ref f_law_is_past)))
    (l_law_is_past : K.lookup f_law_is_past = some ⟨oc_law_is_past, od_law_is_past, .func (PySem.W.fnOf "_law_is_past" "_law_is_past" (defArgs s_law_is_past) (defBody s_law_is_past) (defScope s_law_is_past) .none kV_law_is_past dc_law_is_past pm_law_is_past an_law_is_past cd_law_is_past ct_law_is_past), sl_law_is_past⟩)
    (c_law_is_past : PySem.W.codeIn K cd_law_is_past "_law_is_past" = true)
    (k_law_is_past : PySem.W.keepIn K (.ref f_law_is_past) = true)
    (a_law_is_said : PySem.W.nsIn K mainGlobals "_law_is_said" = some (some (.ref f_law_is_said)))
    (l_law_is_said : K.lookup f_law_is_said = some ⟨oc_law_is_said, od_law_is_said, .func (PySem.W.fnOf "_law_is_said" "_law_is_said" (defArgs s_law_is_said) (defBody s_law_is_said) (defScope s_law_is_said) .none kV_law_is_said dc_law_is_said pm_law_is_said an_law_is_said cd_law_is_said ct_law_is_said), sl_law_is_said⟩)
    (c_law_is_said : PySem.W.codeIn K cd_law_is_said "_law_is_said" = true)
    (k_law_is_said : PySem.W.keepIn K (.ref f_law_is_said) = true)
    (a_law_is_letter : PySem.W.nsIn K mainGlobals "_law_is_letter" = some (some (.ref f_law_is_letter)))
    (l_law_is_letter : K.lookup f_law_is_letter = some ⟨oc_law_is_letter, od_law_is_letter, .func (PySem.W.fnOf "_law_is_letter" "_law_is_letter" (defArgs s_law_is_letter) (defBody s_law_is_letter) (defScope s_law_is_letter) .none kV_law_is_letter dc_law_is_letter pm_law_is_letter an_law_is_letter cd_law_is_letter ct_law_is_letter), sl_law_is_letter⟩)
    (c_law_is_letter : PySem.W.codeIn K cd_law_is_letter "_law_is_letter" = true)
    (k_law_is_letter : PySem.W.keepIn K (.ref f_law_is_letter) = true)
    (a_law_place : PySem.W.nsIn K mainGlobals "_law_place" = some (some (.ref f_law_place)))
    (l_law_place : K.lookup f_law_place = some ⟨oc_law_place, od_law_place, .func (PySem.W.fnOf "_law_place" "_law_place" (defArgs s_law_place) (defBody s_law_place) (defScope s_law_place) .none kV_law_place dc_law_place pm_law_place an_law_place cd_law_place ct_law_place), sl_law_place⟩)
    (c_law_place : PySem.W.codeIn K cd_law_place "_law_place" = true)
    (k_law_place : PySem.W.keepIn K (.ref f_law_place) = true)
    (a_law_line : PySem.W.nsIn K mainGlobals "_law_line" = some (some (.ref f_law_line)))
    (l_law_line : K.lookup f_law_line = some ⟨oc_law_line, od_law_line, .func (PySem.W.fnOf "_law_line" "_law_line" (defArgs s_law_line) (defBody s_law_line) (defScope s_law_line) .none kV_law_line dc_law_line pm_law_line an_law_line cd_law_line ct_law_line), sl_law_line⟩)
    (c_law_line : PySem.W.codeIn K cd_law_line "_law_line" = true)
    (k_law_line : PySem.W.keepIn K (.ref f_law_line) = true)
    (a_law_past : PySem.W.nsIn K mainGlobals "_law_past" = some (some (.ref f_law_past)))
    (l_law_past : K.lookup f_law_past = some ⟨oc_law_past, od_law_past, .func (PySem.W.fnOf "_law_past" "_law_past" (defArgs s_law_past) (defBody s_law_past) (defScope s_law_past) .none kV_law_past dc_law_past pm_law_past an_law_past cd_law_past ct_law_past), sl_law_past⟩)
    (c_law_past : PySem.W.codeIn K cd_law_past "_law_past" = true)
    (k_law_past : PySem.W.keepIn K (.ref f_law_past) = true)
    (a_law_said : PySem.W.nsIn K mainGlobals "_law_said" = some (some (.ref f_law_said)))
    (l_law_said : K.lookup f_law_said = some ⟨oc_law_said, od_law_said, .func (PySem.W.fnOf "_law_said" "_law_said" (defArgs s_law_said) (defBody s_law_said) (defScope s_law_said) .none kV_law_said dc_law_said pm_law_said an_law_said cd_law_said ct_law_said), sl_law_said⟩)
    (c_law_said : PySem.W.codeIn K cd_law_said "_law_said" = true)
    (k_law_said : PySem.W.keepIn K (.ref f_law_said) = true)
    (a_law_letter : PySem.W.nsIn K mainGlobals "_law_letter" = some (some (.ref f_law_letter)))
    (l_law_letter : K.lookup f_law_letter = some ⟨oc_law_letter, od_law_letter, .func (PySem.W.fnOf "_law_letter" "_law_letter" (defArgs s_law_letter) (defBody s_law_letter) (defScope s_law_letter) .none kV_law_letter dc_law_letter pm_law_letter an_law_letter cd_law_letter ct_law_letter), sl_law_letter⟩)
    (c_law_letter : PySem.W.codeIn K cd_law_letter "_law_letter" = true)
    (k_law_letter : PySem.W.keepIn K (.ref f_law_letter) = true)
    (a_law_odd : PySem.W.nsIn K mainGlobals "_law_odd" = some (some (.ref f_law_odd)))
    (l_law_odd : K.lookup f_law_odd = some ⟨oc_law_odd, od_law_odd, .func (PySem.W.fnOf "_law_odd" "_law_odd" (defArgs s_law_odd) (defBody s_law_odd) (defScope s_law_odd) .none kV_law_odd dc_law_odd pm_law_odd an_law_odd cd_law_odd ct_law_odd), sl_law_odd⟩)
    (c_law_odd : PySem.W.codeIn K cd_law_odd "_law_odd" = true)
    (k_law_odd : PySem.W.keepIn K (.ref f_law_odd) = true)
    (a_law_bent : PySem.W.nsIn K mainGlobals "_law_bent" = some (some (.ref f_law_bent)))
    (l_law_bent : K.lookup f_law_bent = some ⟨oc_law_bent, od_law_bent, .func (PySem.W.fnOf "_law_bent" "_law_bent" (defArgs s_law_bent) (defBody s_law_bent) (defScope s_law_bent) .none kV_law_bent dc_law_bent pm_law_bent an_law_bent cd_law_bent ct_law_bent), sl_law_bent⟩)
    (c_law_bent : PySem.W.codeIn K cd_law_bent "_law_bent" = true)
    (k_law_bent : PySem.W.keepIn K (.ref f_law_bent) = true)
    (a_law_applied_fits : PySem.W.nsIn K mainGlobals "_law_applied_fits" = some (some (.ref f_law_applied_fits)))
    (l_law_applied_fits : K.lookup f_law_applied_fits = some ⟨oc_law_applied_fits, od_law_applied_fits, .func (PySem.W.fnOf "_law_applied_fits" "_law_applied_fits" (defArgs s_law_applied_fits) (defBody s_law_applied_fits) (defScope s_law_applied_fits) .none kV_law_applied_fits dc_law_applied_fits pm_law_applied_fits an_law_applied_fits cd_law_applied_fits ct_law_applied_fits), sl_law_applied_fits⟩)
    (c_law_applied_fits : PySem.W.codeIn K cd_law_applied_fits "_law_applied_fits" = true)
    (k_law_applied_fits : PySem.W.keepIn K (.ref f_law_applied_fits) = true)
    (a_law : PySem.W.nsIn K mainGlobals "law" = some (some (.ref f_law)))
    (l_law : K.lookup f_law = some ⟨oc_law, od_law, .func (PySem.W.fnOf "law" "law" (defArgs s_law) (defBody s_law) (defScope s_law) .none kV_law dc_law pm_law an_law cd_law ct_law), sl_law⟩)
    (c_law : PySem.W.codeIn K cd_law "law" = true)
    (k_law : PySem.W.keepIn K (.ref f_law) = true)
    (z_abs : PySem.W.nsIn K mainGlobals "abs" = some none)
    (z_all : PySem.W.nsIn K mainGlobals "all" = some none)
    (z_bool : PySem.W.nsIn K mainGlobals "bool" = some none)
    (z_int : PySem.W.nsIn K mainGlobals "int" = some none)
    (z_isinstance : PySem.W.nsIn K mainGlobals "isinstance" = some none)
    (z_len : PySem.W.nsIn K mainGlobals "len" = some none)
    (z_list : PySem.W.nsIn K mainGlobals "list" = some none)
    (z_min : PySem.W.nsIn K mainGlobals "min" = some none)
    (z_range : PySem.W.nsIn K mainGlobals "range" = some none)
    (z_repr : PySem.W.nsIn K mainGlobals "repr" = some none)
    (z_str : PySem.W.nsIn K mainGlobals "str" = some none)
    (z_tuple : PySem.W.nsIn K mainGlobals "tuple" = some none)
    (z_zip : PySem.W.nsIn K mainGlobals "zip" = some none)
    (sysK : SysK K)
    (v_HOUSES : PySem.W.nsIn K mainGlobals "HOUSES" = some (some u_HOUSES))
    (r_HOUSES : RelV (.int 8) u_HOUSES)
    (v_LAST_LINE : PySem.W.nsIn K mainGlobals "LAST_LINE" = some (some u_LAST_LINE))
    (r_LAST_LINE : RelV (.int 1000000000) u_LAST_LINE)
    (v_LAST_PLACE : PySem.W.nsIn K mainGlobals "LAST_PLACE" = some (some u_LAST_PLACE))
    (r_LAST_PLACE : RelV (.int 1000000) u_LAST_PLACE)
    (v_LETTERS : PySem.W.nsIn K mainGlobals "LETTERS" = some (some u_LETTERS))
    (r_LETTERS : RelV (.int 2000) u_LETTERS)
    (v_LINES : PySem.W.nsIn K mainGlobals "LINES" = some (some u_LINES))
    (r_LINES : RelV (.int 60) u_LINES)
    (v_LONGEST_KEY : PySem.W.nsIn K mainGlobals "LONGEST_KEY" = some (some u_LONGEST_KEY))
    (r_LONGEST_KEY : RelV (.int 12) u_LONGEST_KEY)
    (v_MOST : PySem.W.nsIn K mainGlobals "MOST" = some (some u_MOST))
    (r_MOST : RelV (.int 1000000000000000000) u_MOST)
    (dq_is_house : ∀ (u : Value) S, PySem.W.peek K S (bindArgs (PySem.W.fnOf "is_house" "is_house" (defArgs s_is_house) (defBody s_is_house) (defScope s_is_house) .none kV_is_house dc_is_house pm_is_house an_is_house cd_is_house ct_is_house) ⟨[u], []⟩) = some [(("thing" : Str), u), (("houses" : Str), u_HOUSES)]) :
    ∃ a, Txt P K mg a := by
  exact ⟨⟨f_is_number, PySem.W.fnOf "is_number" "is_number" (defArgs s_is_number) (defBody s_is_number) (defScope s_is_number) .none kV_is_number dc_is_number pm_is_number an_is_number cd_is_number ct_is_number, f_is_within, PySem.W.fnOf "is_within" "is_within" (defArgs s_is_within) (defBody s_is_within) (defScope s_is_within) .none kV_is_within dc_is_within pm_is_within an_is_within cd_is_within ct_is_within, f_is_place, PySem.W.fnOf "is_place" "is_place" (defArgs s_is_place) (defBody s_is_place) (defScope s_is_place) .none kV_is_place dc_is_place pm_is_place an_is_place cd_is_place ct_is_place, f_is_line, PySem.W.fnOf "is_line" "is_line" (defArgs s_is_line) (defBody s_is_line) (defScope s_is_line) .none kV_is_line dc_is_line pm_is_line an_is_line cd_is_line ct_is_line, f_is_line_and_place, PySem.W.fnOf "is_line_and_place" "is_line_and_place" (defArgs s_is_line_and_place) (defBody s_is_line_and_place) (defScope s_is_line_and_place) .none kV_is_line_and_place dc_is_line_and_place pm_is_line_and_place an_is_line_and_place cd_is_line_and_place ct_is_line_and_place, f_is_history, PySem.W.fnOf "is_history" "is_history" (defArgs s_is_history) (defBody s_is_history) (defScope s_is_history) .none kV_is_history dc_is_history pm_is_history an_is_history cd_is_history ct_is_history, f_is_key, PySem.W.fnOf "is_key" "is_key" (defArgs s_is_key) (defBody s_is_key) (defScope s_is_key) .none kV_is_key dc_is_key pm_is_key an_is_key cd_is_key ct_is_key, f_is_value, PySem.W.fnOf "is_value" "is_value" (defArgs s_is_value) (defBody s_is_value) (defScope s_is_value) .none kV_is_value dc_is_value pm_is_value an_is_value cd_is_value ct_is_value, f_is_word, PySem.W.fnOf "is_word" "is_word" (defArgs s_is_word) (defBody s_is_word) (defScope s_is_word) .none kV_is_word dc_is_word pm_is_word an_is_word cd_is_word ct_is_word, f_is_set, PySem.W.fnOf "is_set" "is_set" (defArgs s_is_set) (defBody s_is_set) (defScope s_is_set) .none kV_is_set dc_is_set pm_is_set an_is_set cd_is_set ct_is_set, f_is_cut, PySem.W.fnOf "is_cut" "is_cut" (defArgs s_is_cut) (defBody s_is_cut) (defScope s_is_cut) .none kV_is_cut dc_is_cut pm_is_cut an_is_cut cd_is_cut ct_is_cut, f_is_row, PySem.W.fnOf "is_row" "is_row" (defArgs s_is_row) (defBody s_is_row) (defScope s_is_row) .none kV_is_row dc_is_row pm_is_row an_is_row cd_is_row ct_is_row, f_is_house, PySem.W.fnOf "is_house" "is_house" (defArgs s_is_house) (defBody s_is_house) (defScope s_is_house) .none kV_is_house dc_is_house pm_is_house an_is_house cd_is_house ct_is_house, f_is_saying, PySem.W.fnOf "is_saying" "is_saying" (defArgs s_is_saying) (defBody s_is_saying) (defScope s_is_saying) .none kV_is_saying dc_is_saying pm_is_saying an_is_saying cd_is_saying ct_is_saying, f_is_addressed, PySem.W.fnOf "is_addressed" "is_addressed" (defArgs s_is_addressed) (defBody s_is_addressed) (defScope s_is_addressed) .none kV_is_addressed dc_is_addressed pm_is_addressed an_is_addressed cd_is_addressed ct_is_addressed, f_is_want, PySem.W.fnOf "is_want" "is_want" (defArgs s_is_want) (defBody s_is_want) (defScope s_is_want) .none kV_is_want dc_is_want pm_is_want an_is_want cd_is_want ct_is_want, f_is_rows_letter, PySem.W.fnOf "is_rows_letter" "is_rows_letter" (defArgs s_is_rows_letter) (defBody s_is_rows_letter) (defScope s_is_rows_letter) .none kV_is_rows_letter dc_is_rows_letter pm_is_rows_letter an_is_rows_letter cd_is_rows_letter ct_is_rows_letter, f_is_gone, PySem.W.fnOf "is_gone" "is_gone" (defArgs s_is_gone) (defBody s_is_gone) (defScope s_is_gone) .none kV_is_gone dc_is_gone pm_is_gone an_is_gone cd_is_gone ct_is_gone, f_is_letter, PySem.W.fnOf "is_letter" "is_letter" (defArgs s_is_letter) (defBody s_is_letter) (defScope s_is_letter) .none kV_is_letter dc_is_letter pm_is_letter an_is_letter cd_is_letter ct_is_letter, f_law_state, PySem.W.fnOf "_law_state" "_law_state" (defArgs s_law_state) (defBody s_law_state) (defScope s_law_state) .none kV_law_state dc_law_state pm_law_state an_law_state cd_law_state ct_law_state, f_law_next, PySem.W.fnOf "_law_next" "_law_next" (defArgs s_law_next) (defBody s_law_next) (defScope s_law_next) .none kV_law_next dc_law_next pm_law_next an_law_next cd_law_next ct_law_next, f_law_whole, PySem.W.fnOf "_law_whole" "_law_whole" (defArgs s_law_whole) (defBody s_law_whole) (defScope s_law_whole) .none kV_law_whole dc_law_whole pm_law_whole an_law_whole cd_law_whole ct_law_whole, f_law_key, PySem.W.fnOf "_law_key" "_law_key" (defArgs s_law_key) (defBody s_law_key) (defScope s_law_key) .none kV_law_key dc_law_key pm_law_key an_law_key cd_law_key ct_law_key, f_law_amount, PySem.W.fnOf "_law_amount" "_law_amount" (defArgs s_law_amount) (defBody s_law_amount) (defScope s_law_amount) .none kV_law_amount dc_law_amount pm_law_amount an_law_amount cd_law_amount ct_law_amount, f_law_row, PySem.W.fnOf "_law_row" "_law_row" (defArgs s_law_row) (defBody s_law_row) (defScope s_law_row) .none kV_law_row dc_law_row pm_law_row an_law_row cd_law_row ct_law_row, f_law_keys, PySem.W.fnOf "_law_keys" "_law_keys" (defArgs s_law_keys) (defBody s_law_keys) (defScope s_law_keys) .none kV_law_keys dc_law_keys pm_law_keys an_law_keys cd_law_keys ct_law_keys, f_law_says, PySem.W.fnOf "_law_says" "_law_says" (defArgs s_law_says) (defBody s_law_says) (defScope s_law_says) .none kV_law_says dc_law_says pm_law_says an_law_says cd_law_says ct_law_says, f_law_deep, PySem.W.fnOf "_law_deep" "_law_deep" (defArgs s_law_deep) (defBody s_law_deep) (defScope s_law_deep) .none kV_law_deep dc_law_deep pm_law_deep an_law_deep cd_law_deep ct_law_deep, f_law_upto, PySem.W.fnOf "_law_upto" "_law_upto" (defArgs s_law_upto) (defBody s_law_upto) (defScope s_law_upto) .none kV_law_upto dc_law_upto pm_law_upto an_law_upto cd_law_upto ct_law_upto, f_law_is_key, PySem.W.fnOf "_law_is_key" "_law_is_key" (defArgs s_law_is_key) (defBody s_law_is_key) (defScope s_law_is_key) .none kV_law_is_key dc_law_is_key pm_law_is_key an_law_is_key cd_law_is_key ct_law_is_key, f_law_is_row, PySem.W.fnOf "_law_is_row" "_law_is_row" (defArgs s_law_is_row) (defBody s_law_is_row) (defScope s_law_is_row) .none kV_law_is_row dc_law_is_row pm_law_is_row an_law_is_row cd_law_is_row ct_law_is_row, f_law_is_past, PySem.W.fnOf "_law_is_past" "_law_is_past" (defArgs s_law_is_past) (defBody s_law_is_past) (defScope s_law_is_past) .none kV_law_is_past dc_law_is_past pm_law_is_past an_law_is_past cd_law_is_past ct_law_is_past, f_law_is_said, PySem.W.fnOf "_law_is_said" "_law_is_said" (defArgs s_law_is_said) (defBody s_law_is_said) (defScope s_law_is_said) .none kV_law_is_said dc_law_is_said pm_law_is_said an_law_is_said cd_law_is_said ct_law_is_said, f_law_is_letter, PySem.W.fnOf "_law_is_letter" "_law_is_letter" (defArgs s_law_is_letter) (defBody s_law_is_letter) (defScope s_law_is_letter) .none kV_law_is_letter dc_law_is_letter pm_law_is_letter an_law_is_letter cd_law_is_letter ct_law_is_letter, f_law_place, PySem.W.fnOf "_law_place" "_law_place" (defArgs s_law_place) (defBody s_law_place) (defScope s_law_place) .none kV_law_place dc_law_place pm_law_place an_law_place cd_law_place ct_law_place, f_law_line, PySem.W.fnOf "_law_line" "_law_line" (defArgs s_law_line) (defBody s_law_line) (defScope s_law_line) .none kV_law_line dc_law_line pm_law_line an_law_line cd_law_line ct_law_line, f_law_past, PySem.W.fnOf "_law_past" "_law_past" (defArgs s_law_past) (defBody s_law_past) (defScope s_law_past) .none kV_law_past dc_law_past pm_law_past an_law_past cd_law_past ct_law_past, f_law_said, PySem.W.fnOf "_law_said" "_law_said" (defArgs s_law_said) (defBody s_law_said) (defScope s_law_said) .none kV_law_said dc_law_said pm_law_said an_law_said cd_law_said ct_law_said, f_law_letter, PySem.W.fnOf "_law_letter" "_law_letter" (defArgs s_law_letter) (defBody s_law_letter) (defScope s_law_letter) .none kV_law_letter dc_law_letter pm_law_letter an_law_letter cd_law_letter ct_law_letter, f_law_odd, PySem.W.fnOf "_law_odd" "_law_odd" (defArgs s_law_odd) (defBody s_law_odd) (defScope s_law_odd) .none kV_law_odd dc_law_odd pm_law_odd an_law_odd cd_law_odd ct_law_odd, f_law_bent, PySem.W.fnOf "_law_bent" "_law_bent" (defArgs s_law_bent) (defBody s_law_bent) (defScope s_law_bent) .none kV_law_bent dc_law_bent pm_law_bent an_law_bent cd_law_bent ct_law_bent, f_law_applied_fits, PySem.W.fnOf "_law_applied_fits" "_law_applied_fits" (defArgs s_law_applied_fits) (defBody s_law_applied_fits) (defScope s_law_applied_fits) .none kV_law_applied_fits dc_law_applied_fits pm_law_applied_fits an_law_applied_fits cd_law_applied_fits ct_law_applied_fits, f_law, PySem.W.fnOf "law" "law" (defArgs s_law) (defBody s_law) (defScope s_law) .none kV_law dc_law pm_law an_law cd_law ct_law, u_HOUSES, u_LAST_LINE, u_LAST_PLACE, u_LETTERS, u_LINES, u_LONGEST_KEY, u_MOST⟩,
    ⟨sysK,
     ⟨PySem.W.mg_of X G v_HOUSES, r_HOUSES⟩,
     ⟨PySem.W.mg_of X G v_LAST_LINE, r_LAST_LINE⟩,
     ⟨PySem.W.mg_of X G v_LAST_PLACE, r_LAST_PLACE⟩,
     ⟨PySem.W.mg_of X G v_LETTERS, r_LETTERS⟩,
     ⟨PySem.W.mg_of X G v_LINES, r_LINES⟩,
     ⟨PySem.W.mg_of X G v_LONGEST_KEY, r_LONGEST_KEY⟩,
     ⟨PySem.W.mg_of X G v_MOST, r_MOST⟩,
     PySem.W.mg_none_of X G z_abs,
     PySem.W.mg_none_of X G z_all,
     PySem.W.mg_none_of X G z_bool,
     PySem.W.mg_none_of X G z_int,
     PySem.W.mg_none_of X G z_isinstance,
     PySem.W.mg_none_of X G z_len,
     PySem.W.mg_none_of X G z_list,
     PySem.W.mg_none_of X G z_min,
     PySem.W.mg_none_of X G z_range,
     PySem.W.mg_none_of X G z_repr,
     PySem.W.mg_none_of X G z_str,
     PySem.W.mg_none_of X G z_tuple,
     PySem.W.mg_none_of X G z_zip,
     fun_mk (st := s_is_number) l_is_number c_is_number k_is_number,
     PySem.W.mg_of X G a_is_number,
     k_is_number,
     (fun_mk (st := s_is_number) l_is_number c_is_number k_is_number).binds (ps := ["thing"]) fun _ _ _ _ _ _ us hl => match us, hl with | [_], _ => rfl,
     fun_mk (st := s_is_within) l_is_within c_is_within k_is_within,
     PySem.W.mg_of X G a_is_within,
     k_is_within,
     (fun_mk (st := s_is_within) l_is_within c_is_within k_is_within).binds (ps := ["thing", "least", "most"]) fun _ _ _ _ _ _ us hl => match us, hl with | [_, _, _], _ => rfl,
     fun_mk (st := s_is_place) l_is_place c_is_place k_is_place,
     PySem.W.mg_of X G a_is_place,
     k_is_place,
     (fun_mk (st := s_is_place) l_is_place c_is_place k_is_place).binds (ps := ["thing"]) fun _ _ _ _ _ _ us hl => match us, hl with | [_], _ => rfl,
     fun_mk (st := s_is_line) l_is_line c_is_line k_is_line,
     PySem.W.mg_of X G a_is_line,
     k_is_line,
     (fun_mk (st := s_is_line) l_is_line c_is_line k_is_line).binds (ps := ["thing"]) fun _ _ _ _ _ _ us hl => match us, hl with | [_], _ => rfl,
     fun_mk (st := s_is_line_and_place) l_is_line_and_place c_is_line_and_place k_is_line_and_place,
     PySem.W.mg_of X G a_is_line_and_place,
     k_is_line_and_place,
     (fun_mk (st := s_is_line_and_place) l_is_line_and_place c_is_line_and_place k_is_line_and_place).binds (ps := ["thing"]) fun _ _ _ _ _ _ us hl => match us, hl with | [_], _ => rfl,
     fun_mk (st := s_is_history) l_is_history c_is_history k_is_history,
     PySem.W.mg_of X G a_is_history,
     k_is_history,
     (fun_mk (st := s_is_history) l_is_history c_is_history k_is_history).binds (ps := ["thing"]) fun _ _ _ _ _ _ us hl => match us, hl with | [_], _ => rfl,
     fun_mk (st := s_is_key) l_is_key c_is_key k_is_key,
     PySem.W.mg_of X G a_is_key,
     k_is_key,
     (fun_mk (st := s_is_key) l_is_key c_is_key k_is_key).binds (ps := ["thing"]) fun _ _ _ _ _ _ us hl => match us, hl with | [_], _ => rfl,
     fun_mk (st := s_is_value) l_is_value c_is_value k_is_value,
     PySem.W.mg_of X G a_is_value,
     k_is_value,
     (fun_mk (st := s_is_value) l_is_value c_is_value k_is_value).binds (ps := ["thing"]) fun _ _ _ _ _ _ us hl => match us, hl with | [_], _ => rfl,
     fun_mk (st := s_is_word) l_is_word c_is_word k_is_word,
     PySem.W.mg_of X G a_is_word,
     k_is_word,
     (fun_mk (st := s_is_word) l_is_word c_is_word k_is_word).binds (ps := ["thing", "word"]) fun _ _ _ _ _ _ us hl => match us, hl with | [_, _], _ => rfl,
     fun_mk (st := s_is_set) l_is_set c_is_set k_is_set,
     PySem.W.mg_of X G a_is_set,
     k_is_set,
     (fun_mk (st := s_is_set) l_is_set c_is_set k_is_set).binds (ps := ["thing"]) fun _ _ _ _ _ _ us hl => match us, hl with | [_], _ => rfl,
     fun_mk (st := s_is_cut) l_is_cut c_is_cut k_is_cut,
     PySem.W.mg_of X G a_is_cut,
     k_is_cut,
     (fun_mk (st := s_is_cut) l_is_cut c_is_cut k_is_cut).binds (ps := ["thing"]) fun _ _ _ _ _ _ us hl => match us, hl with | [_], _ => rfl,
     fun_mk (st := s_is_row) l_is_row c_is_row k_is_row,
     PySem.W.mg_of X G a_is_row,
     k_is_row,
     (fun_mk (st := s_is_row) l_is_row c_is_row k_is_row).binds (ps := ["thing"]) fun _ _ _ _ _ _ us hl => match us, hl with | [_], _ => rfl,
     fun_mk (st := s_is_house) l_is_house c_is_house k_is_house,
     PySem.W.mg_of X G a_is_house,
     k_is_house,
     (fun_mk (st := s_is_house) l_is_house c_is_house k_is_house).kbinds (ps := ["thing", "houses"]) (ks := ["houses"]) rfl fun _ _ _ _ _ _ _ _ => rfl,
     fun_mk (st := s_is_saying) l_is_saying c_is_saying k_is_saying,
     PySem.W.mg_of X G a_is_saying,
     k_is_saying,
     (fun_mk (st := s_is_saying) l_is_saying c_is_saying k_is_saying).binds (ps := ["thing"]) fun _ _ _ _ _ _ us hl => match us, hl with | [_], _ => rfl,
     fun_mk (st := s_is_addressed) l_is_addressed c_is_addressed k_is_addressed,
     PySem.W.mg_of X G a_is_addressed,
     k_is_addressed,
     (fun_mk (st := s_is_addressed) l_is_addressed c_is_addressed k_is_addressed).binds (ps := ["thing"]) fun _ _ _ _ _ _ us hl => match us, hl with | [_], _ => rfl,
     fun_mk (st := s_is_want) l_is_want c_is_want k_is_want,
     PySem.W.mg_of X G a_is_want,
     k_is_want,
     (fun_mk (st := s_is_want) l_is_want c_is_want k_is_want).binds (ps := ["thing"]) fun _ _ _ _ _ _ us hl => match us, hl with | [_], _ => rfl,
     fun_mk (st := s_is_rows_letter) l_is_rows_letter c_is_rows_letter k_is_rows_letter,
     PySem.W.mg_of X G a_is_rows_letter,
     k_is_rows_letter,
     (fun_mk (st := s_is_rows_letter) l_is_rows_letter c_is_rows_letter k_is_rows_letter).binds (ps := ["thing"]) fun _ _ _ _ _ _ us hl => match us, hl with | [_], _ => rfl,
     fun_mk (st := s_is_gone) l_is_gone c_is_gone k_is_gone,
     PySem.W.mg_of X G a_is_gone,
     k_is_gone,
     (fun_mk (st := s_is_gone) l_is_gone c_is_gone k_is_gone).binds (ps := ["thing"]) fun _ _ _ _ _ _ us hl => match us, hl with | [_], _ => rfl,
     fun_mk (st := s_is_letter) l_is_letter c_is_letter k_is_letter,
     PySem.W.mg_of X G a_is_letter,
     k_is_letter,
     (fun_mk (st := s_is_letter) l_is_letter c_is_letter k_is_letter).binds (ps := ["thing"]) fun _ _ _ _ _ _ us hl => match us, hl with | [_], _ => rfl,
     fun_mk (st := s_law_state) l_law_state c_law_state k_law_state,
     PySem.W.mg_of X G a_law_state,
     k_law_state,
     (fun_mk (st := s_law_state) l_law_state c_law_state k_law_state).binds (ps := ["_law_script", "_law_seed"]) fun _ _ _ _ _ _ us hl => match us, hl with | [_, _], _ => rfl,
     fun_mk (st := s_law_next) l_law_next c_law_next k_law_next,
     PySem.W.mg_of X G a_law_next,
     k_law_next,
     (fun_mk (st := s_law_next) l_law_next c_law_next k_law_next).binds (ps := ["_law_state_here", "_law_below"]) fun _ _ _ _ _ _ us hl => match us, hl with | [_, _], _ => rfl,
     fun_mk (st := s_law_whole) l_law_whole c_law_whole k_law_whole,
     PySem.W.mg_of X G a_law_whole,
     k_law_whole,
     (fun_mk (st := s_law_whole) l_law_whole c_law_whole k_law_whole).binds (ps := ["_law_found"]) fun _ _ _ _ _ _ us hl => match us, hl with | [_], _ => rfl,
     fun_mk (st := s_law_key) l_law_key c_law_key k_law_key,
     PySem.W.mg_of X G a_law_key,
     k_law_key,
     (fun_mk (st := s_law_key) l_law_key c_law_key k_law_key).binds (ps := ["_law_state_here"]) fun _ _ _ _ _ _ us hl => match us, hl with | [_], _ => rfl,
     fun_mk (st := s_law_amount) l_law_amount c_law_amount k_law_amount,
     PySem.W.mg_of X G a_law_amount,
     k_law_amount,
     (fun_mk (st := s_law_amount) l_law_amount c_law_amount k_law_amount).binds (ps := ["_law_state_here"]) fun _ _ _ _ _ _ us hl => match us, hl with | [_], _ => rfl,
     fun_mk (st := s_law_row) l_law_row c_law_row k_law_row,
     PySem.W.mg_of X G a_law_row,
     k_law_row,
     (fun_mk (st := s_law_row) l_law_row c_law_row k_law_row).binds (ps := ["_law_state_here", "_law_keys_here"]) fun _ _ _ _ _ _ us hl => match us, hl with | [_, _], _ => rfl,
     fun_mk (st := s_law_keys) l_law_keys c_law_keys k_law_keys,
     PySem.W.mg_of X G a_law_keys,
     k_law_keys,
     (fun_mk (st := s_law_keys) l_law_keys c_law_keys k_law_keys).binds (ps := ["_law_state_here"]) fun _ _ _ _ _ _ us hl => match us, hl with | [_], _ => rfl,
     fun_mk (st := s_law_says) l_law_says c_law_says k_law_says,
     PySem.W.mg_of X G a_law_says,
     k_law_says,
     (fun_mk (st := s_law_says) l_law_says c_law_says k_law_says).binds (ps := ["_law_found", "_law_due"]) fun _ _ _ _ _ _ us hl => match us, hl with | [_, _], _ => rfl,
     fun_mk (st := s_law_deep) l_law_deep c_law_deep k_law_deep,
     PySem.W.mg_of X G a_law_deep,
     k_law_deep,
     (fun_mk (st := s_law_deep) l_law_deep c_law_deep k_law_deep).binds (ps := ["_law_many"]) fun _ _ _ _ _ _ us hl => match us, hl with | [_], _ => rfl,
     fun_mk (st := s_law_upto) l_law_upto c_law_upto k_law_upto,
     PySem.W.mg_of X G a_law_upto,
     k_law_upto,
     (fun_mk (st := s_law_upto) l_law_upto c_law_upto k_law_upto).binds (ps := ["_law_thing", "_law_most"]) fun _ _ _ _ _ _ us hl => match us, hl with | [_, _], _ => rfl,
     fun_mk (st := s_law_is_key) l_law_is_key c_law_is_key k_law_is_key,
     PySem.W.mg_of X G a_law_is_key,
     k_law_is_key,
     (fun_mk (st := s_law_is_key) l_law_is_key c_law_is_key k_law_is_key).binds (ps := ["_law_thing"]) fun _ _ _ _ _ _ us hl => match us, hl with | [_], _ => rfl,
     fun_mk (st := s_law_is_row) l_law_is_row c_law_is_row k_law_is_row,
     PySem.W.mg_of X G a_law_is_row,
     k_law_is_row,
     (fun_mk (st := s_law_is_row) l_law_is_row c_law_is_row k_law_is_row).binds (ps := ["_law_thing"]) fun _ _ _ _ _ _ us hl => match us, hl with | [_], _ => rfl,
     fun_mk (st := s_law_is_past) l_law_is_past c_law_is_past k_law_is_past,
     PySem.W.mg_of X G a_law_is_past,
     k_law_is_past,
     (fun_mk (st := s_law_is_past) l_law_is_past c_law_is_past k_law_is_past).binds (ps := ["_law_thing"]) fun _ _ _ _ _ _ us hl => match us, hl with | [_], _ => rfl,
     fun_mk (st := s_law_is_said) l_law_is_said c_law_is_said k_law_is_said,
     PySem.W.mg_of X G a_law_is_said,
     k_law_is_said,
     (fun_mk (st := s_law_is_said) l_law_is_said c_law_is_said k_law_is_said).binds (ps := ["_law_thing"]) fun _ _ _ _ _ _ us hl => match us, hl with | [_], _ => rfl,
     fun_mk (st := s_law_is_letter) l_law_is_letter c_law_is_letter k_law_is_letter,
     PySem.W.mg_of X G a_law_is_letter,
     k_law_is_letter,
     (fun_mk (st := s_law_is_letter) l_law_is_letter c_law_is_letter k_law_is_letter).binds (ps := ["_law_thing"]) fun _ _ _ _ _ _ us hl => match us, hl with | [_], _ => rfl,
     fun_mk (st := s_law_place) l_law_place c_law_place k_law_place,
     PySem.W.mg_of X G a_law_place,
     k_law_place,
     (fun_mk (st := s_law_place) l_law_place c_law_place k_law_place).binds (ps := ["_law_state_here"]) fun _ _ _ _ _ _ us hl => match us, hl with | [_], _ => rfl,
     fun_mk (st := s_law_line) l_law_line c_law_line k_law_line,
     PySem.W.mg_of X G a_law_line,
     k_law_line,
     (fun_mk (st := s_law_line) l_law_line c_law_line k_law_line).binds (ps := ["_law_state_here"]) fun _ _ _ _ _ _ us hl => match us, hl with | [_], _ => rfl,
     fun_mk (st := s_law_past) l_law_past c_law_past k_law_past,
     PySem.W.mg_of X G a_law_past,
     k_law_past,
     (fun_mk (st := s_law_past) l_law_past c_law_past k_law_past).binds (ps := ["_law_state_here"]) fun _ _ _ _ _ _ us hl => match us, hl with | [_], _ => rfl,
     fun_mk (st := s_law_said) l_law_said c_law_said k_law_said,
     PySem.W.mg_of X G a_law_said,
     k_law_said,
     (fun_mk (st := s_law_said) l_law_said c_law_said k_law_said).binds (ps := ["_law_state_here"]) fun _ _ _ _ _ _ us hl => match us, hl with | [_], _ => rfl,
     fun_mk (st := s_law_letter) l_law_letter c_law_letter k_law_letter,
     PySem.W.mg_of X G a_law_letter,
     k_law_letter,
     (fun_mk (st := s_law_letter) l_law_letter c_law_letter k_law_letter).binds (ps := ["_law_state_here"]) fun _ _ _ _ _ _ us hl => match us, hl with | [_], _ => rfl,
     fun_mk (st := s_law_odd) l_law_odd c_law_odd k_law_odd,
     PySem.W.mg_of X G a_law_odd,
     k_law_odd,
     (fun_mk (st := s_law_odd) l_law_odd c_law_odd k_law_odd).binds (ps := ["_law_state_here"]) fun _ _ _ _ _ _ us hl => match us, hl with | [_], _ => rfl,
     fun_mk (st := s_law_bent) l_law_bent c_law_bent k_law_bent,
     PySem.W.mg_of X G a_law_bent,
     k_law_bent,
     (fun_mk (st := s_law_bent) l_law_bent c_law_bent k_law_bent).binds (ps := ["_law_state_here", "_law_thing", "_law_depth"]) fun _ _ _ _ _ _ us hl => match us, hl with | [_, _, _], _ => rfl,
     fun_mk (st := s_law_applied_fits) l_law_applied_fits c_law_applied_fits k_law_applied_fits,
     PySem.W.mg_of X G a_law_applied_fits,
     k_law_applied_fits,
     (fun_mk (st := s_law_applied_fits) l_law_applied_fits c_law_applied_fits k_law_applied_fits).binds (ps := ["_law_thing"]) fun _ _ _ _ _ _ us hl => match us, hl with | [_], _ => rfl,
     fun_mk (st := s_law) l_law c_law k_law,
     PySem.W.mg_of X G a_law,
     k_law,
     (fun_mk (st := s_law) l_law c_law k_law).binds (ps := ["_law_script"]) fun _ _ _ _ _ _ us hl => match us, hl with | [_], _ => rfl,
     binds_peek1 dq_is_house,
     fun s u => .of_eq rfl⟩⟩
theorem all_ok {P : Program} {w : World} {K : PySem.W.Frag} {mg : Str → Option Value} {base : Heap} {a : Adr} (T : Txt P K mg a) : FnOk P w K mg base CX0 8 a.f_law a.d_law ["_law_script"] (sp_law K) := by
  have G_is_number : FnOk P w K mg base CX0 1 a.f_is_number a.d_is_number ["thing"] (sp_is_number K) := ok_is_number T 
  have G_is_key : FnOk P w K mg base CX0 1 a.f_is_key a.d_is_key ["thing"] (sp_is_key K) := ok_is_key T 
  have G_is_word : FnOk P w K mg base CX0 1 a.f_is_word a.d_is_word ["thing", "word"] (sp_is_word K) := ok_is_word T 
  have G__law_state : FnOk P w K mg base CX0 1 a.f_law_state a.d_law_state ["_law_script", "_law_seed"] (sp_law_state K) := ok_law_state T 
  have G__law_next : FnOk P w K mg base CX0 1 a.f_law_next a.d_law_next ["_law_state_here", "_law_below"] (sp_law_next K) := ok_law_next T 
  have G__law_whole : FnOk P w K mg base CX0 1 a.f_law_whole a.d_law_whole ["_law_found"] (sp_law_whole K) := ok_law_whole T 
  have G__law_says : FnOk P w K mg base CX0 1 a.f_law_says a.d_law_says ["_law_found", "_law_due"] (sp_law_says K) := ok_law_says T 
  have G__law_deep : FnOk P w K mg base CX0 1 a.f_law_deep a.d_law_deep ["_law_many"] (sp_law_deep K) := ok_law_deep T 
  have G__law_is_key : FnOk P w K mg base CX0 1 a.f_law_is_key a.d_law_is_key ["_law_thing"] (sp_law_is_key K) := ok_law_is_key T 
  have G_is_within : FnOk P w K mg base CX0 2 a.f_is_within a.d_is_within ["thing", "least", "most"] (sp_is_within K) := ok_is_within T G_is_number
  have G_is_cut : FnOk P w K mg base CX0 2 a.f_is_cut a.d_is_cut ["thing"] (sp_is_cut K) := ok_is_cut T G_is_key G_is_word
  have G__law_key : FnOk P w K mg base CX0 2 a.f_law_key a.d_law_key ["_law_state_here"] (sp_law_key K) := ok_law_key T G__law_next
  have G__law_amount : FnOk P w K mg base CX0 2 a.f_law_amount a.d_law_amount ["_law_state_here"] (sp_law_amount K) := ok_law_amount T G__law_next
  have G__law_upto : FnOk P w K mg base CX0 2 a.f_law_upto a.d_law_upto ["_law_thing", "_law_most"] (sp_law_upto K) := ok_law_upto T G__law_whole
  have G__law_is_row : FnOk P w K mg base CX0 2 a.f_law_is_row a.d_law_is_row ["_law_thing"] (sp_law_is_row K) := ok_law_is_row T G__law_is_key G__law_whole
  have G__law_place : FnOk P w K mg base CX0 2 a.f_law_place a.d_law_place ["_law_state_here"] (sp_law_place K) := ok_law_place T G__law_next
  have G__law_line : FnOk P w K mg base CX0 2 a.f_law_line a.d_law_line ["_law_state_here"] (sp_law_line K) := ok_law_line T G__law_next
  have G__law_past : FnOk P w K mg base CX0 2 a.f_law_past a.d_law_past ["_law_state_here"] (sp_law_past K) := ok_law_past T G__law_next
  have G__law_odd : FnOk P w K mg base CX0 2 a.f_law_odd a.d_law_odd ["_law_state_here"] (sp_law_odd K) := ok_law_odd T G__law_deep G__law_next
  have G__law_applied_fits : FnOk P w K mg base CX0 2 a.f_law_applied_fits a.d_law_applied_fits ["_law_thing"] (sp_law_applied_fits K) := ok_law_applied_fits T G__law_whole
  have G_is_place : FnOk P w K mg base CX0 3 a.f_is_place a.d_is_place ["thing"] (sp_is_place K) := ok_is_place T G_is_within
  have G_is_line : FnOk P w K mg base CX0 3 a.f_is_line a.d_is_line ["thing"] (sp_is_line K) := ok_is_line T G_is_within
  have G_is_value : FnOk P w K mg base CX0 3 a.f_is_value a.d_is_value ["thing"] (sp_is_value K) := ok_is_value T G_is_within
  have G_is_house : FnOk P w K mg base CX0 3 a.f_is_house a.d_is_house ["thing", "houses"] (sp_is_house K) := ok_is_house T G_is_within
  have G__law_row : FnOk P w K mg base CX0 3 a.f_law_row a.d_law_row ["_law_state_here", "_law_keys_here"] (sp_law_row K) := ok_law_row T G__law_amount G__law_next
  have G__law_keys : FnOk P w K mg base CX0 3 a.f_law_keys a.d_law_keys ["_law_state_here"] (sp_law_keys K) := ok_law_keys T G__law_key G__law_next
  have G__law_is_past : FnOk P w K mg base CX0 3 a.f_law_is_past a.d_law_is_past ["_law_thing"] (sp_law_is_past K) := ok_law_is_past T G__law_upto
  have G__law_is_said : FnOk P w K mg base CX0 3 a.f_law_is_said a.d_law_is_said ["_law_thing"] (sp_law_is_said K) := ok_law_is_said T G__law_upto
  have G__law_said : FnOk P w K mg base CX0 3 a.f_law_said a.d_law_said ["_law_state_here"] (sp_law_said K) := ok_law_said T G__law_line G__law_next G__law_place
  have G_is_line_and_place : FnOk P w K mg base CX0 4 a.f_is_line_and_place a.d_is_line_and_place ["thing"] (sp_is_line_and_place K) := ok_is_line_and_place T G_is_line G_is_place
  have G_is_set : FnOk P w K mg base CX0 4 a.f_is_set a.d_is_set ["thing"] (sp_is_set K) := ok_is_set T G_is_key G_is_value G_is_word
  have G_is_saying : FnOk P w K mg base CX0 4 a.f_is_saying a.d_is_saying ["thing"] (sp_is_saying K) := ok_is_saying T G_is_house G_is_line G_is_place G_is_within
  have G_is_addressed : FnOk P w K mg base CX0 4 a.f_is_addressed a.d_is_addressed ["thing"] (sp_is_addressed K) := ok_is_addressed T G_is_house G_is_number
  have G_is_gone : FnOk P w K mg base CX0 4 a.f_is_gone a.d_is_gone ["thing"] (sp_is_gone K) := ok_is_gone T G_is_place G_is_word
  have G__law_is_letter : FnOk P w K mg base CX0 4 a.f_law_is_letter a.d_law_is_letter ["_law_thing"] (sp_law_is_letter K) := ok_law_is_letter T G__law_is_past G__law_is_row G__law_is_said G__law_upto G__law_whole
  have G__law_letter : FnOk P w K mg base CX0 4 a.f_law_letter a.d_law_letter ["_law_state_here"] (sp_law_letter K) := ok_law_letter T G__law_keys G__law_next G__law_past G__law_place G__law_row G__law_said
  have G_is_history : FnOk P w K mg base CX0 5 a.f_is_history a.d_is_history ["thing"] (sp_is_history K) := ok_is_history T G_is_line_and_place
  have G_is_row : FnOk P w K mg base CX0 5 a.f_is_row a.d_is_row ["thing"] (sp_is_row K) := ok_is_row T G_is_cut G_is_set
  have G_is_want : FnOk P w K mg base CX0 5 a.f_is_want a.d_is_want ["thing"] (sp_is_want K) := ok_is_want T G_is_saying G_is_word
  have G_is_rows_letter : FnOk P w K mg base CX0 6 a.f_is_rows_letter a.d_is_rows_letter ["thing"] (sp_is_rows_letter K) := ok_is_rows_letter T G_is_history G_is_place G_is_row G_is_word
  have G_is_letter : FnOk P w K mg base CX0 7 a.f_is_letter a.d_is_letter ["thing"] (sp_is_letter K) := ok_is_letter T G_is_addressed G_is_gone G_is_rows_letter G_is_want
  have G__law_bent : FnOk P w K mg base CX0 7 a.f_law_bent a.d_law_bent ["_law_state_here", "_law_thing", "_law_depth"] (sp_law_bent K) := ok_law_bent T G__law_next G__law_odd G__law_whole
  have G_law : FnOk P w K mg base CX0 8 a.f_law a.d_law ["_law_script"] (sp_law K) := ok_law T G__law_applied_fits G__law_bent G__law_is_letter G__law_letter G__law_odd G__law_says G__law_state G__law_whole G_is_letter
  exact G_law
end My
open PySem PySem.W PyProof.Rows
set_option maxRecDepth 100000 in
set_option maxHeartbeats 0 in
theorem PySem.Challenge.cw_laterline_k46_letters_or_not_holds : PySem.Challenge.rw_laterline_k46_letters_or_not.Holds := by
  w_on; o_law
  refine PySem.W.holds_open (q := My.vw) (loose := My.lo) (Xt := My.xt) (XP := PySem.W.XL My.vw My.lv) (Yf := (PySem.W.kHook My.KF My.KA My.ke).obs) (Ya := (PySem.W.kHook My.KF My.KA My.ke).val) (YP := (PySem.W.kHook My.KF My.KA My.ke).says) (N := 2942) My.left (PySem.W.kHook My.KF My.KA My.ke).of (PySem.W.kHook My.KF My.KA My.ke).keeps (fun s e => PySem.W.xl_of s (Bool.and_eq_true_iff.mp e).1) PySem.W.XL.keeps (by rfl) (by rfl) (by rfl) (fun s e => PySem.W.recFacts_of (Bool.and_eq_true_iff.mp e).2) (by rfl) (by first | assumption | decide +kernel) (by decide +kernel) ⟨rfl, rfl, rfl, rfl, rfl, by decide +kernel⟩ ?hw ?hc
  case hw => w_witness2
  k_fill
  refine L2.walk_ofK (l := PySem.Challenge.rw_laterline_k46_letters_or_not) (n := 63) (k := 8) (x := "_law_script") (CX := L2.CX0) (sp := My.sp_law) rfl (by decide) rfl ⟨rfl, by decide, by decide, rfl⟩ (fun w h Y => PySem.W.kIn_of Y) ?F ?S ?C
  case F =>
    intro w mg fa h KX G hmg
    have T : ∃ a, My.Txt (PySem.Challenge.rw_laterline_k46_letters_or_not).prog (L2.KOf KX) mg a := by
      dsimp only [L2.KOf]
      refine' My.txt_mk KX G ?a_is_number ?l_is_number ?c_is_number ?k_is_number ?a_is_within ?l_is_within ?c_is_within ?k_is_within ?a_is_place ?l_is_place ?c_is_place ?k_is_place ?a_is_line ?l_is_line ?c_is_line ?k_is_line ?a_is_line_and_place ?l_is_line_and_place ?c_is_line_and_place ?k_is_line_and_place ?a_is_history ?l_is_history ?c_is_history ?k_is_history ?a_is_key ?l_is_key ?c_is_key ?k_is_key ?a_is_value ?l_is_value ?c_is_value ?k_is_value ?a_is_word ?l_is_word ?c_is_word ?k_is_word ?a_is_set ?l_is_set ?c_is_set ?k_is_set ?a_is_cut ?l_is_cut ?c_is_cut ?k_is_cut ?a_is_row ?l_is_row ?c_is_row ?k_is_row ?a_is_house ?l_is_house ?c_is_house ?k_is_house ?a_is_saying ?l_is_saying ?c_is_saying ?k_is_saying ?a_is_addressed ?l_is_addressed ?c_is_addressed ?k_is_addressed ?a_is_want ?l_is_want ?c_is_want ?k_is_want ?a_is_rows_letter ?l_is_rows_letter ?c_is_rows_letter ?k_is_rows_letter ?a_is_gone ?l_is_gone ?c_is_gone ?k_is_gone ?a_is_letter ?l_is_letter ?c_is_letter ?k_is_letter ?a_law_state ?l_law_state ?c_law_state ?k_law_state ?a_law_next ?l_law_next ?c_law_next ?k_law_next ?a_law_whole ?l_law_whole ?c_law_whole ?k_law_whole ?a_law_key ?l_law_key ?c_law_key ?k_law_key ?a_law_amount ?l_law_amount ?c_law_amount ?k_law_amount ?a_law_row ?l_law_row ?c_law_row ?k_law_row ?a_law_keys ?l_law_keys ?c_law_keys ?k_law_keys ?a_law_says ?l_law_says ?c_law_says ?k_law_says ?a_law_deep ?l_law_deep ?c_law_deep ?k_law_deep ?a_law_upto ?l_law_upto ?c_law_upto ?k_law_upto ?a_law_is_key ?l_law_is_key ?c_law_is_key ?k_law_is_key ?a_law_is_row ?l_law_is_row ?c_law_is_row ?k_law_is_row ?a_law_is_past ?l_law_is_past ?c_law_is_past ?k_law_is_past ?a_law_is_said ?l_law_is_said ?c_law_is_said ?k_law_is_said ?a_law_is_letter ?l_law_is_letter ?c_law_is_letter ?k_law_is_letter ?a_law_place ?l_law_place ?c_law_place ?k_law_place ?a_law_line ?l_law_line ?c_law_line ?k_law_line ?a_law_past ?l_law_past ?c_law_past ?k_law_past ?a_law_said ?l_law_said ?c_law_said ?k_law_said ?a_law_letter ?l_law_letter ?c_law_letter ?k_law_letter ?a_law_odd ?l_law_odd ?c_law_odd ?k_law_odd ?a_law_bent ?l_law_bent ?c_law_bent ?k_law_bent ?a_law_applied_fits ?l_law_applied_fits ?c_law_applied_fits ?k_law_applied_fits ?a_law ?l_law ?c_law ?k_law ?z_abs ?z_all ?z_bool ?z_int ?z_isinstance ?z_len ?z_list ?z_min ?z_range ?z_repr ?z_str ?z_tuple ?z_zip ?rr_sysK ?v_HOUSES ?r_HOUSES ?v_LAST_LINE ?r_LAST_LINE ?v_LAST_PLACE ?r_LAST_PLACE ?v_LETTERS ?r_LETTERS ?v_LINES ?r_LINES ?v_LONGEST_KEY ?r_LONGEST_KEY ?v_MOST ?r_MOST ?rq_dq_is_house
      (case a_is_number => k_is)
      (case l_is_number => k_is)
      (case c_is_number => k_is)
      (case k_is_number => k_is)
      (case a_is_within => k_is)
      (case l_is_within => k_is)
      (case c_is_within => k_is)
      (case k_is_within => k_is)
      (case a_is_place => k_is)
      (case l_is_place => k_is)
      (case c_is_place => k_is)
      (case k_is_place => k_is)
      (case a_is_line => k_is)
      (case l_is_line => k_is)
      (case c_is_line => k_is)
      (case k_is_line => k_is)
      (case a_is_line_and_place => k_is)
      (case l_is_line_and_place => k_is)
      (case c_is_line_and_place => k_is)
      (case k_is_line_and_place => k_is)
      (case a_is_history => k_is)
      (case l_is_history => k_is)
      (case c_is_history => k_is)
      (case k_is_history => k_is)
      (case a_is_key => k_is)
      (case l_is_key => k_is)
      (case c_is_key => k_is)
      (case k_is_key => k_is)
      (case a_is_value => k_is)
      (case l_is_value => k_is)
      (case c_is_value => k_is)
      (case k_is_value => k_is)
      (case a_is_word => k_is)
      (case l_is_word => k_is)
      (case c_is_word => k_is)
      (case k_is_word => k_is)
      (case a_is_set => k_is)
      (case l_is_set => k_is)
      (case c_is_set => k_is)
      (case k_is_set => k_is)
      (case a_is_cut => k_is)
      (case l_is_cut => k_is)
      (case c_is_cut => k_is)
      (case k_is_cut => k_is)
      (case a_is_row => k_is)
      (case l_is_row => k_is)
      (case c_is_row => k_is)
      (case k_is_row => k_is)
      (case a_is_house => k_is)
      (case l_is_house => k_is)
      (case c_is_house => k_is)
      (case k_is_house => k_is)
      (case a_is_saying => k_is)
      (case l_is_saying => k_is)
      (case c_is_saying => k_is)
      (case k_is_saying => k_is)
      (case a_is_addressed => k_is)
      (case l_is_addressed => k_is)
      (case c_is_addressed => k_is)
      (case k_is_addressed => k_is)
      (case a_is_want => k_is)
      (case l_is_want => k_is)
      (case c_is_want => k_is)
      (case k_is_want => k_is)
      (case a_is_rows_letter => k_is)
      (case l_is_rows_letter => k_is)
      (case c_is_rows_letter => k_is)
      (case k_is_rows_letter => k_is)
      (case a_is_gone => k_is)
      (case l_is_gone => k_is)
      (case c_is_gone => k_is)
      (case k_is_gone => k_is)
      (case a_is_letter => k_is)
      (case l_is_letter => k_is)
      (case c_is_letter => k_is)
      (case k_is_letter => k_is)
      (case a_law_state => k_is)
      (case l_law_state => k_is)
      (case c_law_state => k_is)
      (case k_law_state => k_is)
      (case a_law_next => k_is)
      (case l_law_next => k_is)
      (case c_law_next => k_is)
      (case k_law_next => k_is)
      (case a_law_whole => k_is)
      (case l_law_whole => k_is)
      (case c_law_whole => k_is)
      (case k_law_whole => k_is)
      (case a_law_key => k_is)
      (case l_law_key => k_is)
      (case c_law_key => k_is)
      (case k_law_key => k_is)
      (case a_law_amount => k_is)
      (case l_law_amount => k_is)
      (case c_law_amount => k_is)
      (case k_law_amount => k_is)
      (case a_law_row => k_is)
      (case l_law_row => k_is)
      (case c_law_row => k_is)
      (case k_law_row => k_is)
      (case a_law_keys => k_is)
      (case l_law_keys => k_is)
      (case c_law_keys => k_is)
      (case k_law_keys => k_is)
      (case a_law_says => k_is)
      (case l_law_says => k_is)
      (case c_law_says => k_is)
      (case k_law_says => k_is)
      (case a_law_deep => k_is)
      (case l_law_deep => k_is)
      (case c_law_deep => k_is)
      (case k_law_deep => k_is)
      (case a_law_upto => k_is)
      (case l_law_upto => k_is)
      (case c_law_upto => k_is)
      (case k_law_upto => k_is)
      (case a_law_is_key => k_is)
      (case l_law_is_key => k_is)
      (case c_law_is_key => k_is)
      (case k_law_is_key => k_is)
      (case a_law_is_row => k_is)
      (case l_law_is_row => k_is)
      (case c_law_is_row => k_is)
      (case k_law_is_row => k_is)
      (case a_law_is_past => k_is)
      (case l_law_is_past => k_is)
      (case c_law_is_past => k_is)
      (case k_law_is_past => k_is)
      (case a_law_is_said => k_is)
      (case l_law_is_said => k_is)
      (case c_law_is_said => k_is)
      (case k_law_is_said => k_is)
      (case a_law_is_letter => k_is)
      (case l_law_is_letter => k_is)
      (case c_law_is_letter => k_is)
      (case k_law_is_letter => k_is)
      (case a_law_place => k_is)
      (case l_law_place => k_is)
      (case c_law_place => k_is)
      (case k_law_place => k_is)
      (case a_law_line => k_is)
      (case l_law_line => k_is)
      (case c_law_line => k_is)
      (case k_law_line => k_is)
      (case a_law_past => k_is)
      (case l_law_past => k_is)
      (case c_law_past => k_is)
      (case k_law_past => k_is)
      (case a_law_said => k_is)
      (case l_law_said => k_is)
      (case c_law_said => k_is)
      (case k_law_said => k_is)
      (case a_law_letter => k_is)
      (case l_law_letter => k_is)
      (case c_law_letter => k_is)
      (case k_law_letter => k_is)
      (case a_law_odd => k_is)
      (case l_law_odd => k_is)
      (case c_law_odd => k_is)
      (case k_law_odd => k_is)
      (case a_law_bent => k_is)
      (case l_law_bent => k_is)
      (case c_law_bent => k_is)
      (case k_law_bent => k_is)
      (case a_law_applied_fits => k_is)
      (case l_law_applied_fits => k_is)
      (case c_law_applied_fits => k_is)
      (case k_law_applied_fits => k_is)
      (case a_law => k_is)
      (case l_law => k_is)
      (case c_law => k_is)
      (case k_law => k_is)
      (case z_abs => k_is)
      (case z_all => k_is)
      (case z_bool => k_is)
      (case z_int => k_is)
      (case z_isinstance => k_is)
      (case z_len => k_is)
      (case z_list => k_is)
      (case z_min => k_is)
      (case z_range => k_is)
      (case z_repr => k_is)
      (case z_str => k_is)
      (case z_tuple => k_is)
      (case z_zip => k_is)
      (case rr_sysK => kernel_rfl)
      (case v_HOUSES => k_is)
      (case r_HOUSES => exact ⟨_, rfl⟩)
      (case v_LAST_LINE => k_is)
      (case r_LAST_LINE => exact ⟨_, rfl⟩)
      (case v_LAST_PLACE => k_is)
      (case r_LAST_PLACE => exact ⟨_, rfl⟩)
      (case v_LETTERS => k_is)
      (case r_LETTERS => exact ⟨_, rfl⟩)
      (case v_LINES => k_is)
      (case r_LINES => exact ⟨_, rfl⟩)
      (case v_LONGEST_KEY => k_is)
      (case r_LONGEST_KEY => exact ⟨_, rfl⟩)
      (case v_MOST => k_is)
      (case r_MOST => exact ⟨_, rfl⟩)
      (case rq_dq_is_house => intro u S; kernel_rfl)
    obtain ⟨a, T⟩ := T
    have e0 := hmg.symm.trans T.m_law
    cases e0
    exact ⟨_, T.bl_law, fun base kb nb => My.all_ok T⟩
  case S => exact fun K H a ns hl hO hS => ⟨a, ns, rfl, hS, hl, fun _ => rfl⟩
  case C => exact fun _ _ _ _ z => z
