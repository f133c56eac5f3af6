import PyProof.Rows.All
import Wide.All
import OpenK.AllK
import Wide.FinOn
import Lean
import PyProof.EqAt
import PyProof.EqKinds
import PyProof.TupleCall
import KE.KTryMore
import PyProof.NsDelKeeps
import OpenK.KOwn
import PyProof.ExcClass3
import KE.KSuper
import PyProof.InstStoreFacts
import PyProof.ExcArgsOwn
import PyProof.ExcAttrAll.ValueError
import KE.KIsAll
import PyProof.EnumFor
import PyProof.EnumStmt
import PyProof.EnumIter
import KE.KStar
import KE.KUnpack
import PyProof.ListRange
import PyProof.P3In
import PyProof.Rows.SortShell
import PyProof.Rows.SortWalk
import PyProof.SeqI3
import PyProof.WalkInts
import KE.KRevIter
import PyProof.CollectIter
import PyProof.TupleOfGen
import KE.KDictSum
import KE.KDictOf
import KE.KEqDict
import PyProof.AttrMissHeap
import KE.KPar
import KE.KSortTup
import PyProof.DictWalks
import PyProof.DictCompW
import PyProof.Rows.SortRev
import PyProof.Rows.CallKwBuiltin
import PySem.Challenge.RW_laterline_k31_slots_in_turn
set_option Elab.async false
set_option linter.all false
set_option maxRecDepth 100000
namespace Hd
open PySem PySem.W
noncomputable def topT (tb:String→Option Builtin) (p:Program) (w:World) (n₀:Nat) (ann:Option Value):Nat→SharedT→Thread→Option SharedT
  | 0,_,_=>none
  | n + 1,s,t=>match through t with
    | true=>some s
    | false=>match stepOk n₀ ann t with
      | false=>none
      | true=>match stepT (denote tb) p w s t with
        | some (s',t')=>topT tb p w n₀ ann n s' t'
        | none=>none
theorem topT_spec {tb:String→Option Builtin}{p:Program}{w:World}{n₀:Nat}{ann:Option Value}:∀ {n:Nat}{s s':SharedT}{t:Thread},topT tb p w n₀ ann n s t=some s'→topRun tb p w n₀ ann n s.abs t=some s'.abs
  | 0,_,_,_,h=>by cases h
  | n + 1,s,s',t,h=>by
    unfold topT at h
    unfold topRun
    cases e1:through t with
    | true=>rw [e1] at h; cases h; rfl
    | false =>
      rw [e1] at h
      cases e2:stepOk n₀ ann t with
      | false=>rw [e2] at h; cases h
      | true =>
        rw [e2] at h
        dsimp only at h ⊢
        cases e3:stepT (denote tb) p w s t with
        | none=>rw [e3] at h; cases h
        | some q =>
          obtain ⟨s1,t1⟩:=q
          rw [e3] at h
          rw [stepT_spec e3]
          exact topT_spec h
noncomputable def btOf (l:List Obj):BT:=(l.foldl (fun (q:BT×Nat) o=>(q.1.ins q.2 o,q.2 + 1)) (BT.nil,0)).1
noncomputable def start0 (P:Params) (os:OsState):SharedT:=⟨btOf (boot_heap P).objs.toList,(boot_heap P).objs.size,(boot_heap P).life,Array.mk [],boot_drawn,boot_toks,os⟩
theorem start_abs (P:Params) (os:OsState):(start0 P os).abs = ⟨boot_heap P,Array.mk [],boot_drawn,boot_toks,os⟩:=by kernel_rfl
theorem boot_is (P:Params):((boot_heap P).isNs mainGlobals && (Array.mk []:Array GenState).size == 0)=true:=by kernel_rfl
theorem left_of {p q:Program}{loose:List Str}{Xt:Shared→Bool}{α:Type}{Yf:Shared→α}{Ya:World→α}{N:Nat}(ho:opening p=plainProg p.main.scope.names) (hN:Nat.ble 600 N=true) (hf:∀ s,fenceModules? p s=some s)
    (run:∀ (w:World) (os:OsState),(topT treeTable p w (boot_heap w.params).objs.size ((boot_heap w.params).nsMap mainGlobals "__annotations__") N (start0 w.params os) (topStub p)).map (fun s =>
        ((staticsOk (importedModules p.main.body) (boot_heap w.params) s.abs.heap && namesBound p s.abs.heap && gensDone s.abs && laidKept (boot_heap w.params) s.abs.heap),openSeen q loose (importedModules p.main.body) Xt true s.abs,Yf s.abs))=some (true,openGood q loose,Ya w)) :
    LeftO p q loose Xt Yf Ya N:=fun w=>by
  obtain ⟨⟨h,gs,d,k,os⟩,e,e'⟩:=Option.map_eq_some_iff.mp (boot_open (N:=N) ho hN hf w)
  obtain ⟨rfl,rfl,rfl,rfl⟩:h=boot_heap w.params∧gs=Array.mk []∧d=boot_drawn∧k=boot_toks:=by simpa using e'
  obtain ⟨s,r1,r2⟩:=Option.map_eq_some_iff.mp (run w os)
  obtain ⟨l1,l2,l3⟩:_∧_∧_:=by simpa only [Prod.mk.injEq] using r2
  have r:=topT_spec r1
  rw [start_abs] at r
  have t:topFrom treeTable p w N ⟨boot_heap w.params,Array.mk [],boot_drawn,boot_toks,os⟩ = some s.abs:=by
    unfold topFrom
    dsimp only
    rw [boot_is,r]
    show (match staticsOk (importedModules p.main.body) (boot_heap w.params) s.abs.heap && namesBound p s.abs.heap && gensDone s.abs && laidKept (boot_heap w.params) s.abs.heap with | true=>some s.abs | false=>none)=_
    rw [l1]
  unfold openEnds
  rw [e]
  show (topFrom treeTable p w N _).map _=_
  rw [t]
  exact congrArg some (Prod.ext l2 l3)
noncomputable def inCls (s:Stmt) (j:Nat):Stmt:=match s with
  | .ClassDef _ _ _ b _ _ _ _ _ _ _=>b.getD j (.Pass ⟨0,0,0,0⟩)
  | z=>z
noncomputable def dArgs (s:Stmt):Arguments:=match s with
  | .FunctionDef _ a _ _ _ _ _ _ _ _=>a
  | _=>⟨[],[],none,[],[],none,[]⟩
noncomputable def dBody (s:Stmt):List Stmt:=match s with
  | .FunctionDef _ _ b _ _ _ _ _ _ _=>b
  | _=>[]
noncomputable def dScope (s:Stmt):Scope:=match s with
  | .FunctionDef _ _ _ _ _ _ c _ _ _=>c
  | _=>{ kind:=.function,names:=[],isGenerator:=false,isCoroutine:=false }
end Hd
namespace My
open PySem PyProof.Rows
noncomputable def top (i:Nat):Stmt:=PySem.Challenge.pw_laterline_k31_slots_in_turn.main.body.getD i (.Pass ⟨0,0,0,0⟩)
noncomputable abbrev qS (s:String):Str:=Str.ofString s
noncomputable abbrev vS (s:String) (t:Nat):Value:=.str (Str.ofString s) t
noncomputable abbrev dE (P:Params) (s:String) (t:Nat) (v:Value):DictEntry:=⟨PyData.keyHash P (Str.ofString s),.str (Str.ofString s) t,v⟩
noncomputable abbrev tO (xs:Array Value):PySem.Obj:=⟨.type "tuple",none,.seq xs 0,#[]⟩
noncomputable abbrev oO (c:Value) (d:Data):PySem.Obj:=⟨c,none,d,#[]⟩
noncomputable abbrev vN :Value:=Value.none
noncomputable abbrev vT :Value:=.bool Bool.true
noncomputable abbrev vC (t:Nat):Value:=vS "/claim/cut.py" t
noncomputable abbrev vZ (i:Int):Value:=.int i 0
noncomputable def KF:PySem.Params→PySem.W.Frag:=fun P =>
  (nat_lit 2,(oO vN (Data.dict #[] 0))) ::
  (nat_lit 3,(oO (.type "dict") (Data.dict #[(dE P "__name__" 165 (vS "law_laterline_k31_slots_in_turn" 540)),(dE P "__doc__" 166 vN),(dE P "__package__" 167 vN),(dE P "__loader__" 168 (Value.builtin "__main__.__loader__#opaque")),(dE P "__spec__" 169 vN),(dE P "__annotations__" 170 (.ref 6)),(dE P "__builtins__" 171 (.ref 4)),(dE P "__file__" 173 (vC 172)),(dE P "__cached__" 174 vN),(dE P "LineError" 206 (.ref 24)),(dE P "NoRow" 231 (.ref 46)),(dE P "NoKey" 256 (.ref 67)),(dE P "NoPlace" 283 (.ref 88)),(dE P "NoHouse" 310 (.ref 109)),(dE P "NoRule" 335 (.ref 130)),(dE P "NoCount" 362 (.ref 151)),(dE P "LAST_PLACE" 368 (.int 1000000 367)),(dE P "is_number" 375 (.ref 160)),(dE P "is_within" 384 (.ref 167)),(dE P "require_within" 394 (.ref 174)),(dE P "is_place" 401 (.ref 181)),(dE P "require_place" 410 (.ref 188)),(dE P "HOUSES" 414 (.int 8 413)),(dE P "is_house" 423 (.ref 196)),(dE P "require_house" 432 (.ref 204)),(dE P "MOST_ROOM" 436 (.int 400 435)),(dE P "require_room" 443 (.ref 211)),(dE P "cut_of" 449 (.ref 216)),(dE P "Slots" 539 (.ref 280)),(dE P "_law_deck" 547 (.ref 289)),(dE P "_law_take" 561 (.ref 296)),(dE P "_law_same" 571 (.ref 303)),(dE P "_law_names" 577 (.ref 308)),(dE P "_law_caught" 589 (.ref 315)),(dE P "_law_refused" 601 (.ref 322)),(dE P "_law_place" 608 (.ref 329)),(dE P "_law_odd" 617 (.ref 336)),(dE P "_law_wrong" 629 (.ref 343)),(dE P "_law_cuts" 635 (.ref 348)),(dE P "_law_put" 641 (.ref 353)),(dE P "_law_deed" 647 (.ref 358)),(dE P "_law_looks" 655 (.ref 365)),(dE P "_law_room" 662 (.ref 372)),(dE P "_law_no_room" 673 (.ref 379)),(dE P "law" 690 (.ref 386))] 45))) ::
  (nat_lit 15,(tO #[(.type "ValueError")])) ::
  (nat_lit 22,(tO #[])) ::
  (nat_lit 23,(oO (.type "dict") (Data.dict #[(dE P "__module__" 196 (vS "laterline.errors" 187)),(dE P "__firstlineno__" 200 (.int 2 199)),(dE P "__static_attributes__" 201 (.ref 22)),(dE P "__weakref__" 203 (.ref 25)),(dE P "__doc__" 204 vN)] 3))) ::
  (nat_lit 24,(Obj.mk (.type "type") none (Data.cls (ClassData.mk (qS "LineError") [(.type "ValueError")] [(.ref 24),(.type "ValueError"),(.type "Exception"),(.type "BaseException"),(.type "object")] 23 (qS "LineError") Bool.true [] [(.ref 46),(.ref 67),(.ref 88),(.ref 109),(.ref 130),(.ref 151)] Bool.false none Bool.false)) #[(some (.ref 15)),none,(some (vS "LineError" 189)),(some (vS "LineError" 197)),(some (Value.builtin "ValueError.__new__")),(some vT)])) ::
  (nat_lit 25,(oO (.type "getset_descriptor") (Data.fields #[(vS "__weakref__" 202),(.ref 24),(Value.builtin "ExceptionGroup.__weakref__"),vN]))) ::
  (nat_lit 28,(tO #[(.ref 24)])) ::
  (nat_lit 31,(oO (.type "cell") (Data.cell (some (.ref 46))))) ::
  (nat_lit 36,(tO #[(.ref 31)])) ::
  (nat_lit 37,(tO #[(vS "__class__" 222)])) ::
  (nat_lit 39,(tO #[(vS "self" 223)])) ::
  (nat_lit 40,(tO #[])) ::
  (nat_lit 42,(oO (.type "code") (Data.fields #[(vS "__init__" 219),(vS "NoRow.__init__" 220),(vC 221),(vZ 6),(vZ 1),(vZ 0),(vZ 0),(vZ 3),(.ref 37),vT,(vZ 181),(.ref 38),vN,(.ref 39),(.ref 40),(.ref 41),(vZ 224),(vZ 6),(vC 225)]))) ::
  (nat_lit 43,(oO (.type "function") (Data.func (FuncData.mk (qS "__init__") (qS "NoRow.__init__") (Hd.dArgs (Hd.inCls (top 2) 0)) (.stmts (Hd.dBody (Hd.inCls (top 2) 0))) (Hd.dScope (Hd.inCls (top 2) 0)) 3 [((qS "__class__"),31)] vN vN vN (vS "laterline.errors" 187) none (.ref 42) (.ref 36) 0)))) ::
  (nat_lit 44,(tO #[])) ::
  (nat_lit 45,(oO (.type "dict") (Data.dict #[(dE P "__module__" 214 (vS "laterline.errors" 187)),(dE P "__firstlineno__" 218 (.int 4 217)),(dE P "__init__" 226 (.ref 43)),(dE P "__static_attributes__" 227 (.ref 44)),(dE P "__doc__" 229 vN)] 3))) ::
  (nat_lit 46,(Obj.mk (.type "type") none (Data.cls (ClassData.mk (qS "NoRow") [(.ref 24)] [(.ref 46),(.ref 24),(.type "ValueError"),(.type "Exception"),(.type "BaseException"),(.type "object")] 45 (qS "NoRow") Bool.true [] [] Bool.false none Bool.false)) #[(some (.ref 28)),none,(some (vS "NoRow" 207)),(some (vS "NoRow" 215)),(some (Value.builtin "ValueError.__new__")),(some vT)])) ::
  (nat_lit 49,(tO #[(.ref 24)])) ::
  (nat_lit 52,(oO (.type "cell") (Data.cell (some (.ref 67))))) ::
  (nat_lit 57,(tO #[(.ref 52)])) ::
  (nat_lit 58,(tO #[(vS "__class__" 247)])) ::
  (nat_lit 60,(tO #[(vS "self" 248)])) ::
  (nat_lit 61,(tO #[])) ::
  (nat_lit 63,(oO (.type "code") (Data.fields #[(vS "__init__" 244),(vS "NoKey.__init__" 245),(vC 246),(vZ 10),(vZ 1),(vZ 0),(vZ 0),(vZ 3),(.ref 58),vT,(vZ 181),(.ref 59),vN,(.ref 60),(.ref 61),(.ref 62),(vZ 249),(vZ 10),(vC 250)]))) ::
  (nat_lit 64,(oO (.type "function") (Data.func (FuncData.mk (qS "__init__") (qS "NoKey.__init__") (Hd.dArgs (Hd.inCls (top 3) 0)) (.stmts (Hd.dBody (Hd.inCls (top 3) 0))) (Hd.dScope (Hd.inCls (top 3) 0)) 3 [((qS "__class__"),52)] vN vN vN (vS "laterline.errors" 187) none (.ref 63) (.ref 57) 0)))) ::
  (nat_lit 65,(tO #[])) ::
  (nat_lit 66,(oO (.type "dict") (Data.dict #[(dE P "__module__" 239 (vS "laterline.errors" 187)),(dE P "__firstlineno__" 243 (.int 8 242)),(dE P "__init__" 251 (.ref 64)),(dE P "__static_attributes__" 252 (.ref 65)),(dE P "__doc__" 254 vN)] 3))) ::
  (nat_lit 67,(Obj.mk (.type "type") none (Data.cls (ClassData.mk (qS "NoKey") [(.ref 24)] [(.ref 67),(.ref 24),(.type "ValueError"),(.type "Exception"),(.type "BaseException"),(.type "object")] 66 (qS "NoKey") Bool.true [] [] Bool.false none Bool.false)) #[(some (.ref 49)),none,(some (vS "NoKey" 232)),(some (vS "NoKey" 240)),(some (Value.builtin "ValueError.__new__")),(some vT)])) ::
  (nat_lit 70,(tO #[(.ref 24)])) ::
  (nat_lit 73,(oO (.type "cell") (Data.cell (some (.ref 88))))) ::
  (nat_lit 78,(tO #[(.ref 73)])) ::
  (nat_lit 79,(tO #[(vS "__class__" 272)])) ::
  (nat_lit 81,(tO #[(vS "self" 273),(vS "place" 274)])) ::
  (nat_lit 82,(tO #[])) ::
  (nat_lit 84,(oO (.type "code") (Data.fields #[(vS "__init__" 269),(vS "NoPlace.__init__" 270),(vC 271),(vZ 14),(vZ 2),(vZ 0),(vZ 0),(vZ 3),(.ref 79),vT,(vZ 181),(.ref 80),vN,(.ref 81),(.ref 82),(.ref 83),(vZ 275),(vZ 14),(vC 276)]))) ::
  (nat_lit 85,(oO (.type "function") (Data.func (FuncData.mk (qS "__init__") (qS "NoPlace.__init__") (Hd.dArgs (Hd.inCls (top 4) 0)) (.stmts (Hd.dBody (Hd.inCls (top 4) 0))) (Hd.dScope (Hd.inCls (top 4) 0)) 3 [((qS "__class__"),73)] vN vN vN (vS "laterline.errors" 187) none (.ref 84) (.ref 78) 0)))) ::
  (nat_lit 86,(tO #[(vS "place" 278)])) ::
  (nat_lit 87,(oO (.type "dict") (Data.dict #[(dE P "__module__" 264 (vS "laterline.errors" 187)),(dE P "__firstlineno__" 268 (.int 12 267)),(dE P "__init__" 277 (.ref 85)),(dE P "__static_attributes__" 279 (.ref 86)),(dE P "__doc__" 281 vN)] 3))) ::
  (nat_lit 88,(Obj.mk (.type "type") none (Data.cls (ClassData.mk (qS "NoPlace") [(.ref 24)] [(.ref 88),(.ref 24),(.type "ValueError"),(.type "Exception"),(.type "BaseException"),(.type "object")] 87 (qS "NoPlace") Bool.true [] [] Bool.false none Bool.false)) #[(some (.ref 70)),none,(some (vS "NoPlace" 257)),(some (vS "NoPlace" 265)),(some (Value.builtin "ValueError.__new__")),(some vT)])) ::
  (nat_lit 91,(tO #[(.ref 24)])) ::
  (nat_lit 94,(oO (.type "cell") (Data.cell (some (.ref 109))))) ::
  (nat_lit 99,(tO #[(.ref 94)])) ::
  (nat_lit 100,(tO #[(vS "__class__" 299)])) ::
  (nat_lit 102,(tO #[(vS "self" 300),(vS "house" 301)])) ::
  (nat_lit 103,(tO #[])) ::
  (nat_lit 105,(oO (.type "code") (Data.fields #[(vS "__init__" 296),(vS "NoHouse.__init__" 297),(vC 298),(vZ 19),(vZ 2),(vZ 0),(vZ 0),(vZ 3),(.ref 100),vT,(vZ 181),(.ref 101),vN,(.ref 102),(.ref 103),(.ref 104),(vZ 302),(vZ 19),(vC 303)]))) ::
  (nat_lit 106,(oO (.type "function") (Data.func (FuncData.mk (qS "__init__") (qS "NoHouse.__init__") (Hd.dArgs (Hd.inCls (top 5) 0)) (.stmts (Hd.dBody (Hd.inCls (top 5) 0))) (Hd.dScope (Hd.inCls (top 5) 0)) 3 [((qS "__class__"),94)] vN vN vN (vS "laterline.errors" 187) none (.ref 105) (.ref 99) 0)))) ::
  (nat_lit 107,(tO #[(vS "house" 305)])) ::
  (nat_lit 108,(oO (.type "dict") (Data.dict #[(dE P "__module__" 291 (vS "laterline.errors" 187)),(dE P "__firstlineno__" 295 (.int 17 294)),(dE P "__init__" 304 (.ref 106)),(dE P "__static_attributes__" 306 (.ref 107)),(dE P "__doc__" 308 vN)] 3))) ::
  (nat_lit 109,(Obj.mk (.type "type") none (Data.cls (ClassData.mk (qS "NoHouse") [(.ref 24)] [(.ref 109),(.ref 24),(.type "ValueError"),(.type "Exception"),(.type "BaseException"),(.type "object")] 108 (qS "NoHouse") Bool.true [] [] Bool.false none Bool.false)) #[(some (.ref 91)),none,(some (vS "NoHouse" 284)),(some (vS "NoHouse" 292)),(some (Value.builtin "ValueError.__new__")),(some vT)])) ::
  (nat_lit 112,(tO #[(.ref 24)])) ::
  (nat_lit 115,(oO (.type "cell") (Data.cell (some (.ref 130))))) ::
  (nat_lit 120,(tO #[(.ref 115)])) ::
  (nat_lit 121,(tO #[(vS "__class__" 326)])) ::
  (nat_lit 123,(tO #[(vS "self" 327)])) ::
  (nat_lit 124,(tO #[])) ::
  (nat_lit 126,(oO (.type "code") (Data.fields #[(vS "__init__" 323),(vS "NoRule.__init__" 324),(vC 325),(vZ 24),(vZ 1),(vZ 0),(vZ 0),(vZ 3),(.ref 121),vT,(vZ 181),(.ref 122),vN,(.ref 123),(.ref 124),(.ref 125),(vZ 328),(vZ 24),(vC 329)]))) ::
  (nat_lit 127,(oO (.type "function") (Data.func (FuncData.mk (qS "__init__") (qS "NoRule.__init__") (Hd.dArgs (Hd.inCls (top 6) 0)) (.stmts (Hd.dBody (Hd.inCls (top 6) 0))) (Hd.dScope (Hd.inCls (top 6) 0)) 3 [((qS "__class__"),115)] vN vN vN (vS "laterline.errors" 187) none (.ref 126) (.ref 120) 0)))) ::
  (nat_lit 128,(tO #[])) ::
  (nat_lit 129,(oO (.type "dict") (Data.dict #[(dE P "__module__" 318 (vS "laterline.errors" 187)),(dE P "__firstlineno__" 322 (.int 22 321)),(dE P "__init__" 330 (.ref 127)),(dE P "__static_attributes__" 331 (.ref 128)),(dE P "__doc__" 333 vN)] 3))) ::
  (nat_lit 130,(Obj.mk (.type "type") none (Data.cls (ClassData.mk (qS "NoRule") [(.ref 24)] [(.ref 130),(.ref 24),(.type "ValueError"),(.type "Exception"),(.type "BaseException"),(.type "object")] 129 (qS "NoRule") Bool.true [] [] Bool.false none Bool.false)) #[(some (.ref 112)),none,(some (vS "NoRule" 311)),(some (vS "NoRule" 319)),(some (Value.builtin "ValueError.__new__")),(some vT)])) ::
  (nat_lit 133,(tO #[(.ref 24)])) ::
  (nat_lit 136,(oO (.type "cell") (Data.cell (some (.ref 151))))) ::
  (nat_lit 141,(tO #[(.ref 136)])) ::
  (nat_lit 142,(tO #[(vS "__class__" 351)])) ::
  (nat_lit 144,(tO #[(vS "self" 352),(vS "what" 353)])) ::
  (nat_lit 145,(tO #[])) ::
  (nat_lit 147,(oO (.type "code") (Data.fields #[(vS "__init__" 348),(vS "NoCount.__init__" 349),(vC 350),(vZ 28),(vZ 2),(vZ 0),(vZ 0),(vZ 3),(.ref 142),vT,(vZ 181),(.ref 143),vN,(.ref 144),(.ref 145),(.ref 146),(vZ 354),(vZ 28),(vC 355)]))) ::
  (nat_lit 148,(oO (.type "function") (Data.func (FuncData.mk (qS "__init__") (qS "NoCount.__init__") (Hd.dArgs (Hd.inCls (top 7) 0)) (.stmts (Hd.dBody (Hd.inCls (top 7) 0))) (Hd.dScope (Hd.inCls (top 7) 0)) 3 [((qS "__class__"),136)] vN vN vN (vS "laterline.errors" 187) none (.ref 147) (.ref 141) 0)))) ::
  (nat_lit 149,(tO #[(vS "what" 357)])) ::
  (nat_lit 150,(oO (.type "dict") (Data.dict #[(dE P "__module__" 343 (vS "laterline.errors" 187)),(dE P "__firstlineno__" 347 (.int 26 346)),(dE P "__init__" 356 (.ref 148)),(dE P "__static_attributes__" 358 (.ref 149)),(dE P "__doc__" 360 vN)] 3))) ::
  (nat_lit 151,(Obj.mk (.type "type") none (Data.cls (ClassData.mk (qS "NoCount") [(.ref 24)] [(.ref 151),(.ref 24),(.type "ValueError"),(.type "Exception"),(.type "BaseException"),(.type "object")] 150 (qS "NoCount") Bool.true [] [] Bool.false none Bool.false)) #[(some (.ref 133)),none,(some (vS "NoCount" 336)),(some (vS "NoCount" 344)),(some (Value.builtin "ValueError.__new__")),(some vT)])) ::
  (nat_lit 154,(tO #[])) ::
  (nat_lit 156,(tO #[(vS "thing" 372)])) ::
  (nat_lit 157,(tO #[])) ::
  (nat_lit 159,(oO (.type "code") (Data.fields #[(vS "is_number" 369),(vS "is_number" 370),(vC 371),(vZ 33),(vZ 1),(vZ 0),(vZ 0),(vZ 3),(.ref 154),vT,(vZ 181),(.ref 155),vN,(.ref 156),(.ref 157),(.ref 158),(vZ 373),(vZ 33),(vC 374)]))) ::
  (nat_lit 160,(oO (.type "function") (Data.func (FuncData.mk (qS "is_number") (qS "is_number") (Hd.dArgs (top 10)) (.stmts (Hd.dBody (top 10))) (Hd.dScope (top 10)) 3 [] vN vN vN (vS "laterline.counts" 363) none (.ref 159) vN 0)))) ::
  (nat_lit 161,(tO #[])) ::
  (nat_lit 163,(tO #[(vS "thing" 379),(vS "least" 380),(vS "most" 381)])) ::
  (nat_lit 164,(tO #[])) ::
  (nat_lit 166,(oO (.type "code") (Data.fields #[(vS "is_within" 376),(vS "is_within" 377),(vC 378),(vZ 35),(vZ 3),(vZ 0),(vZ 0),(vZ 3),(.ref 161),vT,(vZ 181),(.ref 162),vN,(.ref 163),(.ref 164),(.ref 165),(vZ 382),(vZ 35),(vC 383)]))) ::
  (nat_lit 167,(oO (.type "function") (Data.func (FuncData.mk (qS "is_within") (qS "is_within") (Hd.dArgs (top 11)) (.stmts (Hd.dBody (top 11))) (Hd.dScope (top 11)) 3 [] vN vN vN (vS "laterline.counts" 363) none (.ref 166) vN 0)))) ::
  (nat_lit 168,(tO #[])) ::
  (nat_lit 170,(tO #[(vS "thing" 388),(vS "least" 389),(vS "most" 390),(vS "what" 391)])) ::
  (nat_lit 171,(tO #[])) ::
  (nat_lit 173,(oO (.type "code") (Data.fields #[(vS "require_within" 385),(vS "require_within" 386),(vC 387),(vZ 37),(vZ 4),(vZ 0),(vZ 0),(vZ 3),(.ref 168),vT,(vZ 181),(.ref 169),vN,(.ref 170),(.ref 171),(.ref 172),(vZ 392),(vZ 37),(vC 393)]))) ::
  (nat_lit 174,(oO (.type "function") (Data.func (FuncData.mk (qS "require_within") (qS "require_within") (Hd.dArgs (top 12)) (.stmts (Hd.dBody (top 12))) (Hd.dScope (top 12)) 3 [] vN vN vN (vS "laterline.counts" 363) none (.ref 173) vN 0)))) ::
  (nat_lit 175,(tO #[])) ::
  (nat_lit 177,(tO #[(vS "thing" 398)])) ::
  (nat_lit 178,(tO #[])) ::
  (nat_lit 180,(oO (.type "code") (Data.fields #[(vS "is_place" 395),(vS "is_place" 396),(vC 397),(vZ 40),(vZ 1),(vZ 0),(vZ 0),(vZ 3),(.ref 175),vT,(vZ 181),(.ref 176),vN,(.ref 177),(.ref 178),(.ref 179),(vZ 399),(vZ 40),(vC 400)]))) ::
  (nat_lit 181,(oO (.type "function") (Data.func (FuncData.mk (qS "is_place") (qS "is_place") (Hd.dArgs (top 13)) (.stmts (Hd.dBody (top 13))) (Hd.dScope (top 13)) 3 [] vN vN vN (vS "laterline.counts" 363) none (.ref 180) vN 0)))) ::
  (nat_lit 182,(tO #[])) ::
  (nat_lit 184,(tO #[(vS "thing" 407)])) ::
  (nat_lit 185,(tO #[])) ::
  (nat_lit 187,(oO (.type "code") (Data.fields #[(vS "require_place" 404),(vS "require_place" 405),(vC 406),(vZ 43),(vZ 1),(vZ 0),(vZ 0),(vZ 3),(.ref 182),vT,(vZ 181),(.ref 183),vN,(.ref 184),(.ref 185),(.ref 186),(vZ 408),(vZ 43),(vC 409)]))) ::
  (nat_lit 188,(oO (.type "function") (Data.func (FuncData.mk (qS "require_place") (qS "require_place") (Hd.dArgs (top 15)) (.stmts (Hd.dBody (top 15))) (Hd.dScope (top 15)) 3 [] vN vN vN (vS "laterline.lines" 402) none (.ref 187) vN 0)))) ::
  (nat_lit 189,(oO (.type "dict") (Data.dict #[(dE P "houses" 415 (.int 8 413))] 1))) ::
  (nat_lit 190,(tO #[])) ::
  (nat_lit 192,(tO #[(vS "thing" 419),(vS "houses" 420)])) ::
  (nat_lit 193,(tO #[])) ::
  (nat_lit 195,(oO (.type "code") (Data.fields #[(vS "is_house" 416),(vS "is_house" 417),(vC 418),(vZ 48),(vZ 1),(vZ 0),(vZ 1),(vZ 3),(.ref 190),vT,(vZ 181),(.ref 191),vN,(.ref 192),(.ref 193),(.ref 194),(vZ 421),(vZ 48),(vC 422)]))) ::
  (nat_lit 196,(oO (.type "function") (Data.func (FuncData.mk (qS "is_house") (qS "is_house") (Hd.dArgs (top 18)) (.stmts (Hd.dBody (top 18))) (Hd.dScope (top 18)) 3 [] vN (.ref 189) vN (vS "laterline.rules" 411) none (.ref 195) vN 0)))) ::
  (nat_lit 197,(oO (.type "dict") (Data.dict #[(dE P "houses" 424 (.int 8 413))] 1))) ::
  (nat_lit 198,(tO #[])) ::
  (nat_lit 200,(tO #[(vS "thing" 428),(vS "houses" 429)])) ::
  (nat_lit 201,(tO #[])) ::
  (nat_lit 203,(oO (.type "code") (Data.fields #[(vS "require_house" 425),(vS "require_house" 426),(vC 427),(vZ 50),(vZ 1),(vZ 0),(vZ 1),(vZ 3),(.ref 198),vT,(vZ 181),(.ref 199),vN,(.ref 200),(.ref 201),(.ref 202),(vZ 430),(vZ 50),(vC 431)]))) ::
  (nat_lit 204,(oO (.type "function") (Data.func (FuncData.mk (qS "require_house") (qS "require_house") (Hd.dArgs (top 19)) (.stmts (Hd.dBody (top 19))) (Hd.dScope (top 19)) 3 [] vN (.ref 197) vN (vS "laterline.rules" 411) none (.ref 203) vN 0)))) ::
  (nat_lit 205,(tO #[])) ::
  (nat_lit 207,(tO #[(vS "room" 440)])) ::
  (nat_lit 208,(tO #[])) ::
  (nat_lit 210,(oO (.type "code") (Data.fields #[(vS "require_room" 437),(vS "require_room" 438),(vC 439),(vZ 55),(vZ 1),(vZ 0),(vZ 0),(vZ 3),(.ref 205),vT,(vZ 181),(.ref 206),vN,(.ref 207),(.ref 208),(.ref 209),(vZ 441),(vZ 55),(vC 442)]))) ::
  (nat_lit 211,(oO (.type "function") (Data.func (FuncData.mk (qS "require_room") (qS "require_room") (Hd.dArgs (top 22)) (.stmts (Hd.dBody (top 22))) (Hd.dScope (top 22)) 3 [] vN vN vN (vS "laterline.slots" 433) none (.ref 210) vN 0)))) ::
  (nat_lit 212,(tO #[])) ::
  (nat_lit 215,(oO (.type "code") (Data.fields #[(vS "cut_of" 444),(vS "cut_of" 445),(vC 446),(vZ 57),(vZ 4),(vZ 0),(vZ 0),(vZ 3),(.ref 212),vT,(vZ 181),(.ref 213),vN,vN,vN,(.ref 214),(vZ 447),(vZ 57),(vC 448)]))) ::
  (nat_lit 216,(oO (.type "function") (Data.func (FuncData.mk (qS "cut_of") (qS "cut_of") (Hd.dArgs (top 23)) (.stmts (Hd.dBody (top 23))) (Hd.dScope (top 23)) 3 [] vN vN vN (vS "laterline.slots" 433) none (.ref 215) vN 0)))) ::
  (nat_lit 224,(tO #[])) ::
  (nat_lit 226,(tO #[(vS "self" 465),(vS "room" 466)])) ::
  (nat_lit 227,(tO #[])) ::
  (nat_lit 229,(oO (.type "code") (Data.fields #[(vS "__init__" 462),(vS "Slots.__init__" 463),(vC 464),(vZ 67),(vZ 2),(vZ 0),(vZ 0),(vZ 3),(.ref 224),vT,(vZ 181),(.ref 225),vN,(.ref 226),(.ref 227),(.ref 228),(vZ 467),(vZ 67),(vC 468)]))) ::
  (nat_lit 230,(oO (.type "function") (Data.func (FuncData.mk (qS "__init__") (qS "Slots.__init__") (Hd.dArgs (Hd.inCls (top 24) 0)) (.stmts (Hd.dBody (Hd.inCls (top 24) 0))) (Hd.dScope (Hd.inCls (top 24) 0)) 3 [] vN vN vN (vS "laterline.slots" 433) none (.ref 229) vN 0)))) ::
  (nat_lit 231,(tO #[])) ::
  (nat_lit 233,(tO #[(vS "self" 473),(vS "house" 474),(vS "place" 475)])) ::
  (nat_lit 234,(tO #[])) ::
  (nat_lit 236,(oO (.type "code") (Data.fields #[(vS "hold" 470),(vS "Slots.hold" 471),(vC 472),(vZ 72),(vZ 3),(vZ 0),(vZ 0),(vZ 3),(.ref 231),vT,(vZ 181),(.ref 232),vN,(.ref 233),(.ref 234),(.ref 235),(vZ 476),(vZ 72),(vC 477)]))) ::
  (nat_lit 237,(oO (.type "function") (Data.func (FuncData.mk (qS "hold") (qS "Slots.hold") (Hd.dArgs (Hd.inCls (top 24) 1)) (.stmts (Hd.dBody (Hd.inCls (top 24) 1))) (Hd.dScope (Hd.inCls (top 24) 1)) 3 [] vN vN vN (vS "laterline.slots" 433) none (.ref 236) vN 0)))) ::
  (nat_lit 238,(tO #[])) ::
  (nat_lit 240,(tO #[(vS "self" 482),(vS "house" 483),(vS "place" 484)])) ::
  (nat_lit 241,(tO #[])) ::
  (nat_lit 243,(oO (.type "code") (Data.fields #[(vS "anew" 479),(vS "Slots.anew" 480),(vC 481),(vZ 77),(vZ 3),(vZ 0),(vZ 0),(vZ 3),(.ref 238),vT,(vZ 181),(.ref 239),vN,(.ref 240),(.ref 241),(.ref 242),(vZ 485),(vZ 77),(vC 486)]))) ::
  (nat_lit 244,(oO (.type "function") (Data.func (FuncData.mk (qS "anew") (qS "Slots.anew") (Hd.dArgs (Hd.inCls (top 24) 2)) (.stmts (Hd.dBody (Hd.inCls (top 24) 2))) (Hd.dScope (Hd.inCls (top 24) 2)) 3 [] vN vN vN (vS "laterline.slots" 433) none (.ref 243) vN 0)))) ::
  (nat_lit 245,(tO #[])) ::
  (nat_lit 247,(tO #[(vS "self" 491),(vS "house" 492)])) ::
  (nat_lit 248,(tO #[])) ::
  (nat_lit 250,(oO (.type "code") (Data.fields #[(vS "free" 488),(vS "Slots.free" 489),(vC 490),(vZ 82),(vZ 2),(vZ 0),(vZ 0),(vZ 3),(.ref 245),vT,(vZ 181),(.ref 246),vN,(.ref 247),(.ref 248),(.ref 249),(vZ 493),(vZ 82),(vC 494)]))) ::
  (nat_lit 251,(oO (.type "function") (Data.func (FuncData.mk (qS "free") (qS "Slots.free") (Hd.dArgs (Hd.inCls (top 24) 3)) (.stmts (Hd.dBody (Hd.inCls (top 24) 3))) (Hd.dScope (Hd.inCls (top 24) 3)) 3 [] vN vN vN (vS "laterline.slots" 433) none (.ref 250) vN 0)))) ::
  (nat_lit 252,(tO #[])) ::
  (nat_lit 255,(oO (.type "code") (Data.fields #[(vS "held" 496),(vS "Slots.held" 497),(vC 498),(vZ 87),(vZ 1),(vZ 0),(vZ 0),(vZ 3),(.ref 252),vT,(vZ 181),(.ref 253),vN,vN,vN,(.ref 254),(vZ 499),(vZ 87),(vC 500)]))) ::
  (nat_lit 256,(oO (.type "function") (Data.func (FuncData.mk (qS "held") (qS "Slots.held") (Hd.dArgs (Hd.inCls (top 24) 4)) (.stmts (Hd.dBody (Hd.inCls (top 24) 4))) (Hd.dScope (Hd.inCls (top 24) 4)) 3 [] vN vN vN (vS "laterline.slots" 433) none (.ref 255) vN 0)))) ::
  (nat_lit 257,(tO #[])) ::
  (nat_lit 259,(tO #[(vS "self" 505),(vS "end" 506),(vS "applied" 507),(vS "floor" 508),(vS "broken" 509),(vS "house" 510)])) ::
  (nat_lit 260,(tO #[])) ::
  (nat_lit 262,(oO (.type "code") (Data.fields #[(vS "cut_for" 502),(vS "Slots.cut_for" 503),(vC 504),(vZ 90),(vZ 3),(vZ 0),(vZ 0),(vZ 3),(.ref 257),vT,(vZ 181),(.ref 258),vN,(.ref 259),(.ref 260),(.ref 261),(vZ 511),(vZ 90),(vC 512)]))) ::
  (nat_lit 263,(oO (.type "function") (Data.func (FuncData.mk (qS "cut_for") (qS "Slots.cut_for") (Hd.dArgs (Hd.inCls (top 24) 5)) (.stmts (Hd.dBody (Hd.inCls (top 24) 5))) (Hd.dScope (Hd.inCls (top 24) 5)) 3 [] vN vN vN (vS "laterline.slots" 433) none (.ref 262) vN 0)))) ::
  (nat_lit 264,(tO #[])) ::
  (nat_lit 266,(tO #[(vS "self" 517)])) ::
  (nat_lit 267,(tO #[])) ::
  (nat_lit 269,(oO (.type "code") (Data.fields #[(vS "__len__" 514),(vS "Slots.__len__" 515),(vC 516),(vZ 96),(vZ 1),(vZ 0),(vZ 0),(vZ 3),(.ref 264),vT,(vZ 181),(.ref 265),vN,(.ref 266),(.ref 267),(.ref 268),(vZ 518),(vZ 96),(vC 519)]))) ::
  (nat_lit 270,(oO (.type "function") (Data.func (FuncData.mk (qS "__len__") (qS "Slots.__len__") (Hd.dArgs (Hd.inCls (top 24) 6)) (.stmts (Hd.dBody (Hd.inCls (top 24) 6))) (Hd.dScope (Hd.inCls (top 24) 6)) 3 [] vN vN vN (vS "laterline.slots" 433) none (.ref 269) vN 0)))) ::
  (nat_lit 271,(tO #[])) ::
  (nat_lit 273,(tO #[(vS "self" 524),(vS "other" 525)])) ::
  (nat_lit 274,(tO #[])) ::
  (nat_lit 276,(oO (.type "code") (Data.fields #[(vS "__eq__" 521),(vS "Slots.__eq__" 522),(vC 523),(vZ 99),(vZ 2),(vZ 0),(vZ 0),(vZ 3),(.ref 271),vT,(vZ 181),(.ref 272),vN,(.ref 273),(.ref 274),(.ref 275),(vZ 526),(vZ 99),(vC 527)]))) ::
  (nat_lit 277,(oO (.type "function") (Data.func (FuncData.mk (qS "__eq__") (qS "Slots.__eq__") (Hd.dArgs (Hd.inCls (top 24) 7)) (.stmts (Hd.dBody (Hd.inCls (top 24) 7))) (Hd.dScope (Hd.inCls (top 24) 7)) 3 [] vN vN vN (vS "laterline.slots" 433) none (.ref 276) vN 0)))) ::
  (nat_lit 278,(tO #[(vS "places" 529),(vS "room" 530)])) ::
  (nat_lit 279,(oO (.type "dict") (Data.dict #[(dE P "__module__" 457 (vS "laterline.slots" 433)),(dE P "__firstlineno__" 461 (.int 65 460)),(dE P "__init__" 469 (.ref 230)),(dE P "hold" 478 (.ref 237)),(dE P "anew" 487 (.ref 244)),(dE P "free" 495 (.ref 251)),(dE P "held" 501 (.ref 256)),(dE P "cut_for" 513 (.ref 263)),(dE P "__len__" 520 (.ref 270)),(dE P "__eq__" 528 (.ref 277)),(dE P "__static_attributes__" 531 (.ref 278)),(dE P "__dict__" 533 (.ref 281)),(dE P "__weakref__" 535 (.ref 282)),(dE P "__doc__" 536 vN),(dE P "__hash__" 537 vN)] 5))) ::
  (nat_lit 280,(Obj.mk (.type "type") none (Data.cls (ClassData.mk (qS "Slots") [(.type "object")] [(.ref 280),(.type "object")] 279 (qS "Slots") Bool.true [] [] Bool.false none Bool.false)) #[none,none,(some (vS "Slots" 450)),(some (vS "Slots" 458)),(some (Value.builtin "object.__new__")),(some vT)])) ::
  (nat_lit 281,(oO (.type "getset_descriptor") (Data.fields #[(vS "__dict__" 532),(.ref 280),(Value.builtin "function.__dict__"),(Value.builtin "function.__dict__#set")]))) ::
  (nat_lit 282,(oO (.type "getset_descriptor") (Data.fields #[(vS "__weakref__" 534),(.ref 280),(Value.builtin "ExceptionGroup.__weakref__"),vN]))) ::
  (nat_lit 285,(tO #[])) ::
  (nat_lit 288,(oO (.type "code") (Data.fields #[(vS "_law_deck" 542),(vS "_law_deck" 543),(vC 544),(vZ 102),(vZ 1),(vZ 0),(vZ 0),(vZ 3),(.ref 285),vT,(vZ 181),(.ref 286),vN,vN,vN,(.ref 287),(vZ 545),(vZ 102),(vC 546)]))) ::
  (nat_lit 289,(oO (.type "function") (Data.func (FuncData.mk (qS "_law_deck") (qS "_law_deck") (Hd.dArgs (top 26)) (.stmts (Hd.dBody (top 26))) (Hd.dScope (top 26)) 3 [] vN vN vN (vS "law_laterline_k31_slots_in_turn" 540) none (.ref 288) vN 0)))) ::
  (nat_lit 290,(tO #[])) ::
  (nat_lit 292,(tO #[(vS "_law_deck_here" 551),(vS "_law_many" 552),(vS "_law_cells" 553),(vS "_law_count" 554),(vS "_law_rests" 555),(vS "_law_place_here" 556),(vS "_law_digits" 557),(vS "_law_mixed" 558)])) ::
  (nat_lit 293,(tO #[])) ::
  (nat_lit 295,(oO (.type "code") (Data.fields #[(vS "_law_take" 548),(vS "_law_take" 549),(vC 550),(vZ 105),(vZ 2),(vZ 0),(vZ 0),(vZ 3),(.ref 290),vT,(vZ 181),(.ref 291),vN,(.ref 292),(.ref 293),(.ref 294),(vZ 559),(vZ 105),(vC 560)]))) ::
  (nat_lit 296,(oO (.type "function") (Data.func (FuncData.mk (qS "_law_take") (qS "_law_take") (Hd.dArgs (top 27)) (.stmts (Hd.dBody (top 27))) (Hd.dScope (top 27)) 3 [] vN vN vN (vS "law_laterline_k31_slots_in_turn" 540) none (.ref 295) vN 0)))) ::
  (nat_lit 297,(tO #[])) ::
  (nat_lit 299,(tO #[(vS "_law_found" 565),(vS "_law_due" 566),(vS "_law_one" 567),(vS "_law_other" 568)])) ::
  (nat_lit 300,(tO #[])) ::
  (nat_lit 302,(oO (.type "code") (Data.fields #[(vS "_law_same" 562),(vS "_law_same" 563),(vC 564),(vZ 117),(vZ 2),(vZ 0),(vZ 0),(vZ 3),(.ref 297),vT,(vZ 181),(.ref 298),vN,(.ref 299),(.ref 300),(.ref 301),(vZ 569),(vZ 117),(vC 570)]))) ::
  (nat_lit 303,(oO (.type "function") (Data.func (FuncData.mk (qS "_law_same") (qS "_law_same") (Hd.dArgs (top 28)) (.stmts (Hd.dBody (top 28))) (Hd.dScope (top 28)) 3 [] vN vN vN (vS "law_laterline_k31_slots_in_turn" 540) none (.ref 302) vN 0)))) ::
  (nat_lit 304,(tO #[])) ::
  (nat_lit 307,(oO (.type "code") (Data.fields #[(vS "_law_names" 572),(vS "_law_names" 573),(vC 574),(vZ 134),(vZ 1),(vZ 0),(vZ 0),(vZ 3),(.ref 304),vT,(vZ 181),(.ref 305),vN,vN,vN,(.ref 306),(vZ 575),(vZ 134),(vC 576)]))) ::
  (nat_lit 308,(oO (.type "function") (Data.func (FuncData.mk (qS "_law_names") (qS "_law_names") (Hd.dArgs (top 29)) (.stmts (Hd.dBody (top 29))) (Hd.dScope (top 29)) 3 [] vN vN vN (vS "law_laterline_k31_slots_in_turn" 540) none (.ref 307) vN 0)))) ::
  (nat_lit 309,(tO #[])) ::
  (nat_lit 311,(tO #[(vS "_law_way" 581),(vS "_law_slots" 582),(vS "_law_one" 583),(vS "_law_other" 584),(vS "_law_caught_here" 585),(vS "_law_error" 586)])) ::
  (nat_lit 312,(tO #[])) ::
  (nat_lit 314,(oO (.type "code") (Data.fields #[(vS "_law_caught" 578),(vS "_law_caught" 579),(vC 580),(vZ 139),(vZ 4),(vZ 0),(vZ 0),(vZ 3),(.ref 309),vT,(vZ 181),(.ref 310),vN,(.ref 311),(.ref 312),(.ref 313),(vZ 587),(vZ 139),(vC 588)]))) ::
  (nat_lit 315,(oO (.type "function") (Data.func (FuncData.mk (qS "_law_caught") (qS "_law_caught") (Hd.dArgs (top 30)) (.stmts (Hd.dBody (top 30))) (Hd.dScope (top 30)) 3 [] vN vN vN (vS "law_laterline_k31_slots_in_turn" 540) none (.ref 314) vN 0)))) ::
  (nat_lit 316,(tO #[])) ::
  (nat_lit 318,(tO #[(vS "_law_way" 593),(vS "_law_slots" 594),(vS "_law_handed" 595),(vS "_law_name" 596),(vS "_law_field" 597),(vS "_law_caught_here" 598)])) ::
  (nat_lit 319,(tO #[])) ::
  (nat_lit 321,(oO (.type "code") (Data.fields #[(vS "_law_refused" 590),(vS "_law_refused" 591),(vC 592),(vZ 153),(vZ 5),(vZ 0),(vZ 0),(vZ 3),(.ref 316),vT,(vZ 181),(.ref 317),vN,(.ref 318),(.ref 319),(.ref 320),(vZ 599),(vZ 153),(vC 600)]))) ::
  (nat_lit 322,(oO (.type "function") (Data.func (FuncData.mk (qS "_law_refused") (qS "_law_refused") (Hd.dArgs (top 31)) (.stmts (Hd.dBody (top 31))) (Hd.dScope (top 31)) 3 [] vN vN vN (vS "law_laterline_k31_slots_in_turn" 540) none (.ref 321) vN 0)))) ::
  (nat_lit 323,(tO #[])) ::
  (nat_lit 325,(tO #[(vS "_law_deck_here" 605)])) ::
  (nat_lit 326,(tO #[])) ::
  (nat_lit 328,(oO (.type "code") (Data.fields #[(vS "_law_place" 602),(vS "_law_place" 603),(vC 604),(vZ 160),(vZ 1),(vZ 0),(vZ 0),(vZ 3),(.ref 323),vT,(vZ 181),(.ref 324),vN,(.ref 325),(.ref 326),(.ref 327),(vZ 606),(vZ 160),(vC 607)]))) ::
  (nat_lit 329,(oO (.type "function") (Data.func (FuncData.mk (qS "_law_place") (qS "_law_place") (Hd.dArgs (top 32)) (.stmts (Hd.dBody (top 32))) (Hd.dScope (top 32)) 3 [] vN vN vN (vS "law_laterline_k31_slots_in_turn" 540) none (.ref 328) vN 0)))) ::
  (nat_lit 330,(tO #[])) ::
  (nat_lit 332,(tO #[(vS "_law_deck_here" 612),(vS "_law_most" 613),(vS "_law_some" 614)])) ::
  (nat_lit 333,(tO #[])) ::
  (nat_lit 335,(oO (.type "code") (Data.fields #[(vS "_law_odd" 609),(vS "_law_odd" 610),(vC 611),(vZ 164),(vZ 2),(vZ 0),(vZ 0),(vZ 3),(.ref 330),vT,(vZ 181),(.ref 331),vN,(.ref 332),(.ref 333),(.ref 334),(vZ 615),(vZ 164),(vC 616)]))) ::
  (nat_lit 336,(oO (.type "function") (Data.func (FuncData.mk (qS "_law_odd") (qS "_law_odd") (Hd.dArgs (top 33)) (.stmts (Hd.dBody (top 33))) (Hd.dScope (top 33)) 3 [] vN vN vN (vS "law_laterline_k31_slots_in_turn" 540) none (.ref 335) vN 0)))) ::
  (nat_lit 337,(tO #[])) ::
  (nat_lit 339,(tO #[(vS "_law_deck_here" 621),(vS "_law_slots" 622),(vS "_law_way" 623),(vS "_law_end" 624),(vS "_law_odd_here" 625),(vS "_law_place_here" 626)])) ::
  (nat_lit 340,(tO #[])) ::
  (nat_lit 342,(oO (.type "code") (Data.fields #[(vS "_law_wrong" 618),(vS "_law_wrong" 619),(vC 620),(vZ 168),(vZ 2),(vZ 0),(vZ 0),(vZ 3),(.ref 337),vT,(vZ 181),(.ref 338),vN,(.ref 339),(.ref 340),(.ref 341),(vZ 627),(vZ 168),(vC 628)]))) ::
  (nat_lit 343,(oO (.type "function") (Data.func (FuncData.mk (qS "_law_wrong") (qS "_law_wrong") (Hd.dArgs (top 34)) (.stmts (Hd.dBody (top 34))) (Hd.dScope (top 34)) 3 [] vN vN vN (vS "law_laterline_k31_slots_in_turn" 540) none (.ref 342) vN 0)))) ::
  (nat_lit 344,(tO #[])) ::
  (nat_lit 347,(oO (.type "code") (Data.fields #[(vS "_law_cuts" 630),(vS "_law_cuts" 631),(vC 632),(vZ 183),(vZ 4),(vZ 0),(vZ 0),(vZ 3),(.ref 344),vT,(vZ 181),(.ref 345),vN,vN,vN,(.ref 346),(vZ 633),(vZ 183),(vC 634)]))) ::
  (nat_lit 348,(oO (.type "function") (Data.func (FuncData.mk (qS "_law_cuts") (qS "_law_cuts") (Hd.dArgs (top 35)) (.stmts (Hd.dBody (top 35))) (Hd.dScope (top 35)) 3 [] vN vN vN (vS "law_laterline_k31_slots_in_turn" 540) none (.ref 347) vN 0)))) ::
  (nat_lit 349,(tO #[])) ::
  (nat_lit 352,(oO (.type "code") (Data.fields #[(vS "_law_put" 636),(vS "_law_put" 637),(vC 638),(vZ 193),(vZ 4),(vZ 0),(vZ 0),(vZ 3),(.ref 349),vT,(vZ 181),(.ref 350),vN,vN,vN,(.ref 351),(vZ 639),(vZ 193),(vC 640)]))) ::
  (nat_lit 353,(oO (.type "function") (Data.func (FuncData.mk (qS "_law_put") (qS "_law_put") (Hd.dArgs (top 36)) (.stmts (Hd.dBody (top 36))) (Hd.dScope (top 36)) 3 [] vN vN vN (vS "law_laterline_k31_slots_in_turn" 540) none (.ref 352) vN 0)))) ::
  (nat_lit 354,(tO #[])) ::
  (nat_lit 357,(oO (.type "code") (Data.fields #[(vS "_law_deed" 642),(vS "_law_deed" 643),(vC 644),(vZ 207),(vZ 4),(vZ 0),(vZ 0),(vZ 3),(.ref 354),vT,(vZ 181),(.ref 355),vN,vN,vN,(.ref 356),(vZ 645),(vZ 207),(vC 646)]))) ::
  (nat_lit 358,(oO (.type "function") (Data.func (FuncData.mk (qS "_law_deed") (qS "_law_deed") (Hd.dArgs (top 37)) (.stmts (Hd.dBody (top 37))) (Hd.dScope (top 37)) 3 [] vN vN vN (vS "law_laterline_k31_slots_in_turn" 540) none (.ref 357) vN 0)))) ::
  (nat_lit 359,(tO #[])) ::
  (nat_lit 361,(tO #[(vS "_law_slots" 651),(vS "_law_model" 652)])) ::
  (nat_lit 362,(tO #[])) ::
  (nat_lit 364,(oO (.type "code") (Data.fields #[(vS "_law_looks" 648),(vS "_law_looks" 649),(vC 650),(vZ 220),(vZ 2),(vZ 0),(vZ 0),(vZ 3),(.ref 359),vT,(vZ 181),(.ref 360),vN,(.ref 361),(.ref 362),(.ref 363),(vZ 653),(vZ 220),(vC 654)]))) ::
  (nat_lit 365,(oO (.type "function") (Data.func (FuncData.mk (qS "_law_looks") (qS "_law_looks") (Hd.dArgs (top 38)) (.stmts (Hd.dBody (top 38))) (Hd.dScope (top 38)) 3 [] vN vN vN (vS "law_laterline_k31_slots_in_turn" 540) none (.ref 364) vN 0)))) ::
  (nat_lit 366,(tO #[])) ::
  (nat_lit 368,(tO #[(vS "_law_deck_here" 659)])) ::
  (nat_lit 369,(tO #[])) ::
  (nat_lit 371,(oO (.type "code") (Data.fields #[(vS "_law_room" 656),(vS "_law_room" 657),(vC 658),(vZ 222),(vZ 1),(vZ 0),(vZ 0),(vZ 3),(.ref 366),vT,(vZ 181),(.ref 367),vN,(.ref 368),(.ref 369),(.ref 370),(vZ 660),(vZ 222),(vC 661)]))) ::
  (nat_lit 372,(oO (.type "function") (Data.func (FuncData.mk (qS "_law_room") (qS "_law_room") (Hd.dArgs (top 39)) (.stmts (Hd.dBody (top 39))) (Hd.dScope (top 39)) 3 [] vN vN vN (vS "law_laterline_k31_slots_in_turn" 540) none (.ref 371) vN 0)))) ::
  (nat_lit 373,(tO #[])) ::
  (nat_lit 375,(tO #[(vS "_law_deck_here" 666),(vS "_law_some" 667),(vS "_law_room_here" 668),(vS "_law_caught_here" 669),(vS "_law_error" 670)])) ::
  (nat_lit 376,(tO #[])) ::
  (nat_lit 378,(oO (.type "code") (Data.fields #[(vS "_law_no_room" 663),(vS "_law_no_room" 664),(vC 665),(vZ 226),(vZ 1),(vZ 0),(vZ 0),(vZ 3),(.ref 373),vT,(vZ 181),(.ref 374),vN,(.ref 375),(.ref 376),(.ref 377),(vZ 671),(vZ 226),(vC 672)]))) ::
  (nat_lit 379,(oO (.type "function") (Data.func (FuncData.mk (qS "_law_no_room") (qS "_law_no_room") (Hd.dArgs (top 40)) (.stmts (Hd.dBody (top 40))) (Hd.dScope (top 40)) 3 [] vN vN vN (vS "law_laterline_k31_slots_in_turn" 540) none (.ref 378) vN 0)))) ::
  (nat_lit 380,(tO #[])) ::
  (nat_lit 382,(tO #[(vS "_law_script" 677),(vS "_law_deck_here" 678),(vS "_law_rooms" 679),(vS "_law_both" 680),(vS "_law_models" 681),(vS "_law_turn" 682),(vS "_law_k" 683),(vS "_law_same_here" 684),(vS "_law_twin" 685),(vS "_law_one" 686),(vS "_law_place_here" 687)])) ::
  (nat_lit 383,(tO #[])) ::
  (nat_lit 385,(oO (.type "code") (Data.fields #[(vS "law" 674),(vS "law" 675),(vC 676),(vZ 235),(vZ 1),(vZ 0),(vZ 0),(vZ 3),(.ref 380),vT,(vZ 181),(.ref 381),vN,(.ref 382),(.ref 383),(.ref 384),(vZ 688),(vZ 235),(vC 689)]))) ::
  (nat_lit 386,(oO (.type "function") (Data.func (FuncData.mk (qS "law") (qS "law") (Hd.dArgs (top 41)) (.stmts (Hd.dBody (top 41))) (Hd.dScope (top 41)) 3 [] vN vN vN (vS "law_laterline_k31_slots_in_turn" 540) none (.ref 385) vN 0)))) :: []
noncomputable def KA:List Addr:=[nat_lit 2,nat_lit 3,nat_lit 15,nat_lit 22,nat_lit 23,nat_lit 24,nat_lit 25,nat_lit 28,nat_lit 31,nat_lit 36,nat_lit 37,nat_lit 39,nat_lit 40,nat_lit 42,nat_lit 43,nat_lit 44,nat_lit 45,nat_lit 46,nat_lit 49,nat_lit 52,nat_lit 57,nat_lit 58,nat_lit 60,nat_lit 61,nat_lit 63,nat_lit 64,nat_lit 65,nat_lit 66,nat_lit 67,nat_lit 70,nat_lit 73,nat_lit 78,nat_lit 79,nat_lit 81,nat_lit 82,nat_lit 84,nat_lit 85,nat_lit 86,nat_lit 87,nat_lit 88,nat_lit 91,nat_lit 94,nat_lit 99,nat_lit 100,nat_lit 102,nat_lit 103,nat_lit 105,nat_lit 106,nat_lit 107,nat_lit 108,nat_lit 109,nat_lit 112,nat_lit 115,nat_lit 120,nat_lit 121,nat_lit 123,nat_lit 124,nat_lit 126,nat_lit 127,nat_lit 128,nat_lit 129,nat_lit 130,nat_lit 133,nat_lit 136,nat_lit 141,nat_lit 142,nat_lit 144,nat_lit 145,nat_lit 147,nat_lit 148,nat_lit 149,nat_lit 150,nat_lit 151,nat_lit 154,nat_lit 156,nat_lit 157,nat_lit 159,nat_lit 160,nat_lit 161,nat_lit 163,nat_lit 164,nat_lit 166,nat_lit 167,nat_lit 168,nat_lit 170,nat_lit 171,nat_lit 173,nat_lit 174,nat_lit 175,nat_lit 177,nat_lit 178,nat_lit 180,nat_lit 181,nat_lit 182,nat_lit 184,nat_lit 185,nat_lit 187,nat_lit 188,nat_lit 189,nat_lit 190,nat_lit 192,nat_lit 193,nat_lit 195,nat_lit 196,nat_lit 197,nat_lit 198,nat_lit 200,nat_lit 201,nat_lit 203,nat_lit 204,nat_lit 205,nat_lit 207,nat_lit 208,nat_lit 210,nat_lit 211,nat_lit 212,nat_lit 215,nat_lit 216,nat_lit 224,nat_lit 226,nat_lit 227,nat_lit 229,nat_lit 230,nat_lit 231,nat_lit 233,nat_lit 234,nat_lit 236,nat_lit 237,nat_lit 238,nat_lit 240,nat_lit 241,nat_lit 243,nat_lit 244,nat_lit 245,nat_lit 247,nat_lit 248,nat_lit 250,nat_lit 251,nat_lit 252,nat_lit 255,nat_lit 256,nat_lit 257,nat_lit 259,nat_lit 260,nat_lit 262,nat_lit 263,nat_lit 264,nat_lit 266,nat_lit 267,nat_lit 269,nat_lit 270,nat_lit 271,nat_lit 273,nat_lit 274,nat_lit 276,nat_lit 277,nat_lit 278,nat_lit 279,nat_lit 280,nat_lit 281,nat_lit 282,nat_lit 285,nat_lit 288,nat_lit 289,nat_lit 290,nat_lit 292,nat_lit 293,nat_lit 295,nat_lit 296,nat_lit 297,nat_lit 299,nat_lit 300,nat_lit 302,nat_lit 303,nat_lit 304,nat_lit 307,nat_lit 308,nat_lit 309,nat_lit 311,nat_lit 312,nat_lit 314,nat_lit 315,nat_lit 316,nat_lit 318,nat_lit 319,nat_lit 321,nat_lit 322,nat_lit 323,nat_lit 325,nat_lit 326,nat_lit 328,nat_lit 329,nat_lit 330,nat_lit 332,nat_lit 333,nat_lit 335,nat_lit 336,nat_lit 337,nat_lit 339,nat_lit 340,nat_lit 342,nat_lit 343,nat_lit 344,nat_lit 347,nat_lit 348,nat_lit 349,nat_lit 352,nat_lit 353,nat_lit 354,nat_lit 357,nat_lit 358,nat_lit 359,nat_lit 361,nat_lit 362,nat_lit 364,nat_lit 365,nat_lit 366,nat_lit 368,nat_lit 369,nat_lit 371,nat_lit 372,nat_lit 373,nat_lit 375,nat_lit 376,nat_lit 378,nat_lit 379,nat_lit 380,nat_lit 382,nat_lit 383,nat_lit 385,nat_lit 386]
theorem ke:∀ P,KA=(KF P).map (·.1):=fun _=>by kernel_rfl
noncomputable def vw:Program:={ PySem.Challenge.pw_laterline_k31_slots_in_turn with main:={ PySem.Challenge.pw_laterline_k31_slots_in_turn.main with body:=[top 1,top 2,top 3,top 4,top 5,top 6,top 7,top 9,top 10,top 11,top 12,top 13,top 15,top 17,top 21,top 22,top 23,top 24,top 26,top 27,top 28,top 29,top 30,top 31,top 32,top 33,top 34,top 35,top 36,top 37,top 38,top 39,top 40,top 41] } }
noncomputable def lv:List (Str×PySem.W.WData):=[("LAST_PLACE",(.int 1000000))]
noncomputable def lo:List Str:=["LAST_PLACE","is_house","require_house"]
noncomputable def xt:Shared→Bool:=fun s=>PySem.W.xlAt vw lv s && PySem.W.recOk (PySem.W.RowW.records (PySem.W.OpenRow.toRowW (PySem.W.OpenLaw.row PySem.Challenge.rw_laterline_k31_slots_in_turn))) s
set_option maxHeartbeats 0 in
theorem ran:∀ (w:World) (os:OsState),(Hd.topT PySem.treeTable PySem.Challenge.pw_laterline_k31_slots_in_turn w (PySem.W.boot_heap w.params).objs.size ((PySem.W.boot_heap w.params).nsMap mainGlobals "__annotations__") 6240 (Hd.start0 w.params os) (PySem.W.topStub PySem.Challenge.pw_laterline_k31_slots_in_turn)).map (fun s =>
    ((PySem.W.staticsOk (importedModules PySem.Challenge.pw_laterline_k31_slots_in_turn.main.body) (PySem.W.boot_heap w.params) s.abs.heap && PySem.W.namesBound PySem.Challenge.pw_laterline_k31_slots_in_turn s.abs.heap && PySem.W.gensDone s.abs && PySem.W.laidKept (PySem.W.boot_heap w.params) s.abs.heap),PySem.W.openSeen vw lo (importedModules PySem.Challenge.pw_laterline_k31_slots_in_turn.main.body) xt true s.abs,(PySem.W.kHook KF KA ke).obs s.abs))=some (true,PySem.W.openGood vw lo,(PySem.W.kHook KF KA ke).val w):=by
  intro w os
  kernel_rfl
theorem left:PySem.W.LeftO PySem.Challenge.pw_laterline_k31_slots_in_turn vw lo xt (PySem.W.kHook KF KA ke).obs (PySem.W.kHook KF KA ke).val 6240:=Hd.left_of (by kernel_rfl) (by decide) (fun _=>by kernel_rfl) ran
end My
namespace L2
open PySem PySem.Spec PyProof.Rows
noncomputable abbrev Key:=Sum Int Str
noncomputable def keyIs:Key→Value→Bool
  | .inl k,v=>Value.isInt k v
  | .inr x,v=>Value.isStrOf x v
noncomputable def keyH (w:World):Key→Int
  | .inl k=>hashInt k
  | .inr x=>hashStr w x
theorem keyIs_shape:∀ {k:Key}{v:Value},keyIs k v=true→(∃ i t,k=Sum.inl i∧v=Value.int i t)∨(∃ x t,k=Sum.inr x∧v=Value.str x t)
  | .inl i,v,h=>by
    obtain ⟨t,e⟩:=Value.isInt_shape (k:=i) (v:=v) h
    exact .inl ⟨i,t,rfl,e⟩
  | .inr x,v,h=>by
    obtain ⟨t,e⟩:=Value.isStrOf_shape (x:=x) (v:=v) h
    exact .inr ⟨x,t,rfl,e⟩
theorem keyIs_int (i:Int) (t:Tok):keyIs (.inl i) (.int i t)=true:=by simp [keyIs,Value.isInt]
theorem keyIs_str (x:Str) (t:Tok):keyIs (.inr x) (.str x t)=true:=by simp [keyIs,Value.isStrOf]
theorem key_ll (a b:Int):decide ((Sum.inl a:Key)=Sum.inl b)=(a == b):=by
  by_cases e:a=b
  · subst e; simp
  · have h:¬ (Sum.inl a:Key)=Sum.inl b:=fun q=>e (Sum.inl.inj q)
    rw [decide_eq_false h]
    exact (beq_eq_false_iff_ne.mpr e).symm
theorem key_rr (a b:Str):decide ((Sum.inr a:Key)=Sum.inr b)=decide (a=b):=by
  by_cases e:a=b
  · subst e; simp
  · have h:¬ (Sum.inr a:Key)=Sum.inr b:=fun q=>e (Sum.inr.inj q)
    rw [decide_eq_false h,decide_eq_false e]
theorem key_lr (a:Int) (b:Str):decide ((Sum.inl a:Key)=Sum.inr b)=false:=decide_eq_false (fun q=>nomatch q)
theorem key_rl (a:Str) (b:Int):decide ((Sum.inr a:Key)=Sum.inl b)=false:=decide_eq_false (fun q=>nomatch q)
noncomputable def mixKind (prog:Program) (w:World):PySem.KeyKind prog w Key where
  is:=keyIs
  hash:=keyH w
  inj := fun v a b ha hb=>by
    rcases keyIs_shape ha with ⟨i,t,rfl,rfl⟩ | ⟨x,t,rfl,rfl⟩
    · rcases keyIs_shape hb with ⟨j,u,rfl,e⟩ | ⟨y,u,rfl,e⟩
      · injection e with e1 _; rw [e1]
      · exact nomatch e
    · rcases keyIs_shape hb with ⟨j,u,rfl,e⟩ | ⟨y,u,rfl,e⟩
      · exact nomatch e
      · injection e with e1 _; rw [e1]
  byValue:=fun k v h=>by
    rcases keyIs_shape h with ⟨i,t,rfl,rfl⟩ | ⟨x,t,rfl,rfl⟩ <;> rfl
  pyHash:=fun hv h=>by
    rcases keyIs_shape hv with ⟨i,t,rfl,rfl⟩ | ⟨x,t,rfl,rfl⟩
    · exact wpAny_pyHash_int h
    · exact wpAny_pyHash_str h
  eqBool:=fun hu hv h=>by
    rcases keyIs_shape hu with ⟨i,t,rfl,rfl⟩ | ⟨x,t,rfl,rfl⟩
    · rcases keyIs_shape hv with ⟨j,u,rfl,rfl⟩ | ⟨y,u,rfl,rfl⟩
      · rw [key_ll] at h; exact wpAny_eqBool_int h
      · rw [key_lr] at h; exact SeqAt.EqAt.int_str i t y u _ _ _ _ h
    · rcases keyIs_shape hv with ⟨j,u,rfl,rfl⟩ | ⟨y,u,rfl,rfl⟩
      · rw [key_rl] at h; exact SeqAt.EqAt.str_int x t j u _ _ _ _ h
      · rw [key_rr] at h; exact wpAny_eqBool_str h
  «strs»:=fun k x t v h=>by
    rcases keyIs_shape h with ⟨i,u,rfl,e⟩ | ⟨y,u,rfl,e⟩
    · exact nomatch e
    · injection e with e1 _
      subst e1
      cases v <;> rfl
theorem mixKind_int (prog:Program) (w:World) (i:Int) (t:Tok):(mixKind prog w).is (.inl i) (.int i t)=true:=keyIs_int i t
theorem mixKind_str (prog:Program) (w:World) (x:Str) (t:Tok):(mixKind prog w).is (.inr x) (.str x t)=true:=keyIs_str x t
inductive V where
  | non | bl (b:Bool) | int (i:Int) | str (x:Str) | byt (b:Array UInt8) | flt (b:UInt64) | ref (a:Addr) | ty (n:String)
  deriving DecidableEq
noncomputable def RelV:V→Value→Prop
  | .non,u=>u=Value.none
  | .bl b,u=>u=Value.bool b
  | .int i,u=>∃ t,u=Value.int i t
  | .str x,u=>∃ t,u=Value.str x t
  | .byt b,u=>∃ t,u=Value.bytes b t
  | .flt b,u=>∃ t,u=Value.float b t
  | .ref a,u=>u=Value.ref a
  | .ty n,u=>u=Value.type n
noncomputable abbrev Vals:List V→List Value→Prop:=Paired RelV
theorem Vals.length {xs:List V}{us:List Value}(r:Vals xs us):xs.length=us.length:=Paired.length r
theorem Vals.get:∀ {xs:List V}{us:List Value}{i:Nat}{x:V},Vals xs us→xs[i]? = some x→∃ u,us[i]? = some u∧RelV x u
  | _,_,_,_,.nil,e=>by simp at e
  | _,_,0,_,.cons r _,e=>by simp at e; subst e; exact ⟨_,rfl,r⟩
  | _,_,i + 1,x,.cons _ t,e=>by
    obtain ⟨u,h1,h2⟩:=Vals.get (i:=i) (x:=x) t (by simpa using e)
    exact ⟨u,by simpa using h1,h2⟩
theorem Vals.set {x:V}{u:Value}(r:RelV x u):∀ {xs:List V}{us:List Value}(i:Nat),Vals xs us→Vals (xs.set i x) (us.set i u)
  | _,_,_,.nil=>.nil
  | _,_,0,.cons _ t=>.cons r t
  | _,_,i + 1,.cons q t=>.cons q (Vals.set r i t)
theorem Vals.append:∀ {xs ys:List V}{us ws:List Value},Vals xs us→Vals ys ws→Vals (xs ++ ys) (us ++ ws)
  | _,_,_,_,.nil,s=>s
  | _,_,_,_,.cons r t,s=>.cons r (Vals.append t s)
theorem Vals.take:∀ {xs:List V}{us:List Value}(n:Nat),Vals xs us→Vals (xs.take n) (us.take n)
  | _,_,0,_=>.nil
  | _,_,_ + 1,.nil=>.nil
  | _,_,n + 1,.cons r t=>.cons r (Vals.take n t)
theorem Vals.drop:∀ {xs:List V}{us:List Value}(n:Nat),Vals xs us→Vals (xs.drop n) (us.drop n)
  | _,_,0,r=>r
  | _,_,_ + 1,.nil=>.nil
  | _,_,n + 1,.cons _ t=>Vals.drop n t
theorem Vals.none_of:∀ {xs:List V}{us:List Value}{i:Nat},Vals xs us→xs[i]? = none→us[i]? = none:=fun {xs us i} r e=>by
  have h1:=r.length
  have h2:xs.length ≤ i:=List.getElem?_eq_none_iff.mp e
  exact List.getElem?_eq_none_iff.mpr (by omega)
noncomputable def RelO:Option V→Option Value→Prop
  | some v,some u=>RelV v u
  | none,none=>True
  | _,_=>False
noncomputable def KV {κ:Type}:List (κ×V)→List (κ×Value)→Prop:=Paired fun (p:κ×V) (q:κ×Value)=>p.1=q.1∧RelV p.2 q.2
noncomputable def kV:Key→V
  | .inl i=>.int i
  | .inr x=>.str x
inductive HO where
  | lst (xs:List V)
  | tup (xs:List V)
  | dK (kvs:List (Key×V)) | dT (kvs:List (List Key×V))
  | set (S:Int→Bool) (n:Nat)
  | ins (C dx:Addr) (fs:List (Str×V))
  | own (x:Addr)
  | xd (fs:List (Str×V))
  | met (f x:Addr)
  | rng (lo hi:Int)
  | frz (o:Obj) (u:HO)
  | tbl (ps:Array Value)
  | ext (φ:Heap→Prop)
noncomputable abbrev Hp:=Addr→Option HO
noncomputable def upd (H:Hp) (a:Addr) (o:HO):Hp:=fun b=>if b=a then some o else H b
theorem upd_same {H:Hp}{a:Addr}{o:HO}:upd H a o a=some o:=by unfold upd; rw [if_pos rfl]
theorem upd_ne {H:Hp}{a b:Addr}{o:HO}(h:b ≠ a):upd H a o b=H b:=by unfold upd; rw [if_neg h]
theorem ne_of {H:Hp}{a b:Addr}{o u:HO}(h:H a=some o) (h':H b=some u) (d:o ≠ u):a ≠ b:=by
  intro e; subst e; rw [h] at h'; exact d (Option.some.inj h')
theorem ne_of_none {H:Hp}{a b:Addr}{o:HO}(h:H a=some o) (h':H b=none):a ≠ b:=by
  intro e; subst e; rw [h] at h'; cases h'
section
variable (P:Program) (w:World)
noncomputable def ObjOk (H:Hp) (h:Heap) (a:Addr):HO→Prop
  | .lst xs=>xs.length ≤ sizeLine∧∃ (its:List Value) (n:Nat),Vals xs its∧h.get? a=some { cls:=.type "list",data:=.seq its.toArray n }
  | .tup xs=>xs.length ≤ sizeLine∧∃ its:List Value,Vals xs its∧IsTup h a its.toArray
  | .dK kvs=>kvs.length ≤ sizeLine∧(a == sysModules)=false∧∃ vs,KV kvs vs∧h.DictOf (mixKind P w) a vs
  | .dT kvs=>kvs.length ≤ sizeLine∧(a == sysModules)=false∧∃ xs:List (List Key×Addr×Value),
      Paired (fun (p:List Key×V) (q:List Key×Addr×Value)=>p.1=q.1∧H q.2.1=some (.tup (p.1.map kV))∧RelV p.2 q.2.2) kvs xs ∧
      ∃ o es ep,h.get? a=some o∧o.ExactDict∧o.data = .dict es ep∧es.toList=xs.map (entryOfKey (tupleKind (mixKind P w)))∧(xs.map (·.1)).Nodup
  | .set S n=>h.SetOf (intKind P w) a S n
  | .ins C dx fs=>H dx=some (.own a)∧fs.length ≤ 1000∧dx ≠ a∧h.get? a=some (PySem.W.instObj C dx) ∧
      ∃ mA,h.Ns1 dx mA∧(∀ f,RelO (fs.lookup f) (mA f))∧PySem.Within mA (fs.map (·.1))
  | .own _=>∃ o,h.get? a=some o
  | .xd fs=>∃ mA,h.Ns1 a mA∧∀ f,RelO (fs.lookup f) (mA f)
  | .rng lo hi=>∃ t u v,h.get? a=some { cls:=.type "range",data:=.fields #[.int lo t,.int hi u,.int 1 v] }
  | .frz o u=>h.get? a=some o∧ObjOk H h a u
  | .tbl ps=>h.get? a=some { cls:=.none,data:=.fields ps }
  | .met f x=>h.get? a=some (PySem.W.methodObj (.ref f) (.ref x))
  | .ext φ=>φ h∧(∃ o,h.get? a=some o)∧∀ h1 h2:Heap,φ h1→(∀ o,h1.get? a=some o→h2.get? a=some o)→φ h2
noncomputable def HOk (H:Hp) (h:Heap):Prop:=∀ a o,H a=some o→ObjOk P w H h a o
end
section
variable {P:Program}{w:World}{H H':Hp}{h h':Heap}{a:Addr}{o:HO}
theorem ObjOk.lt (x:ObjOk P w H h a o):a < h.objs.size:=by
  cases o with
  | lst xs=>obtain ⟨_,_,_,_,e⟩:=x; exact Heap.lt_size e
  | tup xs=>obtain ⟨_,_,_,p⟩:=x; exact p.lt
  | dK kvs=>obtain ⟨_,_,_,_,o,_,_,e,_⟩:=x; exact Heap.lt_size e
  | dT kvs=>obtain ⟨_,_,_,_,o,_,_,e,_⟩:=x; exact Heap.lt_size e
  | set S n=>obtain ⟨o,_,_,_,e,_⟩:=x; exact Heap.lt_size e
  | ins C dx fs=>obtain ⟨_,_,_,e,_⟩:=x; exact Heap.lt_size e
  | own y=>obtain ⟨_,e⟩:=x; exact Heap.lt_size e
  | xd fs=>obtain ⟨_,⟨_,_,_,e,_⟩,_⟩:=x; exact Heap.lt_size e
  | rng lo hi=>obtain ⟨_,_,_,e⟩:=x; exact Heap.lt_size e
  | frz ob u=>obtain ⟨e,_⟩:=x; exact Heap.lt_size e
  | tbl ps=>exact Heap.lt_size (show h.get? a=some _ from x)
  | met f y=>exact Heap.lt_size (show h.get? a=some _ from x)
  | ext φ=>obtain ⟨_,⟨_,e⟩,_⟩:=x; exact Heap.lt_size e
theorem Paired.mapP {α β:Type}{F G:α→β→Prop}:∀ {l₁:List α}{l₂:List β},Paired F l₁ l₂→(∀ a b,F a b→G a b)→Paired G l₁ l₂
  | _,_,.nil,_=>.nil
  | _,_,.cons r t,f=>.cons (f _ _ r) (Paired.mapP t f)
theorem ObjOk.stay (x:ObjOk P w H h a o) (k:∀ b u,(b=a∨H b=some (.own a))→h.get? b=some u→h'.get? b=some u)
    (ho:∀ b,H b=some (.own a)→H' b=some (.own a)) (ht:∀ b xs,H b=some (.tup xs)→H' b=some (.tup xs)):ObjOk P w H' h' a o:=by
  induction o with
  | lst xs=>obtain ⟨z,its,n,r,e⟩:=x; exact ⟨z,its,n,r,k _ _ (.inl rfl) e⟩
  | tup xs=>obtain ⟨z,its,r,ob,e,c⟩:=x; exact ⟨z,its,r,ob,k _ _ (.inl rfl) e,c⟩
  | dK kvs=>obtain ⟨z,y,vs,r,ob,es,ep,e,c⟩:=x; exact ⟨z,y,vs,r,ob,es,ep,k _ _ (.inl rfl) e,c⟩
  | dT kvs =>
    obtain ⟨z,y,xs,r,ob,es,ep,e,c⟩:=x
    exact ⟨z,y,xs,Paired.mapP r fun p q z=>⟨z.1,ht _ _ z.2.1,z.2.2⟩,ob,es,ep,k _ _ (.inl rfl) e,c⟩
  | set S n=>obtain ⟨ob,es,ep,t,e,c⟩:=x; exact ⟨ob,es,ep,t,k _ _ (.inl rfl) e,c⟩
  | ins C dx fs =>
    obtain ⟨d,z,ne,e,mA,⟨od,es,ep,e2,c⟩,r⟩:=x
    exact ⟨ho _ d,z,ne,k _ _ (.inl rfl) e,mA,⟨od,es,ep,k _ _ (.inr d) e2,c⟩,r⟩
  | own y=>obtain ⟨ob,e⟩:=x; exact ⟨ob,k _ _ (.inl rfl) e⟩
  | xd fs=>obtain ⟨mA,⟨od,es,ep,e,c⟩,r⟩:=x; exact ⟨mA,⟨od,es,ep,k _ _ (.inl rfl) e,c⟩,r⟩
  | rng lo hi=>obtain ⟨t,u,v,e⟩:=x; exact ⟨t,u,v,k _ _ (.inl rfl) e⟩
  | frz ob u ih=>obtain ⟨e,q⟩:=x; exact ⟨k _ _ (.inl rfl) e,ih q⟩
  | tbl ps =>
    have e:h.get? a=some { cls:=.none,data:=.fields ps }:=x
    show h'.get? a=some { cls:=.none,data:=.fields ps }
    exact k a _ (.inl rfl) e
  | met f y =>
    have e:h.get? a=some (PySem.W.methodObj (.ref f) (.ref y)):=x
    show h'.get? a=some (PySem.W.methodObj (.ref f) (.ref y))
    exact k a _ (.inl rfl) e
  | ext φ=>obtain ⟨p,⟨o,e⟩,st⟩:=x; exact ⟨st _ _ p fun o q=>k _ _ (.inl rfl) q,⟨o,k _ _ (.inl rfl) e⟩,st⟩
theorem HOk.lt (x:HOk P w H h) (e:H a=some o):a < h.objs.size:=(x a o e).lt
theorem HOk.fresh (x:HOk P w H h) (e:h.objs.size ≤ a):H a=none:=by
  cases q:H a with
  | none=>rfl
  | some u=>exact absurd (Nat.lt_of_lt_of_le (x.lt q) e) (Nat.lt_irrefl _)
theorem HOk.kept (x:HOk P w H h) (k:∀ b u,h.get? b=some u→h'.get? b=some u):HOk P w H h':=fun a o e =>
  (x a o e).stay (fun b u _ q=>k b u q) (fun _ q=>q) fun _ _ q=>q
theorem HOk.laid (x:HOk P w H h) (k:∀ b u,h.get? b=some u→h'.get? b=some u) (hp:h.objs.size ≤ a) (new:ObjOk P w (upd H a o) h' a o):HOk P w (upd H a o) h':=fun b u e=>by
  have hn:=x.fresh hp
  by_cases hb:b=a
  · subst hb; rw [upd_same] at e; cases e; exact new
  · rw [upd_ne hb] at e
    exact (x b u e).stay (fun c v _ q=>k c v q) (fun c q=>by rw [upd_ne (ne_of_none q hn)]; exact q) fun c xs q=>by rw [upd_ne (ne_of_none q hn)]; exact q
end
noncomputable def Rd (H:Hp) (a:Addr) (u:HO):Prop:=H a=some u∨∃ o,H a=some (.frz o u)
theorem Rd.of {H:Hp}{a:Addr}{u:HO}(h:H a=some u):Rd H a u:=.inl h
theorem Rd.ok {P:Program}{w:World}{H:Hp}{h:Heap}{a:Addr}{u:HO}(r:Rd H a u) (x:HOk P w H h):ObjOk P w H h a u:=by
  rcases r with r | ⟨o,r⟩
  · exact x a u r
  · obtain ⟨_,q⟩:=x a _ r
    exact q
noncomputable def Mut:Option HO→Prop
  | some (.lst _)=>True
  | some (.dK _)=>True
  | some (.dT _)=>True
  | some (.set _ _)=>True
  | some (.ins _ _ _)=>True
  | some (.ext _)=>True
  | _=>False
section
variable {P:Program}{w:World}{H:Hp}{h h':Heap}{x e:Addr}{o':HO}
theorem HOk.write (ok:HOk P w H h) (mu:Mut (H x)) (he:e=x∨H e=some (.own x)) (k:∀ b u,b ≠ e→h.get? b=some u→h'.get? b=some u) (heo:∃ u,h'.get? e=some u)
    (new:ObjOk P w (upd H x o') h' x o'):HOk P w (upd H x o') h':=fun b u q=>by
  have nown:∀ c y,H c=some (.own y)→c ≠ x:=fun c y r z=>by subst z; rw [r] at mu; exact mu
  have ntup:∀ c xs,H c=some (.tup xs)→c ≠ x:=fun c xs r z=>by subst z; rw [r] at mu; exact mu
  by_cases hb:b=x
  · subst hb; rw [upd_same] at q; cases q; exact new
  · rw [upd_ne hb] at q
    by_cases hbe:b=e
    · have q':H b=some (.own x):=by
        rcases he with z | z
        · exact absurd (hbe.trans z) hb
        · rw [hbe]; exact z
      rw [q] at q'; cases q'
      obtain ⟨v,hv⟩:=heo
      exact ⟨v,by rw [hbe]; exact hv⟩
    · refine (ok b u q).stay (fun c v hc r=>k c v ?_ r) (fun c r=>by rw [upd_ne (nown c b r)]; exact r) fun c xs r=>by rw [upd_ne (ntup c xs r)]; exact r
      rcases hc with rfl | hc
      · exact hbe
      · rintro rfl
        rcases he with z | z
        · exact nown c b hc z
        · rw [hc] at z; cases z; exact hb rfl
end
structure Un (fs ex:List Addr) (H H':Hp) (h h':Heap):Prop where
  keep:∀ b o,h.get? b=some o→H b=none→b ∉ fs→b ∉ ex→h'.get? b=some o
  slot:∀ b o,h.get? b=some o→H b=none→b ∈ fs→b ∉ ex→∃ sl,h'.get? b=some { o with slots:=sl }
  free:∀ b o,h.get? b=some o→H b=none→b ∉ ex→H' b=none
  there:∀ b o,h.get? b=some o→b ∉ ex→∃ o',h'.get? b=some o'
  tups:∀ b xs,H b=some (.tup xs)→H' b=some (.tup xs)
  frzs:∀ b o u,H b=some (.frz o u)→H' b=some (.frz o u)
  tbls:∀ b ps,H b=some (.tbl ps)→∃ more,H' b=some (.tbl (ps ++ more))
section
variable {fs fs' ex ex':List Addr}{H H1 H2:Hp}{h h1 h2 h':Heap}{a x e:Addr}{o:HO}
theorem Un.any (u:Un fs ex H H1 h h1) {b:Addr}{ob:Obj}(q:h.get? b=some ob) (n:H b=none) (hx:b ∉ ex):∃ sl,h1.get? b=some { ob with slots:=sl }:=by
  by_cases hb:b ∈ fs
  · exact u.slot b ob q n hb hx
  · exact ⟨ob.slots,u.keep b ob q n hb hx⟩
theorem Un.trans (a:Un fs ex H H1 h h1) (b:Un fs ex H1 H2 h1 h2):Un fs ex H H2 h h2 where
  keep:=fun c ob q n hc hx=>b.keep c ob (a.keep c ob q n hc hx) (a.free c ob q n hx) hc hx
  slot:=fun c ob q n hc hx=>by
    obtain ⟨sl,e1⟩:=a.slot c ob q n hc hx
    obtain ⟨sl',e2⟩:=b.slot c _ e1 (a.free c ob q n hx) hc hx
    exact ⟨sl',e2⟩
  free:=fun c ob q n hx=>by
    obtain ⟨o',e1⟩:=a.there c ob q hx
    exact b.free c o' e1 (a.free c ob q n hx) hx
  there:=fun c ob q hx=>by
    obtain ⟨o',e1⟩:=a.there c ob q hx
    exact b.there c o' e1 hx
  tups:=fun c xs q=>b.tups c xs (a.tups c xs q)
  frzs:=fun c ob xs q=>b.frzs c ob xs (a.frzs c ob xs q)
  tbls:=fun c ps q=>by
    obtain ⟨m1,e1⟩:=a.tbls c ps q
    obtain ⟨m2,e2⟩:=b.tbls c _ e1
    exact ⟨m1 ++ m2,by rw [e2,Array.append_assoc]⟩
theorem Un.kept (k:∀ b u,h.get? b=some u→h'.get? b=some u):Un fs ex H H h h' :=
  ⟨fun b ob q _ _ _=>k b ob q,fun b ob q _ _ _=>⟨ob.slots,k b ob q⟩,fun _ _ _ n _=>n,fun b ob q _=>⟨ob,k b ob q⟩,fun _ _ q=>q,fun _ _ _ q=>q,fun _ ps q=>⟨#[],by rw [q]; simp⟩⟩
theorem Un.refl:Un fs ex H H h h:=Un.kept fun _ _ q=>q
theorem Un.laid (k:∀ b u,h.get? b=some u→h'.get? b=some u) (hp:h.objs.size ≤ a) (hn:H a=none):Un fs ex H (upd H a o) h h' where
  keep:=fun b u q _ _ _=>k b u q
  slot:=fun b u q _ _ _=>⟨u.slots,k b u q⟩
  free:=fun b u q n _=>by rw [upd_ne (Nat.ne_of_lt (Nat.lt_of_lt_of_le (Heap.lt_size q) hp))]; exact n
  there:=fun b u q _=>⟨u,k b u q⟩
  tups:=fun b xs q=>by rw [upd_ne (ne_of_none q hn)]; exact q
  frzs:=fun b u xs q=>by rw [upd_ne (ne_of_none q hn)]; exact q
  tbls:=fun b ps q=>⟨#[],by rw [upd_ne (ne_of_none q hn),q]; simp⟩
theorem Un.write (mu:Mut (H x)) (he:e=x∨H e=some (.own x)) (k:∀ b u,b ≠ e→h.get? b=some u→h'.get? b=some u) (heo:∃ u,h'.get? e=some u):Un fs ex H (upd H x o) h h':=by
  have hx:∀ b,H b=none→b ≠ x:=fun b n z=>by subst z; rw [n] at mu; exact mu
  have hb:∀ b,H b=none→b ≠ e:=fun b n z=>by
    subst z
    rcases he with r | r
    · exact hx b n r
    · rw [n] at r; cases r
  have hm:∀ b u,H b=some u→¬ Mut (some u)→b ≠ x:=fun b u q nm z=>by subst z; rw [q] at mu; exact nm mu
  refine ⟨fun b u q n _ _=>k b u (hb b n) q,fun b u q n _ _=>⟨u.slots,k b u (hb b n) q⟩,fun b u q n _=>by rw [upd_ne (hx b n)]; exact n,fun b u q _=>?_,
    fun b xs q=>by rw [upd_ne (hm b _ q fun z=>z)]; exact q,fun b u xs q=>by rw [upd_ne (hm b _ q fun z=>z)]; exact q,fun b ps q=>⟨#[],by rw [upd_ne (hm b _ q fun z=>z),q]; simp⟩⟩
  by_cases hbe:b=e
  · subst hbe; exact heo
  · exact ⟨u,k b u hbe q⟩
end
noncomputable def trk (h:Heap) (H:Hp):List Addr:=(List.range h.objs.size).filter fun a=>(H a).isSome
noncomputable def hidT (h:Heap) (H:Hp):Heap:=PySem.W.hideAll h (trk h H)
theorem hidT_size (h:Heap) (H:Hp):(hidT h H).objs.size=h.objs.size:=PySem.W.hideAll_size _ _
theorem hidT_get {h:Heap}{H:Hp}{b:Addr}{o:Obj}(e:h.get? b=some o) (n:H b=none):(hidT h H).get? b=some o :=
  PySem.W.hideAll_get _ e fun hm=>by
    have q:(H b).isSome=true:=(List.mem_filter.mp hm).2
    rw [n] at q; simp at q
theorem of_hidT {h:Heap}{H:Hp}{b:Addr}{o:Obj}(e:(hidT h H).get? b=some o):h.get? b=some o∧H b=none:=by
  have e':h.get? b=some o:=PySem.W.of_hideAll (trk h H) e
  refine ⟨e',?_⟩
  cases q:H b with
  | none=>rfl
  | some x =>
    have hm:b ∈ trk h H:=List.mem_filter.mpr ⟨List.mem_range.mpr (Heap.lt_size e'),by simp [q]⟩
    have z:(hidT h H).get? b=none:=PySem.W.hideAll_none (trk h H) hm
    rw [z] at e; cases e
noncomputable def allNews (g h:Heap) (L:Addr):List (Addr×Obj):=(List.range h.objs.size).filterMap fun a=>if a=L∨(g.get? a).isSome=true then none else (h.get? a).map fun o=>(a,o)
noncomputable def rest (g h:Heap) (L d:Addr):List (Addr×Obj):=(allNews g h L).filter fun p=>decide (p.1 ≠ d)
structure Mod (K:PySem.W.Frag) (mg:Str→Option Value) (base:Heap):Prop where
  kin:K.In base
  glob:base.Ns mainGlobals mg
  blt:∃ mb,base.Ns builtinsNs mb∧∀ x:Str,x ≠ "__name__"→mb x=bootBuiltins x
  nolimit:base.NoLimit
structure Cx where
  prog:Program
  w:World
  K:PySem.W.Frag
  mg:Str→Option Value
  base:Heap
  A:Around
  N:List Str
  s₀:Shared
  H₀:Hp
  env:Env
  outer:List Env
  stack:List Env
  ex:List Addr
  fn:Str→Bool
  calm:Bool
  pn:List (Addr×Obj)
  xe:Value→Shared→Prop
noncomputable def frs (l:List Env):List Addr:=l.filterMap (·.frame)
noncomputable abbrev Cx.fs (X:Cx):List Addr:=frs X.outer
noncomputable def Vis (sc:Scope) (x:Str):Prop:=sc.names.lookup x=some .local∨sc.names.lookup x=some .cell∨sc.names.lookup x=some .free
noncomputable def Loc (sc:Scope) (x:Str):Prop:=sc.names.lookup x=some .local∨sc.names.lookup x=some .cell
noncomputable def Look (env:Env) (h:Heap) (m:Str→Option Value) (x:Str) (u:Value):Prop :=
  (env.kindOf x=some .local∧m x=some u)∨((env.kindOf x=some .cell∨env.kindOf x=some .free)∧∃ c,env.cells.lookup x=some c∧h.IsCell c (some u))
structure Cx.Ok (X:Cx):Prop where
  mod:Mod X.K X.mg X.base
  kind:X.env.scope.kind = .function
  glob:X.env.globals=mainGlobals
  blt:X.env.builtins=builtinsNs
  above:X.s₀.heap.objs.size ≤ X.env.locals
  inj:∀ x y c,X.env.cells.lookup x=some c→X.env.cells.lookup y=some c→x=y
  has:∀ x,(X.env.kindOf x=some .cell∨X.env.kindOf x=some .free)→∃ c,X.env.cells.lookup x=some c
  cab:∀ x c,X.fn x=true→X.env.cells.lookup x=some c→X.s₀.heap.objs.size ≤ c
  hd:X.calm=true→X.A.handled=none
  frames:X.A.frames=some X.stack
  stk:X.stack=X.outer∨(X.stack=X.env :: X.outer∧X.env.frame=some X.env.locals)
  exf:∀ b ∈ X.ex,b ≠ X.env.locals∧∀ x c,X.env.cells.lookup x=some c→c ≠ b
  bs:∀ b o,X.base.get? b=some o→X.s₀.heap.get? b=some o∧X.H₀ b=none
  bsz:X.base.objs.size ≤ X.s₀.heap.objs.size
  noex:∀ b o,X.base.get? b=some o→b ∉ X.ex
  exfs:∀ b ∈ X.ex,b ∉ X.fs
  funs:X.s₀.heap.FunFrames X.base X.outer
  frf:∀ b ∈ X.fs,X.H₀ b=none
structure Inv (X:Cx) (pins:List (Addr×Obj)) (σ:List (Option V)) (H:Hp) (s:Shared):Prop where
  ok:X.Ok
  os:s.os=X.s₀.os
  bare:AllBare s.gens
  base:Un X.fs X.ex X.H₀ H X.s₀.heap s.heap
  loc:∃ m,s.heap.Ns X.env.locals m∧∀ (i:Nat) (x:Str) (v:V),X.N[i]? = some x→σ[i]? = some (some v)→Vis X.env.scope x→∃ u,RelV v u∧Look X.env s.heap m x u
  cell:∀ x c,X.env.cells.lookup x=some c→∃ v,s.heap.IsCell c v
  free:H X.env.locals=none
  freeC:∀ x c,X.env.cells.lookup x=some c→H c=none
  pin:∀ p ∈ X.pn ++ pins,s.heap.get? p.1=some p.2∧H p.1=none∧p.1 ≠ X.env.locals∧p.1 ∉ X.fs∧∀ v,p.2.data ≠ .cell v
  hok:HOk X.prog X.w H s.heap
  len:σ.length=X.N.length
section
variable {X:Cx}{pins:List (Addr×Obj)}{σ:List (Option V)}{H H':Hp}{s:Shared}{h':Heap}
theorem Cx.Ok.nofr (ok:X.Ok) {b:Addr}{o:Obj}(e:X.base.get? b=some o):b ∉ X.fs:=fun hb=>by
  have:=(ok.funs.mem hb).1
  rw [e] at this; cases this
theorem Inv.bs (I:Inv X pins σ H s):∀ b o,X.base.get? b=some o→s.heap.get? b=some o∧H b=none:=fun b o e =>
  ⟨I.base.keep b o (I.ok.bs b o e).1 (I.ok.bs b o e).2 (I.ok.nofr e) (I.ok.noex b o e),I.base.free b o (I.ok.bs b o e).1 (I.ok.bs b o e).2 (I.ok.noex b o e)⟩
theorem Inv.bk (I:Inv X pins σ H s):∀ b o,X.base.get? b=some o→s.heap.get? b=some o:=fun b o e=>(I.bs b o e).1
theorem Inv.mod (I:Inv X pins σ H s):Mod X.K X.mg X.base:=I.ok.mod
theorem Inv.kIn (I:Inv X pins σ H s):X.K.In s.heap:=I.ok.mod.kin.keeps I.bk
theorem Inv.nolimit (I:Inv X pins σ H s):s.heap.NoLimit:=I.ok.mod.nolimit.keeps I.bk
theorem Inv.fr (I:Inv X pins σ H s):∃ m,Fr X.base X.env.locals s.heap m :=
  let ⟨m,hn,_⟩:=I.loc
  ⟨m,hn,I.bk,Nat.le_trans I.ok.bsz I.ok.above⟩
theorem Inv.lt (I:Inv X pins σ H s):X.env.locals < s.heap.objs.size:=let ⟨_,hn,_⟩:=I.loc; hn.lt
theorem Inv.sz (I:Inv X pins σ H s):X.s₀.heap.objs.size ≤ s.heap.objs.size:=Nat.le_trans I.ok.above (Nat.le_of_lt I.lt)
theorem Inv.nofs (I:Inv X pins σ H s) {a:Addr}(h:s.heap.objs.size ≤ a):a ∉ X.fs:=fun hb=>by
  obtain ⟨_,o,ho,_⟩:=I.ok.funs.mem hb
  exact absurd (Nat.lt_of_lt_of_le (Heap.lt_size ho) (Nat.le_trans I.sz h)) (Nat.lt_irrefl _)
theorem Inv.cne (I:Inv X pins σ H s):∀ x c,X.env.cells.lookup x=some c→c ≠ X.env.locals:=fun x c e z=>by
  obtain ⟨v,o,ho,hd⟩:=I.cell x c e
  obtain ⟨m,⟨o',es,ep,ho',hd',_⟩,_⟩:=I.loc
  rw [z,ho'] at ho; cases ho; rw [hd'] at hd; cases hd
theorem Inv.funs (I:Inv X pins σ H s):s.heap.FunFrames X.base X.outer:=by
  have all:∀ (l:List Env),(∀ b ∈ frs l,b ∈ X.fs)→X.s₀.heap.FunFrames X.base l→s.heap.FunFrames X.base l:=by
    intro l
    induction l with
    | nil=>intro _ _; trivial
    | cons env r ih =>
      intro hs hl
      obtain ⟨hk,⟨L,o,hf,hn,ho,hd⟩,hr⟩:=hl
      have hL:L ∈ X.fs:=hs L (by unfold frs; rw [List.filterMap_cons,hf]; exact List.mem_cons_self)
      obtain ⟨sl,e⟩:=I.base.slot L o ho (I.ok.frf L hL) hL fun z=>I.ok.exfs L z hL
      exact ⟨hk,⟨L,_,hf,hn,e,hd⟩,ih (fun b hb=>hs b (by unfold frs; rw [List.filterMap_cons,hf]; exact List.mem_cons_of_mem _ hb)) hr⟩
  exact all X.outer (fun _ hb=>hb) I.ok.funs
theorem Inv.stack (I:Inv X pins σ H s):s.heap.FunFrames X.base X.stack:=by
  rcases I.ok.stk with e | ⟨e,hf⟩
  · rw [e]; exact I.funs
  · rw [e]
    obtain ⟨m,hn,_⟩:=I.loc
    refine .cons (by rw [I.ok.kind]; decide) hf hn ?_ I.funs
    exact Heap.get?_none_of_le (Nat.le_trans I.ok.bsz I.ok.above)
theorem Inv.stkSub (I:Inv X pins σ H s):∀ b ∈ frs X.stack,b ∈ X.env.locals :: X.fs:=fun b hb=>by
  rcases I.ok.stk with e | ⟨e,hf⟩
  · rw [e] at hb; exact List.mem_cons_of_mem _ hb
  · rw [e] at hb
    unfold frs at hb
    rw [List.filterMap_cons,hf] at hb
    exact hb
theorem Inv.stkFree (I:Inv X pins σ H s):∀ b ∈ frs X.stack,H b=none:=fun b hb=>by
  rcases List.mem_cons.mp (I.stkSub b hb) with e | hb
  · rw [e]; exact I.free
  · obtain ⟨_,o,ho,_⟩:=I.ok.funs.mem hb
    exact I.base.free b o ho (I.ok.frf b hb) fun z=>I.ok.exfs b z hb
theorem Inv.step {g':Array GenState}{t':Nat}{d':Drawn}{ch:List Addr}(I:Inv X pins σ H s)
    (hch:∀ b ∈ ch,(b ∈ X.ex∨X.s₀.heap.objs.size ≤ b)∧b ≠ X.env.locals∧(∀ x c,X.env.cells.lookup x=some c→c ≠ b)∧∀ p ∈ X.pn ++ pins,p.1 ≠ b)
    (keep:∀ b o,b ≠ X.env.locals→b ∉ X.fs→b ∉ ch→s.heap.get? b=some o→H b=none→h'.get? b=some o)
    (slot:∀ b o,b ≠ X.env.locals→b ∈ X.fs→b ∉ ch→s.heap.get? b=some o→H b=none→∃ sl,h'.get? b=some { o with slots:=sl }) (free:∀ b o,b ∉ ch→s.heap.get? b=some o→H b=none→H' b=none)
    (there:∀ b o,b ∉ ch→s.heap.get? b=some o→∃ o',h'.get? b=some o')
    (tups:∀ b xs,H b=some (.tup xs)→H' b=some (.tup xs)) (frzs:∀ b o u,H b=some (.frz o u)→H' b=some (.frz o u)) (tbls:∀ b ps,H b=some (.tbl ps)→∃ more,H' b=some (.tbl (ps ++ more)))
    (ns:∀ m,s.heap.Ns X.env.locals m→h'.Ns X.env.locals m) (hok:HOk X.prog X.w H' h') (hg:AllBare g') :
    Inv X pins σ H' { s with heap:=h',gens:=g',drawn:=d',toks:=t' }:=by
  have neL:∀ b o,X.s₀.heap.get? b=some o→b ≠ X.env.locals:=fun b o e=>Nat.ne_of_lt (Nat.lt_of_lt_of_le (Heap.lt_size e) I.ok.above)
  have neC:∀ b o,X.s₀.heap.get? b=some o→b ∉ X.ex→b ∉ ch:=fun b o e hx hb=>by
    rcases (hch b hb).1 with z | z
    · exact hx z
    · exact absurd (Nat.lt_of_lt_of_le (Heap.lt_size e) z) (Nat.lt_irrefl _)
  have cellK:∀ x c,X.env.cells.lookup x=some c→∀ v,s.heap.IsCell c v→h'.IsCell c v:=fun x c e v ⟨o,ho,hd⟩=>by
    have nch:c ∉ ch:=fun z=>(hch c z).2.2.1 x c e rfl
    by_cases hc:c ∈ X.fs
    · obtain ⟨sl,q⟩:=slot c o (I.cne x c e) hc nch ho (I.freeC x c e)
      exact ⟨_,q,hd⟩
    · exact ⟨o,keep c o (I.cne x c e) hc nch ho (I.freeC x c e),hd⟩
  refine ⟨I.ok,I.os,hg,⟨fun b o e n hb hx=>?_,fun b o e n hb hx=>?_,fun b o e n hx=>?_,fun b o e hx=>?_,fun b xs e=>tups b xs (I.base.tups b xs e),fun b o xs e=>frzs b o xs (I.base.frzs b o xs e),fun b ps e=>?_⟩,?_,fun x c e=>?_,?_,fun x c e=>?_,fun p hp=>?_,hok,I.len⟩
  · exact keep b o (neL b o e) hb (neC b o e hx) (I.base.keep b o e n hb hx) (I.base.free b o e n hx)
  · obtain ⟨sl,e1⟩:=I.base.slot b o e n hb hx
    obtain ⟨sl',e2⟩:=slot b _ (neL b o e) hb (neC b o e hx) e1 (I.base.free b o e n hx)
    exact ⟨sl',e2⟩
  · obtain ⟨o',e1⟩:=I.base.there b o e hx
    exact free b o' (neC b o e hx) e1 (I.base.free b o e n hx)
  · obtain ⟨o',e1⟩:=I.base.there b o e hx
    exact there b o' (neC b o e hx) e1
  · obtain ⟨m1,e1⟩:=I.base.tbls b ps e
    obtain ⟨m2,e2⟩:=tbls b _ e1
    exact ⟨m1 ++ m2,by rw [e2,Array.append_assoc]⟩
  · obtain ⟨m,hn,hl⟩:=I.loc
    refine ⟨m,ns m hn,fun i x v e1 e2 e3=>?_⟩
    obtain ⟨u,r,l⟩:=hl i x v e1 e2 e3
    refine ⟨u,r,?_⟩
    rcases l with l | ⟨k,c,e,z⟩
    · exact .inl l
    · exact .inr ⟨k,c,e,cellK x c e _ z⟩
  · obtain ⟨v,z⟩:=I.cell x c e
    exact ⟨v,cellK x c e v z⟩
  · obtain ⟨m,⟨o,_,_,ho,_⟩,_⟩:=I.loc
    exact free _ o (fun z=>(hch _ z).2.1 rfl) ho I.free
  · obtain ⟨v,o,ho,hd⟩:=I.cell x c e
    exact free c o (fun z=>(hch c z).2.2.1 x c e rfl) ho (I.freeC x c e)
  · obtain ⟨e,n,ne,nf,d⟩:=I.pin p hp
    have nch:p.1 ∉ ch:=fun z=>(hch p.1 z).2.2.2 p hp rfl
    exact ⟨keep p.1 p.2 ne nf nch e n,free p.1 p.2 nch e n,ne,nf,d⟩
theorem Inv.un {t':Nat}(I:Inv X pins σ H s) (u:Un X.fs [] H H' s.heap h') (hok:HOk X.prog X.w H' h'):Inv X pins σ H' { s with heap:=h',toks:=t' }:=by
  obtain ⟨m,⟨o,es,ep,ho,r⟩,_⟩:=id I.loc
  obtain ⟨sl,hL⟩:=u.any ho I.free (by simp)
  exact I.step (g':=s.gens) (d':=s.drawn) (ch:=[]) (fun _ z=>nomatch z) (fun b o _ hb _ e n=>u.keep b o e n hb (by simp)) (fun b o _ hb _ e n=>u.slot b o e n hb (by simp)) (fun b o _ e n=>u.free b o e n (by simp)) (fun b o _ e=>u.there b o e (by simp)) u.tups u.frzs u.tbls (fun m' hm=>by
    obtain ⟨o',es',ep',ho',r'⟩:=hm
    rw [ho] at ho'; cases ho'
    exact ⟨_,es',ep',hL,r'⟩) hok I.bare
theorem Inv.call {g':Array GenState}{t':Nat}{d':Drawn}{ch:List Addr}(I:Inv X pins σ H s) (u:Un (frs X.stack) ch H H' s.heap h') (hok:HOk X.prog X.w H' h') (hg:AllBare g')
    (hch:∀ b ∈ ch,(b ∈ X.ex∨X.s₀.heap.objs.size ≤ b)∧b ≠ X.env.locals∧(∀ x c,X.env.cells.lookup x=some c→c ≠ b)∧∀ p ∈ X.pn ++ pins,p.1 ≠ b) :
    Inv X pins σ H' { s with heap:=h',gens:=g',drawn:=d',toks:=t' }:=by
  obtain ⟨m,⟨o,es,ep,ho,r⟩,_⟩:=id I.loc
  obtain ⟨sl,hL⟩:=u.any ho I.free fun z=>(hch _ z).2.1 rfl
  exact I.step (ch:=ch) hch (fun b o hL hb hc e n=>u.keep b o e n (fun z=>(List.mem_cons.mp (I.stkSub b z)).elim hL hb) hc) (fun b o _ _ hc e n=>u.any e n hc) (fun b o hc e n=>u.free b o e n hc) (fun b o hc e=>u.there b o e hc) u.tups u.frzs u.tbls (fun m' hm=>by
    obtain ⟨o',es',ep',ho',r'⟩:=hm
    rw [ho] at ho'; cases ho'
    exact ⟨_,es',ep',hL,r'⟩) hok hg
theorem Inv.turned {t':Nat}{it:Addr}(I:Inv X pins σ H s) (k:∀ b o,b ≠ it→s.heap.get? b=some o→h'.get? b=some o) (hn:H it=none) (hL:it ≠ X.env.locals)
    (h1:it ∈ X.ex∨X.s₀.heap.objs.size ≤ it) (h2:∀ x c,X.env.cells.lookup x=some c→c ≠ it) (h3:∀ p ∈ X.pn ++ pins,p.1 ≠ it):Inv X pins σ H { s with heap:=h',toks:=t' }:=by
  have nit:∀ b u,H b=some u→b ≠ it:=fun b u e z=>by rw [z,hn] at e; cases e
  refine I.step (g':=s.gens) (d':=s.drawn) (ch:=[it]) (fun b hb=>?_) (fun b o _ _ hc e _=>k b o (fun z=>hc (by simp [z])) e) (fun b o _ _ hc e _=>⟨o.slots,k b o (fun z=>hc (by simp [z])) e⟩) (fun _ _ _ _ n=>n)
    (fun b o hc e=>⟨o,k b o (fun z=>hc (by simp [z])) e⟩) (fun _ _ e=>e) (fun _ _ _ e=>e) (fun b ps e=>⟨#[],by rw [e]; simp⟩) (fun m hm=>?_) (fun b u e=>?_) I.bare
  · have e:b=it:=by simpa using hb
    subst e
    exact ⟨h1,hL,h2,h3⟩
  · obtain ⟨o,es,ep,ho,r⟩:=hm
    exact ⟨o,es,ep,k _ o (Ne.symm hL) ho,r⟩
  · refine (I.hok b u e).stay (fun c v hc q=>k c v ?_ q) (fun _ q=>q) fun _ _ q=>q
    rcases hc with z | z
    · rw [z]; exact nit b u e
    · exact nit c _ z
theorem Inv.tok (I:Inv X pins σ H s) (t:Nat):Inv X pins σ H { s with toks:=t }:=I.un (h':=s.heap) (t':=t) Un.refl I.hok
theorem Inv.kept {t':Nat}(I:Inv X pins σ H s) (k:∀ b u,s.heap.get? b=some u→h'.get? b=some u):Inv X pins σ H { s with heap:=h',toks:=t' }:=I.un (Un.kept k) (I.hok.kept k)
theorem Inv.laid {a:Addr}{o:HO}{t':Nat}(I:Inv X pins σ H s) (k:∀ b u,s.heap.get? b=some u→h'.get? b=some u) (hp:s.heap.objs.size ≤ a) (new:ObjOk X.prog X.w (upd H a o) h' a o) :
    Inv X pins σ (upd H a o) { s with heap:=h',toks:=t' }:=I.un (Un.laid k hp (I.hok.fresh hp)) (I.hok.laid k hp new)
theorem Inv.write {x e:Addr}{o:HO}{t':Nat}(I:Inv X pins σ H s) (mu:Mut (H x)) (he:e=x∨H e=some (.own x)) (k:∀ b u,b ≠ e→s.heap.get? b=some u→h'.get? b=some u) (heo:∃ u,h'.get? e=some u)
    (new:ObjOk X.prog X.w (upd H x o) h' x o):Inv X pins σ (upd H x o) { s with heap:=h',toks:=t' }:=I.un (Un.write mu he k heo) (I.hok.write mu he k heo new)
theorem Inv.pins_of {pins':List (Addr×Obj)}(I:Inv X pins σ H s) (h:∀ p ∈ pins',s.heap.get? p.1=some p.2∧H p.1=none∧p.1 ≠ X.env.locals∧p.1 ∉ X.fs∧∀ v,p.2.data ≠ .cell v):Inv X pins' σ H s :=
  ⟨I.ok,I.os,I.bare,I.base,I.loc,I.cell,I.free,I.freeC,fun p hp=>(List.mem_append.mp hp).elim (fun z=>I.pin p (List.mem_append_left _ z)) (h p),I.hok,I.len⟩
theorem nodup_ix {N:List Str}(hN:N.Nodup) {i j:Nat}{x:Str}(a:N[i]? = some x) (b:N[j]? = some x):i=j:=by
  obtain ⟨h1,e1⟩:=List.getElem?_eq_some_iff.mp a
  obtain ⟨h2,e2⟩:=List.getElem?_eq_some_iff.mp b
  exact (List.getElem_inj hN).mp (e1.trans e2.symm)
theorem store_ok2 {M:Model}{A:Around}{E:Value→Shared→Prop}{i:Nat}{x:Str}{v:V}{u:Value}{Q:Unit→Shared→Prop}(I:Inv X pins σ H s) (hN:X.N.Nodup) (hi:X.N[i]? = some x) (hx:Loc X.env.scope x) (r:RelV v u)
    (h:∀ s',Inv X pins (σ.set i (some v)) H s'→(∃ a,Heap.SameBut a s.heap s'.heap∧(a=X.env.locals∨X.env.cells.lookup x=some a))→Q () s') (hf:X.fn x=true∨X.env.scope.names.lookup x=some .local:=by first | exact .inl rfl | exact .inr rfl | assumption):wpAny M A (storeName X.env x u) Q E s:=by
  obtain ⟨m,hn,hl⟩:=id I.loc
  have hcls:(X.env.scope.kind == .class || (X.env.scope.kind == .module && X.env.locals != X.env.globals))=false:=by rw [I.ok.kind]; rfl
  have hiσ:i < σ.length:=by rw [I.len]; exact (List.getElem?_eq_some_iff.mp hi).1
  have cne:=I.cne
  have tracked:∀ {a:Addr}{h':Heap},(∃ o,s.heap.get? a=some o∧H a=none)→Heap.SameBut a s.heap h'→HOk X.prog X.w H h':=fun {a h'} ha hs b ob e=>by
    obtain ⟨_,_,hfree⟩:=ha
    refine (I.hok b ob e).stay (fun c w' hc q=>(hs.2 c ?_).trans q) (fun _ q=>q) fun _ _ q=>q
    rintro rfl
    rcases hc with rfl | hc
    · rw [hfree] at e; cases e
    · rw [hfree] at hc; cases hc
  rcases hx with hk | hk
  · refine wpAny_storeName_local hk hn (fun h' hn' hs=>?_) hcls
    obtain ⟨oL,_,_,hoL,_⟩:=id hn
    refine h _ ⟨I.ok,I.os,I.bare,⟨fun b o e n hb hx=>?_,fun b o e n hb hx=>?_,I.base.free,fun b o e hx=>?_,I.base.tups,I.base.frzs,I.base.tbls⟩,⟨_,hn',fun j y v' e1 e2 e3=>?_⟩,fun y c e=>?_,I.free,I.freeC,fun p hp=>?_,tracked ⟨oL,hoL,I.free⟩ hs,by simpa using I.len⟩ ⟨_,hs,.inl rfl⟩
    · exact (hs.2 b (Nat.ne_of_lt (Nat.lt_of_lt_of_le (Heap.lt_size e) I.ok.above))).trans (I.base.keep b o e n hb hx)
    · obtain ⟨sl,e1⟩:=I.base.slot b o e n hb hx
      exact ⟨sl,(hs.2 b (Nat.ne_of_lt (Nat.lt_of_lt_of_le (Heap.lt_size e) I.ok.above))).trans e1⟩
    · obtain ⟨o',e1⟩:=I.base.there b o e hx
      exact ⟨o',(hs.2 b (Nat.ne_of_lt (Nat.lt_of_lt_of_le (Heap.lt_size e) I.ok.above))).trans e1⟩
    · by_cases hj:j=i
      · subst hj
        rw [hi] at e1; cases e1
        rw [List.getElem?_set_self hiσ] at e2
        cases e2
        exact ⟨u,r,.inl ⟨hk,by simp⟩⟩
      · rw [List.getElem?_set_ne (Ne.symm hj)] at e2
        obtain ⟨u',r',q⟩:=hl j y v' e1 e2 e3
        refine ⟨u',r',?_⟩
        rcases q with ⟨k,e⟩ | ⟨k,c,e,z⟩
        · refine .inl ⟨k,?_⟩
          have:y ≠ x:=fun e=>hj (nodup_ix hN e1 (e ▸ hi))
          simp [this,e]
        · exact .inr ⟨k,c,e,z.sameBut hs (cne y c e)⟩
    · obtain ⟨w',z⟩:=I.cell y c e
      exact ⟨w',z.sameBut hs (cne y c e)⟩
    · obtain ⟨e,n,ne,nf,d⟩:=I.pin p hp
      exact ⟨(hs.2 p.1 ne).trans e,n,ne,nf,d⟩
  · have hfn:X.fn x=true:=by
      rcases hf with z | z
      · exact z
      · rw [z] at hk; cases hk
    obtain ⟨c,hc⟩:=I.ok.has x (.inl hk)
    obtain ⟨w',z⟩:=I.cell x c hc
    refine wpAny_storeName_cell I.ok.kind hk hc z (fun h' hc' hs=>?_)
    obtain ⟨oc,hoc,hocd⟩:=id z
    refine h { s with heap:=h' } ⟨I.ok,I.os,I.bare,⟨fun b o e n hb hx=>?_,fun b o e n hb hx=>?_,I.base.free,fun b o e hx=>?_,I.base.tups,I.base.frzs,I.base.tbls⟩,⟨m,hn.sameBut hs (Ne.symm (cne x c hc)),fun j y v' e1 e2 e3=>?_⟩,fun y c' e=>?_,I.free,I.freeC,fun p hp=>?_,tracked ⟨oc,hoc,I.freeC x c hc⟩ hs,by simpa using I.len⟩ ⟨c,hs,.inr hc⟩
    · exact (hs.2 b (Nat.ne_of_lt (Nat.lt_of_lt_of_le (Heap.lt_size e) (I.ok.cab x c hfn hc)))).trans (I.base.keep b o e n hb hx)
    · obtain ⟨sl,e1⟩:=I.base.slot b o e n hb hx
      exact ⟨sl,(hs.2 b (Nat.ne_of_lt (Nat.lt_of_lt_of_le (Heap.lt_size e) (I.ok.cab x c hfn hc)))).trans e1⟩
    · obtain ⟨o',e1⟩:=I.base.there b o e hx
      exact ⟨o',(hs.2 b (Nat.ne_of_lt (Nat.lt_of_lt_of_le (Heap.lt_size e) (I.ok.cab x c hfn hc)))).trans e1⟩
    · by_cases hj:j=i
      · subst hj
        rw [hi] at e1; cases e1
        rw [List.getElem?_set_self hiσ] at e2
        cases e2
        exact ⟨u,r,.inr ⟨.inl hk,c,hc,hc'⟩⟩
      · rw [List.getElem?_set_ne (Ne.symm hj)] at e2
        obtain ⟨u',r',q⟩:=hl j y v' e1 e2 e3
        refine ⟨u',r',?_⟩
        rcases q with q | ⟨k,c',e,z'⟩
        · exact .inl q
        · refine .inr ⟨k,c',e,z'.sameBut hs ?_⟩
          rintro rfl
          exact hj (nodup_ix hN e1 (I.ok.inj _ _ _ e hc ▸ hi))
    · by_cases hcc:c'=c
      · subst hcc; exact ⟨_,hc'⟩
      · obtain ⟨w2,z2⟩:=I.cell y c' e
        exact ⟨w2,z2.sameBut hs hcc⟩
    · obtain ⟨e,n,ne,nf,d⟩:=I.pin p hp
      refine ⟨(hs.2 p.1 ?_).trans e,n,ne,nf,d⟩
      intro q
      rw [q,hoc] at e
      have q':oc=p.2:=Option.some.inj e
      exact d w' (by rw [← q']; exact hocd)
theorem store_ok {M:Model}{A:Around}{E:Value→Shared→Prop}{i:Nat}{x:Str}{v:V}{u:Value}{Q:Unit→Shared→Prop}(I:Inv X pins σ H s) (hN:X.N.Nodup) (hi:X.N[i]? = some x) (hx:Loc X.env.scope x) (r:RelV v u)
    (h:∀ s',Inv X pins (σ.set i (some v)) H s'→Q () s') (hf:X.fn x=true∨X.env.scope.names.lookup x=some .local:=by first | exact .inl rfl | exact .inr rfl | assumption):wpAny M A (storeName X.env x u) Q E s :=
  store_ok2 I hN hi hx r (fun s' I' _=>h s' I') hf
end
noncomputable abbrev XK:=Value→Option Addr→Hp→Prop
noncomputable abbrev St:=List (Option V)
noncomputable abbrev VK:=V→Hp→Prop
noncomputable abbrev TE:=St→Hp→VK→Prop
noncomputable abbrev TT:=St→Hp→(Bool→Hp→Prop)→Prop
noncomputable abbrev TA:=St→Hp→(List V→Hp→Prop)→Prop
structure Ends where
  nx:St→Hp→Prop
  rt:VK
  bk:St→Hp→Prop:=fun _ _=>False
  ct:St→Hp→Prop:=fun _ _=>False
noncomputable abbrev TS:=Ends→St→Hp→Prop
noncomputable def EP (X:Cx) (pins:List (Addr×Obj)) (σ:St) (Q:VK) (u:Value) (s':Shared):Prop:=∃ v H',Inv X pins σ H' s'∧RelV v u∧Q v H'
noncomputable def TP (X:Cx) (pins:List (Addr×Obj)) (σ:St) (Q:Bool→Hp→Prop) (b:Bool) (s':Shared):Prop:=∃ H',Inv X pins σ H' s'∧Q b H'
noncomputable def AP (X:Cx) (pins:List (Addr×Obj)) (σ:St) (Q:List V→Hp→Prop) (us:List Value) (s':Shared):Prop:=∃ vs H',Inv X pins σ H' s'∧Vals vs us∧Q vs H'
noncomputable def SP (X:Cx) (pins:List (Addr×Obj)) (D:Ends) (f:Flow) (s':Shared):Prop :=
  match f with
  | .next=>∃ σ' H',Inv X pins σ' H' s'∧D.nx σ' H'
  | .brk=>∃ σ' H',Inv X pins σ' H' s'∧D.bk σ' H'
  | .cont=>∃ σ' H',Inv X pins σ' H' s'∧D.ct σ' H'
  | .ret u=>∃ v σ' H',Inv X pins σ' H' s'∧RelV v u∧D.rt v H'
noncomputable def PE (X:Cx) (e:Expr) (t:TE):Prop :=
  ∀ (pins:List (Addr×Obj)) (s:Shared) (σ:St) (H:Hp) (Q:VK),Inv X pins σ H s→t σ H Q→wpAny (model X.prog X.w) X.A (eval e X.env) (EP X pins σ Q) X.xe s
noncomputable def PT (X:Cx) (e:Expr) (t:TT):Prop :=
  ∀ (pins:List (Addr×Obj)) (s:Shared) (σ:St) (H:Hp) (Q:Bool→Hp→Prop),Inv X pins σ H s→t σ H Q→wpAny (model X.prog X.w) X.A (isTrue e X.env (eval e X.env)) (TP X pins σ Q) X.xe s
noncomputable def PW (X:Cx) (e:Expr) (t:TT):Prop :=
  ∀ (whole:Sem Value) (pins:List (Addr×Obj)) (s:Shared) (σ:St) (H:Hp) (Q:Bool→Hp→Prop),Inv X pins σ H s→t σ H Q→wpAny (model X.prog X.w) X.A (isTrue e X.env whole) (TP X pins σ Q) X.xe s
theorem PW.pt {X:Cx}{e:Expr}{t:TT}(h:PW X e t):PT X e t:=h _
noncomputable def PA (X:Cx) (es:List Expr) (t:TA):Prop :=
  ∀ (pos:Pos) (pins:List (Addr×Obj)) (s:Shared) (σ:St) (H:Hp) (Q:List V→Hp→Prop),Inv X pins σ H s→t σ H Q→wpAny (model X.prog X.w) X.A (spliced (backTo pos (starEach es X.env))) (AP X pins σ Q) X.xe s
noncomputable def PS (X:Cx) (st:Stmt) (t:TS):Prop :=
  ∀ (pins:List (Addr×Obj)) (s:Shared) (σ:St) (H:Hp) (D:Ends),Inv X pins σ H s→t D σ H→wpAny (model X.prog X.w) X.A (exec st X.env) (SP X pins D) X.xe s
noncomputable def PSs (X:Cx) (st:List Stmt) (t:TS):Prop :=
  ∀ (pins:List (Addr×Obj)) (s:Shared) (σ:St) (H:Hp) (D:Ends),Inv X pins σ H s→t D σ H→wpAny (model X.prog X.w) X.A (execs st X.env) (SP X pins D) X.xe s
theorem thn {α:Type}{t:Sem α}{Q Q':α→Shared→Prop}{M:Model}{A:Around}{E:Value→Shared→Prop}{s:Shared}(h:wpAny M A t Q E s) (hQ:∀ a s,Q a s→Q' a s):wpAny M A t Q' E s:=wpAny_mono h hQ fun _ _ x=>x
section
variable {X:Cx}
noncomputable def tVar (i:Nat):TE:=fun σ H Q=>∃ v,σ[i]? = some (some v)∧Q v H
noncomputable def tC (v:V):TE:=fun _ H Q=>Q v H
theorem pe_var {i:Nat}{x:Str}{pos:Pos}(hN:X.N[i]? = some x) (hv:Vis X.env.scope x) (hd:(x == ("__debug__":Str))=false:=by decide) (hcd:(x == ("__classdict__":Str))=false:=by decide):PE X (.Name x pos) (tVar i):=by
  intro pins s σ H Q I h
  obtain ⟨v,e,h⟩:=h
  obtain ⟨m,hn,hl⟩:=I.loc
  obtain ⟨u,r,l⟩:=hl i x v hN e hv
  have fin:EP X pins σ Q u s:=⟨v,H,I,r,h⟩
  rcases l with ⟨hk,hm⟩ | ⟨hk,c,hc,hcell⟩
  · exact wpAny_Name (wpAny_loadName_local I.ok.kind hk hn hm fin) hd
  · rcases hk with hk | hk
    · exact wpAny_Name (wpAny_loadName_cell I.ok.kind hk hc hcell fin) hd
    · exact wpAny_Name (wpAny_loadName_free I.ok.kind hk hc hcell fin hcd) hd
theorem pe_int {i j pos}:PE X (.Constant (.int i) j pos) (tC (.int i)):=fun _ _ _ H _ I h=>wpAny_Constant_int ⟨.int i,H,I.tok _,⟨_,rfl⟩,h⟩
theorem pe_bl {b j pos}:PE X (.Constant (.bool b) j pos) (tC (.bl b)):=fun _ _ _ H _ I h=>Constant_bool ⟨.bl b,H,I,rfl,h⟩
theorem pe_non {j pos}:PE X (.Constant .none j pos) (tC .non):=fun _ _ _ H _ I h=>Constant_none ⟨.non,H,I,rfl,h⟩
theorem pe_str {x j pos}:PE X (.Constant (.str x) j pos) (tC (.str x)):=fun _ _ _ H _ I h=>Calls.Constant_str ⟨.str x,H,I.tok _,⟨_,rfl⟩,h⟩
noncomputable def Gl (X:Cx) (x:Str):Prop:=X.env.kindOf x=some .globalImplicit
theorem ld_glob {E:Value→Shared→Prop}{pins:List (Addr×Obj)}{s:Shared}{σ:St}{H:Hp}{x:Str}{u:Value}{pos:Pos}{Q:Value→Shared→Prop}(I:Inv X pins σ H s) (hg:Gl X x) (hm:X.mg x=some u) (h:Q u s)
    (hd:(x == ("__debug__":Str))=false:=by decide):wpAny (model X.prog X.w) X.A (eval (.Name x pos) X.env) Q E s :=
  Calls.Name_function_global I.ok.kind hg (Calls.loadGlobal_global (by rw [I.ok.glob]; exact I.mod.glob.keeps I.bk) hm h) hd
theorem ld_blt {E:Value→Shared→Prop}{pins:List (Addr×Obj)}{s:Shared}{σ:St}{H:Hp}{x:Str}{u:Value}{pos:Pos}{Q:Value→Shared→Prop}(I:Inv X pins σ H s) (hg:Gl X x) (hm:X.mg x=none) (hv:bootBuiltins x=some u) (h:Q u s)
    (hn:x ≠ "__name__":=by decide) (hd:(x == ("__debug__":Str))=false:=by decide):wpAny (model X.prog X.w) X.A (eval (.Name x pos) X.env) Q E s:=by
  obtain ⟨mb,h1,h2⟩:=I.mod.blt
  exact Calls.Name_function_global I.ok.kind hg (Calls.loadGlobal_builtin (by rw [I.ok.glob]; exact I.mod.glob.keeps I.bk) hm (by rw [I.ok.blt]; exact h1.keeps I.bk) ((h2 x hn).trans hv) h) hd
theorem pe_glob {x:Str}{v:V}{u:Value}{pos:Pos}(hg:Gl X x) (hm:X.mg x=some u) (r:RelV v u) (hd:(x == ("__debug__":Str))=false:=by decide):PE X (.Name x pos) (tC v) :=
  fun _ _ _ H _ I h=>ld_glob I hg hm ⟨v,H,I,r,h⟩ hd
theorem pe_bltn {x:Str}{v:V}{u:Value}{pos:Pos}(hg:Gl X x) (hm:X.mg x=none) (hv:bootBuiltins x=some u) (r:RelV v u) (hn:x ≠ "__name__":=by decide) (hd:(x == ("__debug__":Str))=false:=by decide):PE X (.Name x pos) (tC v) :=
  fun _ _ _ H _ I h=>ld_blt I hg hm hv ⟨v,H,I,r,h⟩ hn hd
variable {a b:Expr}{ta tb:TE}{pos:Pos}
noncomputable def PC (X:Cx) (op:CmpOp) (a b:Expr) (t:TE):Prop :=
  ∀ (pins:List (Addr×Obj)) (s:Shared) (σ:St) (H:Hp) (Q:VK),Inv X pins σ H s→t σ H Q →
    wpAny (model X.prog X.w) X.A (eval a X.env) (fun v s₁=>wpAny (model X.prog X.w) X.A (eval b X.env) (fun u s₂=>wpAny (model X.prog X.w) X.A (compareOp op v u) (EP X pins σ Q) X.xe s₂) X.xe s₁) X.xe s
theorem nobehind (b:Expr) {op:CmpOp}(h:op ≠ .In) (h2:op ≠ .NotIn):behindInMarks op b=false:=by
  have e1:(op == CmpOp.In)=false:=by cases op <;> first | rfl | exact absurd rfl h
  have e2:(op == CmpOp.NotIn)=false:=by cases op <;> first | rfl | exact absurd rfl h2
  cases b <;> simp [behindInMarks,e1,e2]
noncomputable def tB (t:TE):TT:=fun σ H Q=>t σ H fun x H1=>∃ c,x = .bl c∧Q c H1
theorem pt_cmp {op:CmpOp}{t:TE}(h:PC X op a b t) (h1:behindInMarks op b=false:=by first | exact nobehind _ (by decide) (by decide) | rfl):PT X (.Compare a [op] [b] pos) (tB t):=by
  intro pins s σ H Q I hw
  refine wpAny_isTrue_Compare1 (thn (h pins s σ H _ I hw) fun v s1 h1=>thn h1 fun u s2 h2=>thn h2 fun c s3 ⟨x,H1,I1,r1,q1⟩=>?_) h1
  obtain ⟨d,rfl,q⟩:=q1
  cases r1
  exact wpAny_truthy_bool ⟨H1,I1,q⟩
theorem pt_val {e:Expr}{t:TE}(h:PE X e t) (he:∀ whole,isTrue e X.env whole=(do let v ← whole; standAt e.pos; holding [v] (truthy v)):=by intro _; rfl):PT X e (tB t):=by
  intro pins s σ H Q I hw
  refine isTrue_plain (thn (h pins s σ H _ I hw) fun v s1 ⟨x,H1,I1,r1,q1⟩=>?_) (he _)
  obtain ⟨d,rfl,q⟩:=q1
  cases r1
  exact wpAny_truthy_bool ⟨H1,I1,q⟩
variable {tA tB':TT}{rest:List Expr}
noncomputable def tOr (t u:TT):TT:=fun σ H Q=>t σ H fun c H1=>if c=true then Q true H1 else u σ H1 Q
noncomputable def tNot (t:TT):TT:=fun σ H Q=>t σ H fun c H1=>Q (!c) H1
theorem pw_or1 (ha:PT X a tA):PW X (.BoolOp .Or [a] pos) tA:=by
  intro wh pins s σ H Q I h
  refine isTrue_or (thn (ha pins s σ H Q I h) fun c s1 e=>?_)
  cases c with
  | false=>exact isTrue_or_nil e
  | true=>exact e
theorem pw_or (ha:PT X a tA) (hb:PW X (.BoolOp .Or (b :: rest) pos) tB'):PW X (.BoolOp .Or (a :: b :: rest) pos) (tOr tA tB'):=by
  intro wh pins s σ H Q I h
  refine isTrue_or (thn (ha pins s σ H _ I h) fun c s1 ⟨H1,I1,q1⟩=>?_)
  cases c with
  | true=>exact ⟨H1,I1,q1⟩
  | false=>exact hb wh pins s1 σ H1 Q I1 q1
theorem pt_not (ha:PT X a tA):PT X (.UnaryOp .Not a pos) (tNot tA):=by
  intro pins s σ H Q I h
  exact isTrue_not (ha pins s σ H (fun c H1=>Q (!c) H1) I h)
noncomputable def tAndV (ta tb:TE):TE:=fun σ H Q=>ta σ H fun x H1=>∃ c,x = .bl c∧if c=true then tb σ H1 Q else Q (.bl false) H1
noncomputable def tNotV (ta:TE):TE:=fun σ H Q=>ta σ H fun x H1=>∃ c,x = .bl c∧Q (.bl (!c)) H1
theorem pe_one {op}{t:TE}(h:PE X a t):PE X (.BoolOp op [a] pos) t:=fun pins s σ H Q I hw=>BoolOp_one (h pins s σ H Q I hw)
theorem pe_and (ha:PE X a ta) (hb:PE X (.BoolOp .And (b :: rest) pos) tb):PE X (.BoolOp .And (a :: b :: rest) pos) (tAndV ta tb):=by
  intro pins s σ H Q I h
  refine BoolOp_and (thn (ha pins s σ H _ I h) fun v s1 ⟨x,H1,I1,r1,q1⟩=>?_)
  obtain ⟨c,rfl,q1⟩:=q1
  cases r1
  refine wpAny_truthy_bool ?_
  cases c with
  | true=>exact hb pins s1 σ H1 Q I1 q1
  | false=>exact ⟨.bl false,H1,I1,rfl,q1⟩
theorem pe_not (ha:PE X a ta):PE X (.UnaryOp .Not a pos) (tNotV ta):=by
  intro pins s σ H Q I h
  refine UnaryOp_ (thn (ha pins s σ H _ I h) fun v s1 ⟨x,H1,I1,r1,q1⟩=>?_)
  obtain ⟨c,rfl,q1⟩:=q1
  cases r1
  exact not_of (wpAny_truthy_bool ⟨.bl (!c),H1,I1,rfl,q1⟩)
end
noncomputable def SqL (K:PySem.W.Frag) (H:Hp) (a:Addr) (xs:List V):Prop :=
  Rd H a (.lst xs) ∨
    ∃ (o:Obj) (its:Array Value) (n:Nat),K.lookup a=some o∧o.cls = .type "list"∧o.dict=none∧o.data = .seq its n∧its.size ≤ sizeLine∧Vals xs its.toList
noncomputable def SqT (K:PySem.W.Frag) (H:Hp) (a:Addr) (xs:List V):Prop :=
  Rd H a (.tup xs) ∨
    ∃ (o:Obj) (its:Array Value) (n:Nat),K.lookup a=some o∧o.cls = .type "tuple"∧o.data = .seq its n∧its.size ≤ sizeLine∧Vals xs its.toList
noncomputable def absV:Value→Option V
  | .none=>some .non
  | .bool b=>some (.bl b)
  | .int i _=>some (.int i)
  | .str x _=>some (.str x)
  | .bytes b _=>some (.byt b)
  | .float b _=>some (.flt b)
  | .ref a=>some (.ref a)
  | .type n=>some (.ty n)
  | _=>none
theorem RelV.abs {x:V}{u:Value}(r:RelV x u):absV u=some x:=by
  cases x with
  | non=>cases r; rfl
  | bl _=>cases r; rfl
  | int _=>obtain ⟨t,rfl⟩:=r; rfl
  | str _=>obtain ⟨t,rfl⟩:=r; rfl
  | byt _=>obtain ⟨t,rfl⟩:=r; rfl
  | flt _=>obtain ⟨t,rfl⟩:=r; rfl
  | ref _=>cases r; rfl
  | ty _=>cases r; rfl
theorem RelV.inj {x y:V}{u:Value}(r:RelV x u) (q:RelV y u):x=y:=Option.some.inj (r.abs.symm.trans q.abs)
theorem Vals.inj:∀ {xs ys:List V}{us:List Value},Vals xs us→Vals ys us→xs=ys
  | _,_,_,.nil,.nil=>rfl
  | _,_,_,.cons r t,.cons r' t'=>by rw [r.inj r',Vals.inj t t']
section
variable {X:Cx}{pins:List (Addr×Obj)}{σ:St}{H:Hp}{s:Shared}{a:Addr}{xs ys:List V}
theorem SqL.of {K:PySem.W.Frag}(h:H a=some (.lst xs)):SqL K H a xs:=.inl (.inl h)
theorem SqT.of {K:PySem.W.Frag}(h:H a=some (.tup xs)):SqT K H a xs:=.inl (.inl h)
theorem Inv.list (I:Inv X pins σ H s) (h:SqL X.K H a xs):∃ its:List Value,Vals xs its∧PlainL s.heap a its.toArray∧xs.length ≤ sizeLine:=by
  rcases h with h | ⟨o,its,n,hk,hc,hd,hs,hz,r⟩
  · obtain ⟨z,its,n,r,e⟩:=h.ok I.hok
    exact ⟨its,r,⟨_,n,e,rfl,rfl,rfl⟩,z⟩
  · refine ⟨its.toList,r,⟨o,n,I.kIn a o hk,hc,hd,by simpa using hs⟩,?_⟩
    have e:=r.length
    simp only [Array.length_toList] at e
    omega
theorem Inv.tuple (I:Inv X pins σ H s) (h:SqT X.K H a xs):∃ its:List Value,Vals xs its∧IsTup s.heap a its.toArray∧xs.length ≤ sizeLine:=by
  rcases h with h | ⟨o,its,n,hk,hc,hs,hz,r⟩
  · obtain ⟨z,its,r,p⟩:=h.ok I.hok
    exact ⟨its,r,p,z⟩
  · refine ⟨its.toList,r,⟨o,I.kIn a o hk,hc,n,by simpa using hs⟩,?_⟩
    have e:=r.length
    simp only [Array.length_toList] at e
    omega
theorem Inv.list_inj (I:Inv X pins σ H s) (h:SqL X.K H a xs) (h':SqL X.K H a ys):xs=ys:=by
  obtain ⟨its,r,⟨o,n,e,_,_,d⟩,_⟩:=I.list h
  obtain ⟨its',r',⟨o',n',e',_,_,d'⟩,_⟩:=I.list h'
  rw [e] at e'; cases e'
  rw [d] at d'
  injection d' with d1 _
  have:its=its':=by simpa using congrArg Array.toList d1
  subst this
  exact r.inj r'
theorem Inv.tuple_inj (I:Inv X pins σ H s) (h:SqT X.K H a xs) (h':SqT X.K H a ys):xs=ys:=by
  obtain ⟨its,r,⟨o,e,_,n,d⟩,_⟩:=I.tuple h
  obtain ⟨its',r',⟨o',e',_,n',d'⟩,_⟩:=I.tuple h'
  rw [e] at e'; cases e'
  rw [d] at d'
  injection d' with d1 _
  have:its=its':=by simpa using congrArg Array.toList d1
  subst this
  exact r.inj r'
end
noncomputable abbrev Cx.wish (X:Cx) (E:Value→Shared→Prop):Cx:={ X with xe:=E }
noncomputable abbrev Cx.nox (X:Cx):Cx:=X.wish fun _ _=>False
theorem Cx.Ok.wish {X:Cx}(ok:X.Ok) (E:Value→Shared→Prop):(X.wish E).Ok :=
  ⟨ok.mod,ok.kind,ok.glob,ok.blt,ok.above,ok.inj,ok.has,ok.cab,ok.hd,ok.frames,ok.stk,ok.exf,ok.bs,ok.bsz,ok.noex,ok.exfs,ok.funs,ok.frf⟩
theorem Cx.Ok.unwish {X:Cx}{E:Value→Shared→Prop}(ok:(X.wish E).Ok):X.Ok :=
  ⟨ok.mod,ok.kind,ok.glob,ok.blt,ok.above,ok.inj,ok.has,ok.cab,ok.hd,ok.frames,ok.stk,ok.exf,ok.bs,ok.bsz,ok.noex,ok.exfs,ok.funs,ok.frf⟩
section
variable {X:Cx}{pins:List (Addr×Obj)}{σ:St}{H:Hp}{s:Shared}{E:Value→Shared→Prop}
theorem Inv.wish (I:Inv X pins σ H s) (E:Value→Shared→Prop):Inv (X.wish E) pins σ H s:=⟨I.ok.wish E,I.os,I.bare,I.base,I.loc,I.cell,I.free,I.freeC,I.pin,I.hok,I.len⟩
theorem Inv.unwish (I:Inv (X.wish E) pins σ H s):Inv X pins σ H s:=⟨I.ok.unwish,I.os,I.bare,I.base,I.loc,I.cell,I.free,I.freeC,I.pin,I.hok,I.len⟩
theorem SP.unwish {D:Ends}{f:Flow}{s':Shared}(h:SP (X.wish E) pins D f s'):SP X pins D f s':=by
  cases f with
  | next=>obtain ⟨σ',H',I,q⟩:=h; exact ⟨σ',H',I.unwish,q⟩
  | brk=>obtain ⟨σ',H',I,q⟩:=h; exact ⟨σ',H',I.unwish,q⟩
  | cont=>obtain ⟨σ',H',I,q⟩:=h; exact ⟨σ',H',I.unwish,q⟩
  | ret u=>obtain ⟨v,σ',H',I,r,q⟩:=h; exact ⟨v,σ',H',I.unwish,r,q⟩
theorem PE.nox {e:Expr}{t:TE}(h:PE X.nox e t):PE X e t:=fun pins s σ H Q I hw =>
  wpAny_mono (h pins s σ H Q (I.wish _) hw) (fun _ _ ⟨v,H',I',r,q⟩=>⟨v,H',I'.unwish,r,q⟩) fun _ _ z=>False.elim z
theorem PT.nox {e:Expr}{t:TT}(h:PT X.nox e t):PT X e t:=fun pins s σ H Q I hw =>
  wpAny_mono (h pins s σ H Q (I.wish _) hw) (fun _ _ ⟨H',I',q⟩=>⟨H',I'.unwish,q⟩) fun _ _ z=>False.elim z
theorem PSs.nox {st:List Stmt}{t:TS}(h:PSs X.nox st t):PSs X st t:=fun pins s σ H D I hw =>
  wpAny_mono (h pins s σ H D (I.wish _) hw) (fun _ _ q=>q.unwish) fun _ _ z=>False.elim z
end
section
variable {X:Cx}{st:Stmt}{rest:List Stmt}{t u:TS}{e:Expr}{te:TE}{pos:Pos}
noncomputable def tNext:TS:=fun D σ H=>D.nx σ H
noncomputable def tSeq (t u:TS):TS:=fun D σ H=>t { D with nx:=u D } σ H
theorem pss_nil:PSs X [] tNext:=fun _ _ σ H _ I h=>wpAny_execs_nil ⟨σ,H,I,h⟩
theorem pss_cons (h1:PS X st t) (h2:PSs X rest u):PSs X (st :: rest) (tSeq t u):=by
  intro pins s σ H D I h
  refine wpAny_execs_cons (thn (h1 pins s σ H { D with nx:=u D } I h) fun f s1 q=>?_)
  cases f with
  | next =>
    obtain ⟨σ',H',I',q⟩:=q
    exact h2 pins s1 σ' H' D I' q
  | ret v=>exact q
  | brk=>exact q
  | cont=>exact q
theorem pss_one (h1:PS X st t):PSs X [st] t:=by
  intro pins s σ H D I h
  refine wpAny_execs_cons (thn (h1 pins s σ H D I h) fun f s1 q=>?_)
  cases f with
  | next=>exact wpAny_execs_nil q
  | ret v=>exact q
  | brk=>exact q
  | cont=>exact q
theorem Inv.quiet {pins:List (Addr×Obj)}{σ:St}{H:Hp}{s:Shared}(I:Inv X pins σ H s):interactive X.env=false:=by simp [interactive,I.ok.kind]
noncomputable def tDrop (te:TE):TS:=fun D σ H=>te σ H fun _ H1=>D.nx σ H1
theorem ps_expr (he:PE X e te) (hs:swapsWith e none pos.line X.env=pure false:=by rfl):PS X (.Expr e pos) (tDrop te):=by
  intro pins s σ H D I h
  exact wpAny_Expr_any (thn (he pins s σ H _ I h) fun v s1 ⟨x,H1,I1,r1,q1⟩=>⟨σ,H1,I1,q1⟩) I.quiet hs
noncomputable def tRet (te:TE):TS:=fun D σ H=>te σ H D.rt
theorem ps_ret (he:PE X e te):PS X (.Return (some e) pos) (tRet te):=by
  intro pins s σ H D I h
  exact wpAny_Return_some (thn (he pins s σ H _ I h) fun v s1 ⟨x,H1,I1,r1,q1⟩=>⟨x,σ,H1,I1,r1,q1⟩)
noncomputable def tIfS (c:TT) (t u:TS):TS:=fun D σ H=>c σ H fun b H1=>if b=true then t D σ H1 else u D σ H1
theorem ps_if {c:Expr}{a b:List Stmt}{tc:TT}(hc:PT X c tc) (ha:PSs X a t) (hb:PSs X b u):PS X (.If c a b pos) (tIfS tc t u):=by
  intro pins s σ H D I h
  refine wpAny_If (thn (hc pins s σ H _ I h) fun d s1 ⟨H1,I1,q1⟩=>?_)
  cases d with
  | true=>exact ha pins s1 σ H1 D I1 q1
  | false=>exact hb pins s1 σ H1 D I1 q1
end
noncomputable abbrev TG:=V→St→Hp→(St→Hp→Prop)→Prop
noncomputable abbrev TGs:=List V→St→Hp→(St→Hp→Prop)→Prop
noncomputable def PG (X:Cx) (target:Expr) (t:TG):Prop :=
  ∀ (pins:List (Addr×Obj)) (s:Shared) (σ:St) (H:Hp) (v:V) (u:Value) (Q:St→Hp→Prop),Inv X pins σ H s→RelV v u→t v σ H Q →
    wpAny (model X.prog X.w) X.A (assign target X.env u) (fun _ s'=>∃ σ' H',Inv X pins σ' H' s'∧Q σ' H') X.xe s
noncomputable def PGs (X:Cx) (ts:List Expr) (t:TGs):Prop :=
  ∀ (pins:List (Addr×Obj)) (s:Shared) (σ:St) (H:Hp) (vs:List V) (us:List Value) (Q:St→Hp→Prop),Inv X pins σ H s→Vals vs us→t vs σ H Q →
    wpAny (model X.prog X.w) X.A (assignInOrder ((assignEach ts X.env).map (·.2)) us) (fun _ s'=>∃ σ' H',Inv X pins σ' H' s'∧Q σ' H') X.xe s
noncomputable abbrev TSet:=V→V→V→Hp→(Hp→Prop)→Prop
noncomputable def PSet (X:Cx) (t:TSet):Prop :=
  ∀ (pins:List (Addr×Obj)) (s:Shared) (σ:St) (H:Hp) (o i v:V) (ov iv u:Value) (Q:Hp→Prop),Inv X pins σ H s→RelV o ov→RelV i iv→RelV v u→t o i v H Q →
    wpAny (model X.prog X.w) X.A (setItem ov iv u) (fun _ s'=>∃ H',Inv X pins σ H' s'∧Q H') X.xe s
section
variable {X:Cx}{pos:Pos}
noncomputable def gName (i:Nat):TG:=fun v σ H Q=>Q (σ.set i (some v)) H
theorem pg_name {i:Nat}{x:Str}(hN:X.N.Nodup) (hi:X.N[i]? = some x) (hx:Loc X.env.scope x) (hf:X.fn x=true∨X.env.scope.names.lookup x=some .local:=by first | exact .inl rfl | exact .inr rfl | assumption):PG X (.Name x pos) (gName i):=by
  intro pins s σ H v u Q I r h
  exact wpAny_assign_Name (store_ok I hN hi hx r (fun s' I'=>⟨_,H,I',h⟩) hf)
noncomputable def gNil:TGs:=fun vs σ H Q=>vs = []∧Q σ H
noncomputable def gCons (t:TG) (u:TGs):TGs:=fun vs σ H Q=>∃ v r,vs=v :: r∧t v σ H fun σ' H'=>u r σ' H' Q
theorem pgs_nil:PGs X [] gNil:=by
  intro pins s σ H vs us Q I r h
  obtain ⟨e,h⟩:=h
  subst e
  cases r
  exact assignInOrder_nil ⟨σ,H,I,h⟩
theorem pgs_cons {e:Expr}{es:List Expr}{t:TG}{u:TGs}(h1:PG X e t) (h2:PGs X es u)
    (hs:(assignEach (e :: es) X.env).map (·.2)=assign e X.env :: (assignEach es X.env).map (·.2):=by rfl):PGs X (e :: es) (gCons t u):=by
  intro pins s σ H vs us Q I r h
  obtain ⟨v,vr,e1,h⟩:=h
  subst e1
  cases r with
  | cons r rr =>
    rw [hs]
    refine assignInOrder_cons (thn (h1 pins s σ H _ _ _ I r h) fun _ s1 ⟨σ1,H1,I1,q1⟩=>?_)
    exact h2 pins s1 σ1 H1 _ _ Q I1 rr q1
noncomputable def gTup (K:PySem.W.Frag) (n:Nat) (t:TGs):TG:=fun v σ H Q=>∃ a xs,v = .ref a∧SqT K H a xs∧xs.length=n∧t xs σ H Q
theorem pg_tup {es:List Expr}{k:Nat}{t:TGs}{n:Nat}(hc:X.calm=true) (h:PGs X es t)
    (hn:(assignEach es X.env).length=n:=by rfl) (hst:(assignEach es X.env).findIdx? (·.1)=none:=by rfl):PG X (.Tuple es k pos) (gTup X.K n t):=by
  intro pins s σ H v u Q I r hw
  obtain ⟨a,xs,e1,hq,hl,hw⟩:=hw
  subst e1
  cases r
  obtain ⟨its,rv,ht,hz⟩:=I.tuple hq
  refine assign_Tuple_tuple (I.ok.hd hc) ht (by simp [hn,← hl,rv.length]) hst fun h' hx=>?_
  have I1:Inv X pins σ H { s with heap:=h' }:=I.kept (t':=s.toks) fun b o e=>hx b o (Nat.ne_of_lt (Heap.lt_size e)) e
  exact h pins _ σ H xs _ Q I1 (by simpa using rv) hw
noncomputable def gSub (to ti:TE) (t:TSet):TG:=fun v σ H Q=>to σ H fun o H1=>ti σ H1 fun i H2=>t o i v H2 fun H3=>Q σ H3
theorem pg_sub {o i:Expr}{to ti:TE}{t:TSet}(ho:PE X o to) (hi:PE X i ti) (hs:PSet X t)
    (ha:∀ v,assign (.Subscript o i pos) X.env v=(do
      let ov ← holding [v] (eval o X.env)
      let iv ← holding [v,ov] (eval i X.env)
      standAt pos
      holding [v,ov,iv] (setItem ov iv v)
      release [v,ov,iv] []):=by intro _; rfl):PG X (.Subscript o i pos) (gSub to ti t):=by
  intro pins s σ H v u Q I r h
  rw [ha]
  refine wpAny_bind (wpAny_holding (thn (ho pins s σ H _ I h) fun ov s1 ⟨x,H1,I1,r1,q1⟩=>?_))
  refine wpAny_bind (wpAny_holding (thn (hi pins s1 σ H1 _ I1 q1) fun iv s2 ⟨y,H2,I2,r2,q2⟩=>?_))
  refine wpAny_bind (wpAny_standAt (wpAny_bind (wpAny_holding (thn (hs pins s2 σ H2 x y v ov iv u _ I2 r1 r2 r q2) fun _ s3 ⟨H3,I3,q3⟩=>?_))))
  exact wpAny_release ⟨σ,H3,I3,q3⟩
noncomputable def tAsg (te:TE) (g:TG):TS:=fun D σ H=>te σ H fun x H1=>g x σ H1 D.nx
theorem ps_asg {tg e:Expr}{te:TE}{g:TG}(he:PE X e te) (hg:PG X tg g) (hs:swapsWithSole [tg] e pos.line X.env=pure false:=by rfl) (hw:swappedStores [tg] e X.env=pure none:=by rfl)
    (h1:(assignEach [tg] X.env).map (·.2) = [assign tg X.env]:=by rfl):PS X (.Assign [tg] e pos) (tAsg te g):=by
  intro pins s σ H D I h
  refine wpAny_Assign_stores (thn (he pins s σ H _ I h) fun v s1 ⟨x,H1,I1,r1,q1⟩=>?_) hs hw
  rw [h1]
  exact thn (hg pins s1 σ H1 x v _ I1 r1 q1) fun _ s2 q=>q
theorem ps_set {i:Nat}{x:Str}{e:Expr}{te:TE}{pos':Pos}(hN:X.N.Nodup) (hi:X.N[i]? = some x) (hx:Loc X.env.scope x) (he:PE X e te) (hs:swapsWith e (some (.Name x pos')) pos.line X.env=pure false:=by rfl) (hf:X.fn x=true∨X.env.scope.names.lookup x=some .local:=by first | exact .inl rfl | exact .inr rfl | assumption) :
    PS X (.Assign [.Name x pos'] e pos) (tAsg te (gName i)):=by
  intro pins s σ H D I h
  refine wpAny_Assign_Name (thn (he pins s σ H _ I h) fun v s1 ⟨y,H1,I1,r1,q1⟩=>?_) hs
  exact store_ok I1 hN hi hx r1 (fun s2 I2=>⟨_,H1,I2,q1⟩) hf
end
section
variable {X:Cx}{pos:Pos}
end
structure It where
  go:Nat→Hp→Prop
  yld:Nat→Hp→V→Hp→Prop
  stop:Nat→Hp→Prop
noncomputable def FpOk (X:Cx) (pins:List (Addr×Obj)) (H:Hp) (b:Addr):Prop :=
  H b=none∧b ≠ X.env.locals∧b ∉ X.fs∧(b ∈ X.ex∨X.s₀.heap.objs.size ≤ b)∧(∀ x c,X.env.cells.lookup x=some c→c ≠ b)∧∀ p ∈ X.pn ++ pins,p.1 ≠ b
theorem Inv.fpOk {X:Cx}{pins:List (Addr×Obj)}{σ:St}{H H':Hp}{s:Shared}{b:Addr}(I:Inv X pins σ H s) (hb:s.heap.objs.size ≤ b) (hn:H' b=none):FpOk X pins H' b:=by
  refine ⟨hn,Nat.ne_of_gt (Nat.lt_of_lt_of_le I.lt hb),I.nofs hb,.inr (Nat.le_trans I.sz hb),fun x c e z=>?_,fun p hp z=>?_⟩
  · obtain ⟨v,q⟩:=I.cell x c e
    exact absurd (Nat.lt_of_lt_of_le q.lt (by rw [z]; exact hb)) (Nat.lt_irrefl _)
  · exact absurd (Nat.lt_of_lt_of_le (Heap.lt_size (I.pin p hp).1) (by rw [z]; exact hb)) (Nat.lt_irrefl _)
structure Turn (P:Program) (w:World) (K:PySem.W.Frag) (tg:Expr) (J:It) (fp:List Addr) (it:Addr) (tn:Nat→Heap→Prop):Prop where
  mem:it ∈ fp
  obj:∀ i h,tn i h→∀ b ∈ fp,∃ o,h.get? b=some o∧∀ v,o.data ≠ .cell v
  keep:∀ i h h',tn i h→(∀ b ∈ fp,∀ o,h.get? b=some o→h'.get? b=some o)→tn i h'
  item:∀ (X:Cx),X.prog=P→X.w=w→X.K=K→X.calm=true→∀ (i:Nat) (pins:List (Addr×Obj)) (s:Shared) (σ:St) (H:Hp) (E:Value→Shared→Prop),Inv X pins σ H s→(∀ b ∈ fp,FpOk X pins H b)→tn i s.heap→J.go i H →
    wpAny (model P w) X.A (pyNext (.ref it)) (fun r s1=>∃ u,r=some u ∧
      wpAny (model P w) X.A (letOwnedTupleGo tg (.ref it) u) (fun _ s2=>∃ x H',Inv X pins σ H' s2∧RelV x u∧J.yld i H x H'∧tn (i + 1) s2.heap∧∀ b ∈ fp,H' b=none) E s1) E s
  done:∀ (X:Cx),X.prog=P→X.w=w→X.K=K→X.calm=true→∀ (i:Nat) (pins:List (Addr×Obj)) (s:Shared) (σ:St) (H:Hp) (E:Value→Shared→Prop),Inv X pins σ H s→(∀ b ∈ fp,FpOk X pins H b)→tn i s.heap→J.stop i H →
    wpAny (model P w) X.A (pyNext (.ref it)) (fun r s1=>r=none∧Inv X pins σ H s1) E s
  self:∀ (A:Around) (i:Nat) (s:Shared) (Q:Value→Shared→Prop) (E:Value→Shared→Prop),tn i s.heap→Q (.ref it) s→wpAny (model P w) A (pyIter (.ref it)) Q E s
noncomputable abbrev TI:=St→Hp→(It→Hp→Prop)→Prop
noncomputable def PIE (X:Cx) (pins:List (Addr×Obj)) (σ:St) (tg:Expr) (R:It→Hp→Prop) (itv:Value) (s2:Shared):Prop :=
  ∃ (it:Addr) (fp:List Addr) (tn:Nat→Heap→Prop) (J:It) (H':Hp),itv = .ref it∧Inv X pins σ H' s2∧Turn X.prog X.w X.K tg J fp it tn∧tn 0 s2.heap∧(∀ b ∈ fp,FpOk X pins H' b)∧R J H'
noncomputable def PI (X:Cx) (tg iter:Expr) (wi:TI):Prop :=
  ∀ (pins:List (Addr×Obj)) (s:Shared) (σ:St) (H:Hp) (R:It→Hp→Prop),Inv X pins σ H s→wi σ H R →
    wpAny (model X.prog X.w) X.A (eval iter X.env) (fun v s1=>wpAny (model X.prog X.w) X.A (pyIter v) (PIE X pins σ tg R) X.xe s1) X.xe s
theorem go_of {M:Model}{A:Around}{E:Value→Shared→Prop}{s:Shared}{tg:Expr}{it:Addr}{u:Value}{o:Obj}{n:String}{vs:Array Value}{Q:Unit→Shared→Prop}(ho:s.heap.get? it=some o) (hc:o.cls = .type n) (hd:o.data = .fields vs)
    (hn:["enumerate","zip","dict_itemiterator","dict_reverseitemiterator","odict_iterator","itertools.zip_longest","itertools.pairwise"].contains n=false) (hQ:Q () s):wpAny M A (letOwnedTupleGo tg (.ref it) u) Q E s:=by
  unfold letOwnedTupleGo
  cases tg <;> first
    | exact wpAny_pure hQ
    | (cases u <;> first
        | exact wpAny_pure hQ
        | (refine wpAny_bind (wpAny_load ho ?_)
           rw [hc,hd]
           show wpAny M A (if (["enumerate","zip","dict_itemiterator","dict_reverseitemiterator","odict_iterator","itertools.zip_longest","itertools.pairwise"].contains n && vs[0]? == some (rawInt _))=true then _ else _) Q E s
           rw [if_neg (by intro h; rw [hn,Bool.false_and] at h; cases h)]
           exact wpAny_pure hQ))
noncomputable def Itl (K:PySem.W.Frag) (a:Addr):It :=
  ⟨fun i H=>∃ xs x,SqL K H a xs∧xs[i]? = some x,fun i H x H'=>H'=H∧∀ xs,SqL K H a xs→xs[i]? = some x,fun i H=>∃ xs,SqL K H a xs∧xs.length ≤ i⟩
noncomputable def Itt (K:PySem.W.Frag) (a:Addr):It :=
  ⟨fun i H=>∃ xs x,SqT K H a xs∧xs[i]? = some x,fun i H x H'=>H'=H∧∀ xs,SqT K H a xs→xs[i]? = some x,fun i H=>∃ xs,SqT K H a xs∧xs.length ≤ i⟩
noncomputable def Itr (lo:Int) (n:Nat):It:=⟨fun i _=>i < n,fun i H x H'=>H'=H∧x = .int (lo + i),fun i _=>n ≤ i⟩
theorem turn_list {P:Program}{w:World}{K:PySem.W.Frag}{tg:Expr}(a it:Addr):Turn P w K tg (Itl K a) [it] it (fun i h=>h.IsListIter it a i) where
  mem:=by simp
  obj:=fun i h st b hb=>by
    have e:b=it:=by simpa using hb
    subst e
    obtain ⟨o,e,c,d⟩:=st
    exact ⟨o,e,fun v z=>by rw [d] at z; cases z⟩
  keep:=fun i h h' st k=>st.at fun o e=>k it (by simp) o e
  item:=by
    intro X hP hw hK hc i pins s σ H E I hf st hg
    subst hP hw hK
    obtain ⟨xs,x,hq,hx⟩:=hg
    obtain ⟨its,rv,p,hz⟩:=I.list hq
    obtain ⟨u,hu,ru⟩:=rv.get hx
    obtain ⟨f0,f1,f2,f3,f4,f5⟩:=hf it (by simp)
    refine wpAny_pyNext_list_item st p.isList (x:=u) (by simpa using hu) fun h' st' sb=>?_
    have I1:Inv X pins σ H { s with heap:=h' }:=I.turned (t':=s.toks) (fun b o hb e=>(sb.2 b hb).trans e) f0 f1 f3 f4 f5
    obtain ⟨o,e,c,d⟩:=id st'
    exact ⟨u,rfl,go_of (s:={ s with heap:=h' }) e c d (by decide) ⟨x,H,I1,ru,⟨rfl,fun ys hy=>by rw [I.list_inj hy hq]; exact hx⟩,st',fun b hb=>(hf b hb).1⟩⟩
  done:=by
    intro X hP hw hK hc i pins s σ H E I hf st hg
    subst hP hw hK
    obtain ⟨xs,hq,hx⟩:=hg
    obtain ⟨its,rv,p,hz⟩:=I.list hq
    obtain ⟨f0,f1,f2,f3,f4,f5⟩:=hf it (by simp)
    have hl:=rv.length
    exact wpAny_pyNext_list_end (I.ok.hd hc) st p.isList (by simp; omega) fun h' eb=>⟨rfl,I.turned (t':=s.toks) (fun b o hb e=>eb b o hb e) f0 f1 f3 f4 f5⟩
  self:=fun _ _ _ _ _ st h=>wpAny_pyIter_listiter st h
theorem turn_tuple {P:Program}{w:World}{K:PySem.W.Frag}{tg:Expr}(a it:Addr):Turn P w K tg (Itt K a) [it] it (fun i h=>h.IsTupleIter it a i) where
  mem:=by simp
  obj:=fun i h st b hb=>by
    have e:b=it:=by simpa using hb
    subst e
    obtain ⟨o,e,c,d⟩:=st
    exact ⟨o,e,fun v z=>by rw [d] at z; cases z⟩
  keep:=fun i h h' st k=>st.at fun o e=>k it (by simp) o e
  item:=by
    intro X hP hw hK hc i pins s σ H E I hf st hg
    subst hP hw hK
    obtain ⟨xs,x,hq,hx⟩:=hg
    obtain ⟨its,rv,p,hz⟩:=I.tuple hq
    obtain ⟨u,hu,ru⟩:=rv.get hx
    obtain ⟨f0,f1,f2,f3,f4,f5⟩:=hf it (by simp)
    refine wpAny_pyNext_tuple_item st (show s.heap.IsTuple a its.toArray from p) (x:=u) (by simpa using hu) fun h' st' sb=>?_
    have I1:Inv X pins σ H { s with heap:=h' }:=I.turned (t':=s.toks) (fun b o hb e=>(sb.2 b hb).trans e) f0 f1 f3 f4 f5
    obtain ⟨o,e,c,d⟩:=id st'
    exact ⟨u,rfl,go_of (s:={ s with heap:=h' }) e c d (by decide) ⟨x,H,I1,ru,⟨rfl,fun ys hy=>by rw [I.tuple_inj hy hq]; exact hx⟩,st',fun b hb=>(hf b hb).1⟩⟩
  done:=by
    intro X hP hw hK hc i pins s σ H E I hf st hg
    subst hP hw hK
    obtain ⟨xs,hq,hx⟩:=hg
    obtain ⟨its,rv,p,hz⟩:=I.tuple hq
    obtain ⟨f0,f1,f2,f3,f4,f5⟩:=hf it (by simp)
    have hl:=rv.length
    exact wpAny_pyNext_tuple_end (I.ok.hd hc) st (show s.heap.IsTuple a its.toArray from p) (by simp; omega) fun h' eb=>⟨rfl,I.turned (t':=s.toks) (fun b o hb e=>eb b o hb e) f0 f1 f3 f4 f5⟩
  self:=fun _ _ _ _ _ st h=>wpAny_pyIter_tupleiter st h
theorem turn_range {P:Program}{w:World}{K:PySem.W.Frag}{tg:Expr}(it:Addr) (lo:Int) (n:Nat):Turn P w K tg (Itr lo n) [it] it (fun i h=>IsRangeIter h it (lo + (i:Nat) * 1) ((n:Int) - (i:Nat)) 1) where
  mem:=by simp
  obj := fun i h st b hb=>by
    have e:b=it:=by simpa using hb
    subst e
    exact ⟨_,st,fun v z=>by
      have z':Data.fields _=Data.cell v:=z
      cases z'⟩
  keep:=fun i h h' st k=>k it (by simp) _ st
  item:=by
    intro X hP hw hK hc i pins s σ H E I hf st hg
    subst hP hw hK
    obtain ⟨f0,f1,f2,f3,f4,f5⟩:=hf it (by simp)
    have W:=Walks.range (prog:=X.prog) (w:=X.w) (I.ok.hd hc) it lo 1 n
    refine W.item i s _ _ hg st fun v h' tk hv st' kk=>?_
    obtain ⟨t,rfl⟩:=hv
    have I1:Inv X pins σ H { s with heap:=h',toks:=tk }:=I.turned (fun b o hb e=>kk b o (by simpa using hb) e) f0 f1 f3 f4 f5
    refine ⟨_,rfl,go_of (s:={ s with heap:=h',toks:=tk }) (n:="range_iterator") st' rfl rfl (by decide) ⟨.int (lo + i),H,I1,⟨t,?_⟩,⟨rfl,rfl⟩,st',fun b hb=>(hf b hb).1⟩⟩
    rw [Int.mul_one]
  done:=by
    intro X hP hw hK hc i pins s σ H E I hf st hg
    subst hP hw hK
    obtain ⟨f0,f1,f2,f3,f4,f5⟩:=hf it (by simp)
    exact wpAny_pyNext_range_end (I.ok.hd hc) st (by have:n ≤ i:=hg; omega) fun h' eb=>⟨rfl,I.turned (t':=s.toks) (fun b o hb e=>eb b o hb e) f0 f1 f3 f4 f5⟩
  self:=fun _ _ _ _ _ st h=>wpAny_pyIter_rangeiter st h
section
variable {X:Cx}{tg:Expr}
noncomputable def iList (K:PySem.W.Frag) (tl:TE):TI:=fun σ H R=>tl σ H fun x H1=>∃ a,x = .ref a∧(∃ xs,SqL K H1 a xs)∧R (Itl K a) H1
noncomputable def iTup (K:PySem.W.Frag) (tl:TE):TI:=fun σ H R=>tl σ H fun x H1=>∃ a,x = .ref a∧(∃ xs,SqT K H1 a xs)∧R (Itt K a) H1
theorem pi_list {l:Expr}{tl:TE}(hl:PE X l tl):PI X tg l (iList X.K tl):=by
  intro pins s σ H R I h
  refine thn (hl pins s σ H _ I h) fun v s1 ⟨x,H1,I1,r1,q1⟩=>?_
  obtain ⟨a,e,⟨xs,hq⟩,q⟩:=q1
  subst e
  cases r1
  obtain ⟨its,rv,p,hz⟩:=I1.list hq
  refine wpAny_pyIter_list p.isList ?_
  refine ⟨s1.heap.objs.size,[s1.heap.objs.size],_,_,H1,rfl,I1.kept (t':=s1.toks) fun b o e=>Heap.get?_push_of_some _ e,turn_list a _,⟨_,Heap.get?_push_size _ rfl,rfl,rfl⟩,fun b hb=>?_,q⟩
  have e:b=s1.heap.objs.size:=by simpa using hb
  subst e
  exact I1.fpOk (Nat.le_refl _) (I1.hok.fresh (Nat.le_refl _))
theorem pi_tup {l:Expr}{tl:TE}(hl:PE X l tl):PI X tg l (iTup X.K tl):=by
  intro pins s σ H R I h
  refine thn (hl pins s σ H _ I h) fun v s1 ⟨x,H1,I1,r1,q1⟩=>?_
  obtain ⟨a,e,⟨xs,hq⟩,q⟩:=q1
  subst e
  cases r1
  obtain ⟨its,rv,p,hz⟩:=I1.tuple hq
  refine wpAny_pyIter_tuple (show s1.heap.IsTuple a its.toArray from p) ?_
  refine ⟨s1.heap.objs.size,[s1.heap.objs.size],_,_,H1,rfl,I1.kept (t':=s1.toks) fun b o e=>Heap.get?_push_of_some _ e,turn_tuple a _,⟨_,Heap.get?_push_size _ rfl,rfl,rfl⟩,fun b hb=>?_,q⟩
  have e:b=s1.heap.objs.size:=by simpa using hb
  subst e
  exact I1.fpOk (Nat.le_refl _) (I1.hok.fresh (Nat.le_refl _))
theorem range_it {pins:List (Addr×Obj)}{σ:St}{H:Hp}{s:Shared}{R:It→Hp→Prop}{E:Value→Shared→Prop}{lo hi:Int}{t u v:Tok}{tk:Nat}(I:Inv X pins σ H s) (h1:-(2 ^ 62) ≤ lo) (h2:lo < 2 ^ 62) (h3:-(2 ^ 62) ≤ hi) (h4:hi < 2 ^ 62)
    (q:R (Itr lo (hi - lo).toNat) H):wpAny (model X.prog X.w) X.A (pyIter (.ref s.heap.objs.size)) (PIE X pins σ tg R) E { s with heap:=s.heap.push { cls:=.type "range",data:=.fields #[.int lo t,.int hi u,.int 1 v] },toks:=tk }:=by
  refine wpAny_pyIter_range (IsRange.new ..) (small_one h1 h2 h3 h4) ?_
  have I1:Inv X pins σ H { s with heap:=s.heap.push { cls:=.type "range",data:=.fields #[.int lo t,.int hi u,.int 1 v] },toks:=tk }:=I.kept fun b o e=>Heap.get?_push_of_some _ e
  refine ⟨(s.heap.push { cls:=.type "range",data:=.fields #[.int lo t,.int hi u,.int 1 v] }).objs.size,[(s.heap.push { cls:=.type "range",data:=.fields #[.int lo t,.int hi u,.int 1 v] }).objs.size],_,_,H,rfl,
    I1.kept (t':=tk) fun b o e=>Heap.get?_push_of_some _ e,turn_range _ lo (hi - lo).toNat,?_,fun b hb=>?_,q⟩
  · have e1:lo + ((0:Nat):Int) * 1=lo:=by simp
    have e2:(((hi - lo).toNat:Nat):Int) - ((0:Nat):Int)=Builtin.Range.rangeSize lo hi 1:=by rw [rangeSize_one]; split <;> omega
    show IsRangeIter _ _ (lo + ((0:Nat):Int) * 1) ((((hi - lo).toNat:Nat):Int) - ((0:Nat):Int)) 1
    rw [e1,e2]
    exact Heap.get?_push_size _ rfl
  · have e:b=(s.heap.push { cls:=.type "range",data:=.fields #[.int lo t,.int hi u,.int 1 v] }).objs.size:=by simpa using hb
    subst e
    exact I1.fpOk (Nat.le_refl _) (I1.hok.fresh (Nat.le_refl _))
noncomputable def iRng1 (ta:TA):TI:=fun σ H R=>ta σ H fun vs H1=>∃ j:Int,vs = [.int j]∧-(2 ^ 62) ≤ j∧j < 2 ^ 62∧R (Itr 0 j.toNat) H1
theorem pi_range1 {a:Expr}{ta:TA}{p pos:Pos}(hg:Gl X "range") (hm:X.mg "range" = none) (ha:PA X [a] ta) (hs:starEach [a] X.env = [(false,eval a X.env)]:=by rfl):PI X tg (.Call (.Name "range" p) [a] [] pos) (iRng1 ta):=by
  intro pins s σ H R I h
  refine Call_ (ld_blt I hg hm boot_range (PyProof.Rows.callWith_type1 (thn (ha pos pins s σ H _ I h) fun us s1 ⟨vs,H1,I1,r1,q1⟩=>?_) hs rfl))
  obtain ⟨j,e,q1,q2,q⟩:=q1
  subst e
  cases r1 with
  | cons r rr =>
    cases rr
    obtain ⟨t,rfl⟩:=r
    exact call_range_1 (range_it I1 (by omega) (by omega) q1 q2 (by simpa using q))
noncomputable def tFor (wi:TI) (g:TG) (tb:TS):TS:=fun D σ H=>wi σ H fun J H1=>∃ W:Nat→Nat→St→Hp→Prop,(∃ m,W 0 m σ H1)∧∀ i m σ H,W i m σ H →
  (J.stop i H∧D.nx σ H)∨(J.go i H∧∃ N:St→Hp→Prop,(∀ σ' H',N σ' H'→∃ m',m' < m∧W (i + 1) m' σ' H')∧∀ x H',J.yld i H x H'→g x σ H' fun σ2 H2=>tb { D with nx:=N,ct:=N,bk:=D.nx } σ2 H2)
noncomputable def pinsAt (fp:List Addr) (h:Heap):List (Addr×Obj):=fp.filterMap fun b=>(h.get? b).map fun o=>(b,o)
theorem mem_pinsAt {fp:List Addr}{h:Heap}{b:Addr}{o:Obj}(hb:b ∈ fp) (e:h.get? b=some o):(b,o) ∈ pinsAt fp h:=List.mem_filterMap.mpr ⟨b,hb,by rw [e]; rfl⟩
theorem of_pinsAt {fp:List Addr}{h:Heap}{p:Addr×Obj}(hp:p ∈ pinsAt fp h):p.1 ∈ fp∧h.get? p.1=some p.2:=by
  obtain ⟨b,hb,e⟩:=List.mem_filterMap.mp hp
  cases q:h.get? b with
  | none=>rw [q] at e; cases e
  | some o =>
    rw [q] at e
    have e':(b,o)=p:=Option.some.inj e
    subst e'
    exact ⟨hb,q⟩
theorem Inv.pinned {pins:List (Addr×Obj)}{σ:St}{H:Hp}{s:Shared}{fp:List Addr}(I:Inv X pins σ H s) (hf:∀ b ∈ fp,FpOk X pins H b) (ho:∀ b ∈ fp,∃ o,s.heap.get? b=some o∧∀ v,o.data ≠ .cell v):Inv X (pins ++ pinsAt fp s.heap) σ H s :=
  I.pins_of fun p hp=>(List.mem_append.mp hp).elim (fun z=>I.pin p (List.mem_append_right _ z)) fun z=>by
    obtain ⟨hb,e⟩:=of_pinsAt z
    obtain ⟨f0,f1,f2,_⟩:=hf p.1 hb
    obtain ⟨o,e',d⟩:=ho p.1 hb
    rw [e] at e'; cases e'
    exact ⟨e,f0,f1,f2,d⟩
theorem Inv.unpinned {pins pl:List (Addr×Obj)}{σ:St}{H:Hp}{s:Shared}(I:Inv X (pins ++ pl) σ H s):Inv X pins σ H s:=I.pins_of fun p hp=>I.pin p (List.mem_append_right _ (List.mem_append_left _ hp))
theorem ps_for {iter:Expr}{body:List Stmt}{wi:TI}{g:TG}{tb:TS}{pos:Pos}(hp:PassesOwn (model X.prog X.w) X.A X.env X.xe) (hc:X.calm=true) (hi:PI X tg iter wi) (hg:PG X tg g) (hb:PSs X body tb)
    (hs:∀ x,foldedSetIterable iter X.env x=pure x:=by intro _; rfl):PS X (.For tg iter body [] pos) (tFor wi g tb):=by
  intro pins s σ H D I h
  refine wpAny_For (thn (hi pins s σ H _ I h) fun v s1 h1=>thn h1 fun itv s2 h2=>?_) hs
  obtain ⟨it,fp,tn,J,H2,e,I2,T,st2,f2,W,⟨m0,w0⟩,turn⟩:=h2
  subst e
  -- what stays true of the iterator's objects through the loop
  have stat:∀ {H':Hp},(∀ b ∈ fp,H' b=none)→∀ b ∈ fp,FpOk X pins H' b:=fun hn b hb=>⟨hn b hb,(f2 b hb).2⟩
  refine codeAny_forLoop_any (fun n s'=>∃ i σ' H',Inv X pins σ' H' s'∧tn i s'.heap∧(∀ b ∈ fp,H' b=none)∧W i n σ' H') ?_ m0 ⟨0,σ,H2,I2,st2,fun b hb=>(f2 b hb).1,w0⟩
  rintro n s3 ⟨i,σ3,H3,I3,st3,fr3,w3⟩
  rcases turn i n σ3 H3 w3 with ⟨stop,qn⟩ | ⟨go,N,hN,step⟩
  · refine wpAny_passesOwn hp (thn (T.done X rfl rfl rfl hc i pins s3 σ3 H3 X.xe I3 (stat fr3) st3 stop) fun r s4 ⟨hr,I4⟩=>?_)
    subst hr
    exact wpAny_execs_nil ⟨σ3,H3,I4,qn⟩
  · refine wpAny_passesOwn hp (thn (T.item X rfl rfl rfl hc i pins s3 σ3 H3 X.xe I3 (stat fr3) st3 go) fun r s4 ⟨u,hr,h4⟩=>?_)
    subst hr
    refine wpAny_passesOwn hp (thn h4 fun _ s5 ⟨x,H5,I5,r5,y5,st5,fr5⟩=>?_)
    have I5':=I5.pinned (stat fr5) (T.obj _ _ st5)
    refine wpAny_passesOwn hp (thn (hg _ s5 σ3 H5 x u _ I5' r5 (step x H5 y5)) fun _ s6 ⟨σ6,H6,I6,q6⟩=>?_)
    refine wpAny_passesOwn hp (thn (hb _ s6 σ6 H6 _ I6 q6) fun f s7 q7=>?_)
    have again:∀ {σ7:St}{H7:Hp},Inv X (pins ++ pinsAt fp s5.heap) σ7 H7 s7→N σ7 H7→∃ m,m < n∧∃ i σ' H',Inv X pins σ' H' s7∧tn i s7.heap∧(∀ b ∈ fp,H' b=none)∧W i m σ' H':=fun {σ7 H7} I7 n7=>by
      obtain ⟨m',hm,w7⟩:=hN σ7 H7 n7
      refine ⟨m',hm,i + 1,σ7,H7,I7.unpinned,T.keep _ _ _ st5 fun b hb o e=>(I7.pin (b,o) (List.mem_append_right _ (List.mem_append_right _ (mem_pinsAt hb e)))).1,fun b hb=>?_,w7⟩
      obtain ⟨o,e,d⟩:=T.obj _ _ st5 b hb
      exact (I7.pin (b,o) (List.mem_append_right _ (List.mem_append_right _ (mem_pinsAt hb e)))).2.1
    cases f with
    | next=>obtain ⟨σ7,H7,I7,n7⟩:=q7; exact again I7 n7
    | cont=>obtain ⟨σ7,H7,I7,n7⟩:=q7; exact again I7 n7
    | brk=>obtain ⟨σ7,H7,I7,q7⟩:=q7; exact ⟨σ7,H7,I7.unpinned,q7⟩
    | ret v=>obtain ⟨x7,σ7,H7,I7,r7,q7⟩:=q7; exact ⟨x7,σ7,H7,I7.unpinned,r7,q7⟩
end
theorem for_list {K:PySem.W.Frag}{a:Addr}{xs:List V}{g:TG}{tb:TS}{D:Ends}{σ:St}{H:Hp}(Pv:Nat→St→Hp→Prop) (h0:Pv 0 σ H) (hl:∀ i σ H,i ≤ xs.length→Pv i σ H→SqL K H a xs)
    (hs:∀ i x σ H,xs[i]? = some x→Pv i σ H→g x σ H fun σ2 H2=>tb { D with nx:=Pv (i + 1),ct:=Pv (i + 1),bk:=D.nx } σ2 H2) (hd:∀ σ H,Pv xs.length σ H→D.nx σ H) :
    ∃ W:Nat→Nat→St→Hp→Prop,(∃ m,W 0 m σ H)∧∀ i m σ H,W i m σ H →
      ((Itl K a).stop i H∧D.nx σ H)∨((Itl K a).go i H∧∃ N:St→Hp→Prop,(∀ σ' H',N σ' H'→∃ m',m' < m∧W (i + 1) m' σ' H')∧∀ x H',(Itl K a).yld i H x H'→g x σ H' fun σ2 H2=>tb { D with nx:=N,ct:=N,bk:=D.nx } σ2 H2):=by
  refine ⟨fun i m σ H=>m=xs.length - i∧i ≤ xs.length∧Pv i σ H,⟨xs.length,by simp,Nat.zero_le _,h0⟩,?_⟩
  rintro i m σ H ⟨rfl,hi,p⟩
  have q:=hl i σ H hi p
  by_cases hlt:i < xs.length
  · refine .inr ⟨⟨xs,xs[i],q,by simp [hlt]⟩,Pv (i + 1),fun σ' H' p'=>⟨xs.length - (i + 1),by omega,rfl,hlt,p'⟩,fun x H' y=>?_⟩
    obtain ⟨e,y⟩:=y
    subst e
    exact hs i x σ _ (y xs q) p
  · have e:i=xs.length:=by omega
    subst e
    exact .inl ⟨⟨xs,q,Nat.le_refl _⟩,hd σ H p⟩
theorem for_tup {K:PySem.W.Frag}{a:Addr}{xs:List V}{g:TG}{tb:TS}{D:Ends}{σ:St}{H:Hp}(Pv:Nat→St→Hp→Prop) (h0:Pv 0 σ H) (hl:∀ i σ H,i ≤ xs.length→Pv i σ H→SqT K H a xs)
    (hs:∀ i x σ H,xs[i]? = some x→Pv i σ H→g x σ H fun σ2 H2=>tb { D with nx:=Pv (i + 1),ct:=Pv (i + 1),bk:=D.nx } σ2 H2) (hd:∀ σ H,Pv xs.length σ H→D.nx σ H) :
    ∃ W:Nat→Nat→St→Hp→Prop,(∃ m,W 0 m σ H)∧∀ i m σ H,W i m σ H →
      ((Itt K a).stop i H∧D.nx σ H)∨((Itt K a).go i H∧∃ N:St→Hp→Prop,(∀ σ' H',N σ' H'→∃ m',m' < m∧W (i + 1) m' σ' H')∧∀ x H',(Itt K a).yld i H x H'→g x σ H' fun σ2 H2=>tb { D with nx:=N,ct:=N,bk:=D.nx } σ2 H2):=by
  refine ⟨fun i m σ H=>m=xs.length - i∧i ≤ xs.length∧Pv i σ H,⟨xs.length,by simp,Nat.zero_le _,h0⟩,?_⟩
  rintro i m σ H ⟨rfl,hi,p⟩
  have q:=hl i σ H hi p
  by_cases hlt:i < xs.length
  · refine .inr ⟨⟨xs,xs[i],q,by simp [hlt]⟩,Pv (i + 1),fun σ' H' p'=>⟨xs.length - (i + 1),by omega,rfl,hlt,p'⟩,fun x H' y=>?_⟩
    obtain ⟨e,y⟩:=y
    subst e
    exact hs i x σ _ (y xs q) p
  · have e:i=xs.length:=by omega
    subst e
    exact .inl ⟨⟨xs,q,Nat.le_refl _⟩,hd σ H p⟩
theorem for_range {lo:Int}{n:Nat}{g:TG}{tb:TS}{D:Ends}{σ:St}{H:Hp}(Pv:Nat→St→Hp→Prop) (h0:Pv 0 σ H)
    (hs:∀ i σ H,i < n→Pv i σ H→g (.int (lo + i)) σ H fun σ2 H2=>tb { D with nx:=Pv (i + 1),ct:=Pv (i + 1),bk:=D.nx } σ2 H2) (hd:∀ σ H,Pv n σ H→D.nx σ H) :
    ∃ W:Nat→Nat→St→Hp→Prop,(∃ m,W 0 m σ H)∧∀ i m σ H,W i m σ H →
      ((Itr lo n).stop i H∧D.nx σ H)∨((Itr lo n).go i H∧∃ N:St→Hp→Prop,(∀ σ' H',N σ' H'→∃ m',m' < m∧W (i + 1) m' σ' H')∧∀ x H',(Itr lo n).yld i H x H'→g x σ H' fun σ2 H2=>tb { D with nx:=N,ct:=N,bk:=D.nx } σ2 H2):=by
  refine ⟨fun i m σ H=>m=n - i∧i ≤ n∧Pv i σ H,⟨n,by simp,Nat.zero_le _,h0⟩,?_⟩
  rintro i m σ H ⟨rfl,hi,p⟩
  by_cases hlt:i < n
  · refine .inr ⟨hlt,Pv (i + 1),fun σ' H' p'=>⟨n - (i + 1),by omega,rfl,hlt,p'⟩,fun x H' y=>?_⟩
    obtain ⟨e,y⟩:=y
    subst e y
    exact hs i σ _ hlt p
  · have e:i=n:=by omega
    subst e
    exact .inl ⟨Nat.le_refl _,hd σ H p⟩
noncomputable abbrev R2:=V→V→Hp→VK→Prop
noncomputable def OpR (X:Cx) (f:Value→Value→Sem Value) (r:R2):Prop :=
  ∀ (pins:List (Addr×Obj)) (s:Shared) (σ:St) (H:Hp) (x y:V) (v u:Value) (Q:VK),Inv X pins σ H s→RelV x v→RelV y u→r x y H Q →
    wpAny (model X.prog X.w) X.A (f v u) (EP X pins σ Q) X.xe s
noncomputable def UnR (X:Cx) (f:Value→Sem Value) (r:V→Hp→VK→Prop):Prop :=
  ∀ (pins:List (Addr×Obj)) (s:Shared) (σ:St) (H:Hp) (x:V) (v:Value) (Q:VK),Inv X pins σ H s→RelV x v→r x H Q →
    wpAny (model X.prog X.w) X.A (f v) (EP X pins σ Q) X.xe s
noncomputable def CallR (X:Cx) (f:Value) (r:List V→Hp→VK→Prop):Prop :=
  ∀ (pins:List (Addr×Obj)) (s:Shared) (σ:St) (H:Hp) (xs:List V) (us:List Value) (Q:VK),Inv X pins σ H s→Vals xs us→r xs H Q →
    wpAny (model X.prog X.w) X.A (call f us) (EP X pins σ Q) X.xe s
noncomputable def tOp (r:R2) (ta tb:TE):TE:=fun σ H Q=>ta σ H fun x H1=>tb σ H1 fun y H2=>r x y H2 Q
noncomputable def tUn (r:V→Hp→VK→Prop) (ta:TE):TE:=fun σ H Q=>ta σ H fun x H1=>r x H1 Q
noncomputable def rI (C:Int→Int→Prop) (g:Int→Int→V):R2:=fun x y H Q=>∃ i j,x = .int i∧y = .int j∧C i j∧Q (g i j) H
noncomputable def rI0 (g:Int→Int→V):R2:=fun x y H Q=>∃ i j,x = .int i∧y = .int j∧Q (g i j) H
noncomputable def rU (g:Int→V):V→Hp→VK→Prop:=fun x H Q=>∃ i,x = .int i∧Q (g i) H
section
variable {X:Cx}{a b c:Expr}{ta tb tc:TE}{pos:Pos}
theorem binT (ha:PE X a ta) (hb:PE X b tb) {pins:List (Addr×Obj)}{s:Shared}{σ:St}{H:Hp}{R:V→V→Hp→Prop}(I:Inv X pins σ H s)
    (h:ta σ H fun x H1=>tb σ H1 fun y H2=>R x y H2) {Q:Value→Shared→Prop}{f:Value→Value→Sem Value}
    (hf:∀ v u s2 x y H2,Inv X pins σ H2 s2→RelV x v→RelV y u→R x y H2→wpAny (model X.prog X.w) X.A (f v u) Q X.xe s2) :
    wpAny (model X.prog X.w) X.A (eval a X.env) (fun v s₁=>wpAny (model X.prog X.w) X.A (eval b X.env) (fun u s₂=>wpAny (model X.prog X.w) X.A (f v u) Q X.xe s₂) X.xe s₁) X.xe s:=by
  refine thn (ha pins s σ H _ I h) fun v s1 ⟨x,H1,I1,r1,q1⟩=>?_
  refine thn (hb pins s1 σ H1 _ I1 q1) fun u s2 ⟨y,H2,I2,r2,q2⟩=>?_
  exact hf v u s2 x y H2 I2 r1 r2 q2
theorem pe_op {op:Operator}{r:R2}(ho:OpR X (binaryOp op) r) (ha:PE X a ta) (hb:PE X b tb):PE X (.BinOp a op b pos) (tOp r ta tb):=by
  intro pins s σ H Q I h
  exact wpAny_BinOp (binT ha hb I h fun v u s2 x y H2 I2 rx ry q=>ho pins s2 σ H2 x y v u Q I2 rx ry q)
theorem pe_un {op:UnaryOp}{r:V→Hp→VK→Prop}(ho:UnR X (unaryOp op) r) (ha:PE X a ta):PE X (.UnaryOp op a pos) (tUn r ta):=by
  intro pins s σ H Q I h
  exact UnaryOp_ (thn (ha pins s σ H _ I h) fun v s1 ⟨x,H1,I1,r1,q1⟩=>ho pins s1 σ H1 x v Q I1 r1 q1)
theorem opI {f:Value→Value→Sem Value}{C:Int→Int→Prop}{g:Int→Int→Int}
    (rule:∀ (i j:Int) (t u:Tok) (s:Shared) (Q:Value→Shared→Prop) (E:Value→Shared→Prop),C i j→Q (.int (g i j) s.toks) { s with toks:=s.toks + 1 }→wpAny (model X.prog X.w) X.A (f (.int i t) (.int j u)) Q E s) :
    OpR X f (rI C fun i j=>.int (g i j)):=by
  intro pins s σ H x y v u Q I rx ry h
  obtain ⟨i,j,rfl,rfl,hc,q⟩:=h
  obtain ⟨t,rfl⟩:=rx
  obtain ⟨t',rfl⟩:=ry
  exact rule i j t t' s _ _ hc ⟨.int (g i j),H,I.tok _,⟨_,rfl⟩,q⟩
theorem opI0 {f:Value→Value→Sem Value}{g:Int→Int→Int}
    (rule:∀ (i j:Int) (t u:Tok) (s:Shared) (Q:Value→Shared→Prop) (E:Value→Shared→Prop),Q (.int (g i j) s.toks) { s with toks:=s.toks + 1 }→wpAny (model X.prog X.w) X.A (f (.int i t) (.int j u)) Q E s) :
    OpR X f (rI0 fun i j=>.int (g i j)):=by
  intro pins s σ H x y v u Q I rx ry h
  obtain ⟨i,j,rfl,rfl,q⟩:=h
  obtain ⟨t,rfl⟩:=rx
  obtain ⟨t',rfl⟩:=ry
  exact rule i j t t' s _ _ ⟨.int (g i j),H,I.tok _,⟨_,rfl⟩,q⟩
theorem opB0 {f:Value→Value→Sem Value}{g:Int→Int→Bool}
    (rule:∀ (i j:Int) (t u:Tok) (s:Shared) (Q:Value→Shared→Prop) (E:Value→Shared→Prop),Q (.bool (g i j)) s→wpAny (model X.prog X.w) X.A (f (.int i t) (.int j u)) Q E s) :
    OpR X f (rI0 fun i j=>.bl (g i j)):=by
  intro pins s σ H x y v u Q I rx ry h
  obtain ⟨i,j,rfl,rfl,q⟩:=h
  obtain ⟨t,rfl⟩:=rx
  obtain ⟨t',rfl⟩:=ry
  exact rule i j t t' s _ _ ⟨.bl (g i j),H,I,rfl,q⟩
noncomputable def CDiv (i j:Int):Prop:=0 < j∧j < 1073741824
noncomputable def CPow (i j:Int):Prop:=0 ≤ j∧j ≤ 1000000∧i.natAbs < 2 ^ 64
noncomputable def CMul (i j:Int):Prop:=(-(2 ^ 64) < i∧i < 2 ^ 64)∨(-(2 ^ 64) < j∧j < 2 ^ 64)
theorem CMul.ok {i j:Int}(h:CMul i j):IntMulOk i j:=by
  rcases h with ⟨h1,h2⟩ | ⟨h1,h2⟩
  · exact .of_left (intBits_le_64 h1 h2)
  · exact .of_right (intBits_le_64 h1 h2)
theorem op_add:OpR X (binaryOp .Add) (rI0 fun i j=>.int (i + j)):=opI0 fun _ _ _ _ _ _ _ q=>add_int q
theorem op_sub:OpR X (binaryOp .Sub) (rI0 fun i j=>.int (i - j)):=opI0 fun _ _ _ _ _ _ _ q=>sub_int q
theorem op_mul:OpR X (binaryOp .Mult) (rI CMul fun i j=>.int (i * j)):=opI fun _ _ _ _ _ _ _ hc q=>mul_int q hc.ok
theorem op_fdiv:OpR X (binaryOp .FloorDiv) (rI CDiv fun i j=>.int (i / j)):=opI fun i j _ _ _ _ _ hc q=>by
  have h1:(0:Int) < j:=hc.1
  have h2:j < 1073741824:=hc.2
  exact floordiv_int (by omega) (by rw [Int.fdiv_eq_ediv_of_nonneg i (by omega)]; exact q) (.inl (PyProof.noPylong_small (by omega)))
theorem op_mod:OpR X (binaryOp .Mod) (rI (fun _ j=>0 < j) fun i j=>.int (i % j)):=opI fun i j _ _ _ _ _ hc q=>by
  have h1:(0:Int) < j:=hc
  exact mod_int' (by omega) (by rw [Int.fmod_eq_emod_of_nonneg i (by omega)]; exact q)
theorem op_pow:OpR X (binaryOp .Pow) (rI CPow fun i j=>.int (i ^ j.toNat)):=opI fun _ _ _ _ _ _ _ hc q=>pow_int_small hc.1 hc.2.1 hc.2.2 q
theorem unI {f:Value→Sem Value}{g:Int→Int}
    (rule:∀ (i:Int) (t:Tok) (s:Shared) (Q:Value→Shared→Prop) (E:Value→Shared→Prop),Q (.int (g i) s.toks) { s with toks:=s.toks + 1 }→wpAny (model X.prog X.w) X.A (f (.int i t)) Q E s) :
    UnR X f (rU fun i=>.int (g i)):=by
  intro pins s σ H x v Q I rx h
  obtain ⟨i,rfl,q⟩:=h
  obtain ⟨t,rfl⟩:=rx
  exact rule i t s _ _ ⟨.int (g i),H,I.tok _,⟨_,rfl⟩,q⟩
theorem un_neg:UnR X (unaryOp .USub) (rU fun i=>.int (-i)):=unI fun _ _ _ _ _ q=>neg_int q
end
noncomputable def scal:V→V→Bool
  | .non,.non=>true | .non,.int _=>true | .int _,.non=>true | .non,.bl _=>true | .bl _,.non=>true | .non,.str _=>true | .str _,.non=>true
  | .int _,.int _=>true | .bl _,.bl _=>true | .str _,.str _=>true | .byt _,.byt _=>true
  | .int _,.str _=>true | .str _,.int _=>true | .bl _,.str _=>true | .str _,.bl _=>true
  | _,_=>false
noncomputable def rEq:R2:=fun x y H Q=>scal x y=true∧Q (.bl (decide (x=y))) H
noncomputable def rNe:R2:=fun x y H Q=>scal x y=true∧Q (.bl (!decide (x=y))) H
theorem dec_int {i j:Int}:decide (V.int i=V.int j)=(i == j):=by
  rw [Bool.eq_iff_iff]
  simp
theorem dec_bl {i j:Bool}:decide (V.bl i=V.bl j)=(i == j):=by
  rw [Bool.eq_iff_iff]
  simp
theorem dec_str {i j:Str}:decide (V.str i=V.str j)=(i == j):=by
  rw [Bool.eq_iff_iff]
  simp
theorem dec_byt {i j:Array UInt8}:decide (V.byt i=V.byt j)=(i.toList == j.toList):=by
  rw [Bool.eq_iff_iff]
  cases i
  cases j
  simp
section
variable {X:Cx}{a b c:Expr}{ta tb tc:TE}{pos:Pos}
theorem fin_bl {pins:List (Addr×Obj)}{σ:St}{H:Hp}{s:Shared}{Q:VK}{k k':Bool}(I:Inv X pins σ H s) (q:Q (.bl k) H) (e:k=k'):EP X pins σ Q (.bool k') s:=by
  subst e
  exact ⟨.bl k,H,I,rfl,q⟩
theorem op_eq:OpR X (compareOp .Eq) rEq:=by
  intro pins s σ H x y v u Q I rx ry h
  obtain ⟨hs,q⟩:=h
  cases x with
  | non =>
    cases rx
    cases y with
    | non=>cases ry; exact PySem.EqNone.eq_none_none (fin_bl I q (by simp))
    | bl j=>cases ry; exact PySem.EqNone.eq_none_bool (fin_bl I q (by simp))
    | int j=>obtain ⟨t',rfl⟩:=ry; exact PySem.EqNone.eq_none_int (fin_bl I q (by simp))
    | str j=>obtain ⟨t',rfl⟩:=ry; exact PySem.EqNone.eq_none_str (fin_bl I q (by simp))
    | _=>exact absurd (show false=true from hs) Bool.false_ne_true
  | bl i =>
    cases rx
    cases y with
    | non=>cases ry; exact PySem.EqNone.eq_bool_none (fin_bl I q (by simp))
    | bl j=>cases ry; exact eq_bool (fin_bl I q dec_bl)
    | str j=>obtain ⟨t',rfl⟩:=ry; exact PySem.EqMixed.eq_bool_str (fin_bl I q (by simp))
    | _=>exact absurd (show false=true from hs) Bool.false_ne_true
  | int i =>
    obtain ⟨t,rfl⟩:=rx
    cases y with
    | non=>cases ry; exact PySem.EqNone.eq_int_none (fin_bl I q (by simp))
    | int j=>obtain ⟨t',rfl⟩:=ry; exact eq_int (fin_bl I q dec_int)
    | str j=>obtain ⟨t',rfl⟩:=ry; exact PySem.EqMixed.eq_int_str (fin_bl I q (by simp))
    | _=>exact absurd (show false=true from hs) Bool.false_ne_true
  | str i =>
    obtain ⟨t,rfl⟩:=rx
    cases y with
    | non=>cases ry; exact PySem.EqNone.eq_str_none (fin_bl I q (by simp))
    | bl j=>cases ry; exact PySem.EqMixed.eq_str_bool (fin_bl I q (by simp))
    | int j=>obtain ⟨t',rfl⟩:=ry; exact PySem.EqMixed.eq_str_int (fin_bl I q (by simp))
    | str j=>obtain ⟨t',rfl⟩:=ry; exact eq_str (fin_bl I q dec_str)
    | _=>exact absurd (show false=true from hs) Bool.false_ne_true
  | byt i =>
    obtain ⟨t,rfl⟩:=rx
    cases y with
    | byt j=>obtain ⟨t',rfl⟩:=ry; exact PySem.W.eq_bytes (fin_bl I q dec_byt)
    | _=>exact absurd (show false=true from hs) Bool.false_ne_true
  | _=>cases y <;> exact absurd (show false=true from hs) Bool.false_ne_true
theorem op_ne:OpR X (compareOp .NotEq) rNe:=by
  intro pins s σ H x y v u Q I rx ry h
  obtain ⟨hs,q⟩:=h
  cases x with
  | non =>
    cases rx
    cases y with
    | non=>cases ry; exact PySem.EqNone.ne_none_none (fin_bl I q (by simp))
    | bl j=>cases ry; exact PySem.EqNone.ne_none_bool (fin_bl I q (by simp))
    | int j=>obtain ⟨t',rfl⟩:=ry; exact PySem.EqNone.ne_none_int (fin_bl I q (by simp))
    | str j=>obtain ⟨t',rfl⟩:=ry; exact PySem.EqNone.ne_none_str (fin_bl I q (by simp))
    | _=>exact absurd (show false=true from hs) Bool.false_ne_true
  | bl i =>
    cases rx
    cases y with
    | non=>cases ry; exact PySem.EqNone.ne_bool_none (fin_bl I q (by simp))
    | bl j=>cases ry; exact ne_bool (fin_bl I q (congrArg not dec_bl))
    | str j=>obtain ⟨t',rfl⟩:=ry; exact PySem.EqMixed.ne_bool_str (fin_bl I q (by simp))
    | _=>exact absurd (show false=true from hs) Bool.false_ne_true
  | int i =>
    obtain ⟨t,rfl⟩:=rx
    cases y with
    | non=>cases ry; exact PySem.EqNone.ne_int_none (fin_bl I q (by simp))
    | int j=>obtain ⟨t',rfl⟩:=ry; exact ne_int (fin_bl I q (congrArg not dec_int))
    | str j=>obtain ⟨t',rfl⟩:=ry; exact PySem.EqMixed.ne_int_str (fin_bl I q (by simp))
    | _=>exact absurd (show false=true from hs) Bool.false_ne_true
  | str i =>
    obtain ⟨t,rfl⟩:=rx
    cases y with
    | non=>cases ry; exact PySem.EqNone.ne_str_none (fin_bl I q (by simp))
    | bl j=>cases ry; exact PySem.EqMixed.ne_str_bool (fin_bl I q (by simp))
    | int j=>obtain ⟨t',rfl⟩:=ry; exact PySem.EqMixed.ne_str_int (fin_bl I q (by simp))
    | str j=>obtain ⟨t',rfl⟩:=ry; exact ne_str (fin_bl I q (congrArg not dec_str))
    | _=>exact absurd (show false=true from hs) Bool.false_ne_true
  | byt i =>
    obtain ⟨t,rfl⟩:=rx
    cases y with
    | byt j=>obtain ⟨t',rfl⟩:=ry; exact PySem.W.ne_bytes (fin_bl I q (congrArg not dec_byt))
    | _=>exact absurd (show false=true from hs) Bool.false_ne_true
  | _=>cases y <;> exact absurd (show false=true from hs) Bool.false_ne_true
theorem op_lt:OpR X (compareOp .Lt) (rI0 fun i j=>.bl (decide (i < j))):=opB0 fun _ _ _ _ _ _ _ q=>lt_int q
theorem op_le:OpR X (compareOp .LtE) (rI0 fun i j=>.bl (decide (i ≤ j))):=opB0 fun _ _ _ _ _ _ _ q=>le_int q
theorem op_gt:OpR X (compareOp .Gt) (rI0 fun i j=>.bl (decide (j < i))):=opB0 fun _ _ _ _ _ _ _ q=>gt_int q
theorem op_ge:OpR X (compareOp .GtE) (rI0 fun i j=>.bl (decide (j ≤ i))):=opB0 fun _ _ _ _ _ _ _ q=>ge_int q
theorem op_isN:OpR X (compareOp .Is) (fun x y H Q=>y = .non∧Q (.bl (decide (x = .non))) H):=by
  intro pins s σ H x y v u Q I rx ry h
  obtain ⟨rfl,q⟩:=h
  cases ry
  refine is_none_gen (fin_bl I q ?_)
  cases x <;> first
    | (cases rx; rfl)
    | (obtain ⟨t,rfl⟩:=rx; rfl)
theorem op_notN:OpR X (compareOp .IsNot) (fun x y H Q=>y = .non∧Q (.bl (!decide (x = .non))) H):=by
  intro pins s σ H x y v u Q I rx ry h
  obtain ⟨rfl,q⟩:=h
  cases ry
  refine isnot_none_gen (fin_bl I q ?_)
  cases x <;> first
    | (cases rx; rfl)
    | (obtain ⟨t,rfl⟩:=rx; rfl)
theorem nomark (b:Expr) {op:CmpOp}(h:op ≠ .In:=by decide) (h2:op ≠ .NotIn:=by decide):behindInMarks op b=false:=by
  have e1:(op == CmpOp.In)=false:=by cases op <;> first | rfl | exact absurd rfl h
  have e2:(op == CmpOp.NotIn)=false:=by cases op <;> first | rfl | exact absurd rfl h2
  cases b <;> simp [behindInMarks,e1,e2]
theorem pe_cmpR {op:CmpOp}{r:R2}(ho:OpR X (compareOp op) r) (ha:PE X a ta) (hb:PE X b tb) (hm:behindInMarks op b=false):PE X (.Compare a [op] [b] pos) (tOp r ta tb):=by
  intro pins s σ H Q I h
  exact wpAny_Compare1 (binT ha hb I h fun v u s2 x y H2 I2 rx ry q=>ho pins s2 σ H2 x y v u Q I2 rx ry q) hm
noncomputable def tTest (t:TE):TT:=fun σ H Q=>t σ H fun x H'=>∃ k,x = .bl k∧Q k H'
theorem pt_cmpR {op:CmpOp}{r:R2}(ho:OpR X (compareOp op) r) (ha:PE X a ta) (hb:PE X b tb) (hm:behindInMarks op b=false):PT X (.Compare a [op] [b] pos) (tTest (tOp r ta tb)):=by
  intro pins s σ H Q I h
  refine wpAny_isTrue_Compare1 (thn (ha pins s σ H _ I h) fun v s1 ⟨x,H1,I1,r1,q1⟩=>thn (hb pins s1 σ H1 _ I1 q1) fun u s2 ⟨y,H2,I2,r2,q2⟩ =>
    thn (ho pins s2 σ H2 x y v u _ I2 r1 r2 q2) fun c s3 ⟨z,H3,I3,r3,k,e,q3⟩=>?_) hm
  subst e
  cases r3
  exact wpAny_truthy_bool ⟨H3,I3,q3⟩
noncomputable def tChain (r r':R2) (ta tb tc:TE):TE:=fun σ H Q=>ta σ H fun x H1=>tb σ H1 fun y H2=>r x y H2 fun z H3=>∃ k,z = .bl k ∧
  (if k=true then tc σ H3 fun w' H4=>r' y w' H4 Q else Q (.bl false) H3)
theorem pe_chain {op op':CmpOp}{r r':R2}(ho:OpR X (compareOp op) r) (ho':OpR X (compareOp op') r') (ha:PE X a ta) (hb:PE X b tb) (hc:PE X c tc)
    (hm:lastMarks [op,op'] [b,c]=false:=by with_unfolding_all rfl):PE X (.Compare a [op,op'] [b,c] pos) (tChain r r' ta tb tc):=by
  intro pins s σ H Q I h
  refine Compare_chain (thn (ha pins s σ H _ I h) fun v s1 ⟨x,H1,I1,r1,q1⟩=>chain_link (thn (hb pins s1 σ H1 _ I1 q1) fun u s2 ⟨y,H2,I2,r2,q2⟩ =>
    thn (ho pins s2 σ H2 x y v u _ I2 r1 r2 q2) fun d s3 ⟨z,H3,I3,r3,k,e,q3⟩=>?_)) hm
  subst e
  cases r3
  refine wpAny_truthy_bool ?_
  cases k with
  | false=>exact ite_ff ⟨.bl false,H3,I3,rfl,q3⟩
  | true=>exact ite_tt (chain_last (thn (hc pins s3 σ H3 _ I3 q3) fun w' s4 ⟨z',H4,I4,r4,q4⟩=>ho' pins s4 σ H4 y z' u w' Q I4 r2 r4 q4))
theorem line63:(sizeLine:Nat) < 2 ^ 63:=by rw [sizeLine_eq]; decide
theorem vals1 {x:V}{us:List Value}(r:Vals [x] us):∃ u,us = [u]∧RelV x u:=by
  cases r with
  | cons r1 r2=>cases r2; exact ⟨_,rfl,r1⟩
theorem vals2 {x y:V}{us:List Value}(r:Vals [x,y] us):∃ u w',us = [u,w']∧RelV x u∧RelV y w':=by
  cases r with
  | cons r1 r2 =>
    cases r2 with
    | cons r3 r4=>cases r4; exact ⟨_,_,rfl,r1,r3⟩
theorem call_max2 (hc:X.calm=true):CallR X (.builtin "max") (fun xs H Q=>∃ i j,xs = [.int i,.int j]∧Q (.int (if j > i then j else i)) H):=by
  intro pins s σ H xs us Q I r h
  obtain ⟨i,j,rfl,q⟩:=h
  obtain ⟨u,w',rfl,⟨t,rfl⟩,⟨t',rfl⟩⟩:=vals2 r
  refine max_two_ints (I.ok.hd hc) fun h' tk k=>⟨_,H,I.kept k,?_,q⟩
  by_cases hj:j > i
  · rw [if_pos hj,if_pos hj]; exact ⟨_,rfl⟩
  · rw [if_neg hj,if_neg hj]; exact ⟨_,rfl⟩
theorem call_int1:CallR X (.type "int") (fun xs H Q=>(∃ i,xs = [.int i]∧Q (.int i) H)∨∃ k,xs = [.bl k]∧Q (.int (if k then 1 else 0)) H):=by
  intro pins s σ H xs us Q I r h
  rcases h with ⟨i,rfl,q⟩ | ⟨k,rfl,q⟩
  · obtain ⟨u,rfl,t,rfl⟩:=vals1 r
    exact call_int_int ⟨.int i,H,I,⟨_,rfl⟩,q⟩
  · obtain ⟨u,rfl,r1⟩:=vals1 r
    cases r1
    exact call_int_bool ⟨.int (if k then 1 else 0),H,I.tok _,⟨_,rfl⟩,q⟩
end
structure ObjM (h:Heap) (x dx C:Addr) (mA:Str→Option Value):Prop where
  obj:h.get? x=some (PySem.W.instObj C dx)
  ns:h.Ns1 dx mA
  ne:dx ≠ x
theorem lookIn_ns {h:Heap}{dx:Addr}{mA:Str→Option Value}(n:h.Ns1 dx mA):∃ od,h.get? dx=some od∧∀ name,PySem.W.lookIn name od=some (mA name):=by
  obtain ⟨o,es,ep,ho,hd,hk,_,hm⟩:=n
  refine ⟨o,ho,fun name=>?_⟩
  have e:=hm name
  unfold nsFind findBy at e
  rw [← Array.find?_toList] at e
  unfold PySem.W.lookIn
  rw [hd]
  dsimp only
  split
  · rename_i y q
    rw [q] at e
    exact congrArg some e
  · rename_i q
    rw [q] at e
    have a:es.toList.any (·.refKey)=false:=by
      rw [List.any_eq_false]
      intro y hy
      obtain ⟨z,t,hkey⟩:=hk y (Array.mem_toList_iff.mp hy)
      simp [DictEntry.refKey,hkey]
    have a':¬ es.toList.any (·.refKey)=true:=by rw [a]; exact Bool.false_ne_true
    rw [if_neg a']
    exact congrArg some e
theorem ObjM.look {h:Heap}{x dx C:Addr}{mA:Str→Option Value}(I:ObjM h x dx C mA):∃ od,PySem.W.InstAt h x (PySem.W.instObj C dx) C (some od)∧∀ name,PySem.W.lookIn name od=some (mA name) :=
  let ⟨od,ho,hl⟩:=lookIn_ns I.ns
  ⟨od,⟨I.obj,rfl,rfl,ho⟩,hl⟩
section
variable {prog:Program}{w:World}{A:Around}{E:Value→Shared→Prop}{s:Shared}{K:PySem.W.Frag}{x dx C f:Addr}{mA:Str→Option Value}{name:Str}{v:Value}
theorem get_map {expr:Bool}{Q:Value→Shared→Prop}(X:K.In s.heap) (I:ObjM s.heap x dx C mA) (hg:PySem.W.plainGet K C name=true) (hh:PySem.W.hasDictIn K C=true)
    (ha:PySem.W.findIn K (.ref C) name=some none) (hv:mA name=some v) (hv':PySem.W.handedIn v=true) (h:Q v { s with toks:=s.toks + 1 }) :
    wpAny (model prog w) A (getAttr (.ref x) name expr) Q E s:=by
  obtain ⟨od,J,hl⟩:=I.look
  exact PySem.W.get_value X J (PySem.W.plainGet_of hg).1 (PySem.W.findObj_own hh ha rfl (by rw [hl,hv])) hv' h
theorem get_meth {pl:Sem Bool}{Q:Value×List Value→Shared→Prop}(X:K.In s.heap) (I:ObjM s.heap x dx C mA) (hg:PySem.W.plainGet K C name=true)
    (hf:PySem.W.findIn K (.ref C) name=some (some (.ref f))) (ht:PySem.W.isFn K (.ref f)=true) (hv:mA name=none) (h:Q (.ref f,[.ref x]) s) :
    wpAny (model prog w) A (getMethod (.ref x) name pl) Q E s:=by
  obtain ⟨od,J,hl⟩:=I.look
  exact PySem.W.method_fn X J (PySem.W.plainGet_of hg).1 (PySem.W.plainGet_of hg).2 hf (beq_iff_eq.mp ht) (by show (PySem.W.lookIn name od).map (·.isSome)=some false; rw [hl,hv]; rfl) h
theorem set_map {ns:List Str}{Q:Unit→Shared→Prop}(X:K.In s.heap) (I:ObjM s.heap x dx C mA)
    (hs:PySem.W.findIn K (.ref C) "__setattr__" = some (some (.builtin "object.__setattr__"))) (hp:PySem.W.plainOver K C=true) (ht:PySem.W.takerIn K C name=some none) (hh:PySem.W.hasDictIn K C=true)
    (hw:PySem.Within mA ns) (hsz:ns.length ≤ sizeLine)
    (h:∀ h',ObjM h' x dx C (fun y=>if y=name then some v else mA y)→Heap.SameBut dx s.heap h'→Q () { s with heap:=h',toks:=s.toks + 2 }) :
    wpAny (model prog w) A (setAttr (.ref x) name v) Q E s:=by
  obtain ⟨od,J,hl⟩:=I.look
  refine PySem.W.set_plain X J hs (PySem.W.osa_open (s:={ s with toks:=s.toks + 1 }) (r:=none) X J hp ht fun b=>?_)
  obtain ⟨cd,hc,hd'⟩:=PySem.W.any_some hh
  have hx:s.heap.get? x=some ⟨.ref C,some dx,.plain,#[]⟩:=I.obj
  refine wpAny_bind (wpAny_pure (wpAny_bind (wpAny_bind (wpAny_loadPart hx (wpAny_bind (PySem.W.Looks.here (s:={ s with toks:=s.toks + 1 }) (PySem.W.looks_clsIn X hc) ?_))))))
  rw [hd']
  refine wpAny_pure (a:=some dx) (wpAny_bind (wpAny_pure (wpAny_bind ?_)))
  refine wpAny_nsSet1 (s:={ s with toks:=s.toks + 1 }) I.ns fun h' hn2 hs2=>?_
  obtain ⟨oD,esD,epD,hoD,hdD,hcD⟩:=hn2.count (PySem.Within.cons name v hw)
  refine wpAny_bind (wpAny_lookBehind hoD (by rw [hdD]; exact pastItsLine_dict (Nat.le_trans hcD (by rw [List.length_cons]; omega))) ?_)
  exact wpAny_pure (h _ ⟨(hs2.2 _ (Ne.symm I.ne)).trans I.obj,hn2,I.ne⟩ hs2)
theorem make_map {R:Result→Shared→Prop}{vs:List Value}{kw:List (Str×Value)}(X:K.In s.heap) (hm:PySem.W.makesIn K C=true)
    (hi:PySem.W.findIn K (.ref C) "__init__" = some (some (.ref f))) (hf:PySem.W.typeIn K (.ref f)=some (.type "function"))
    (h:codeAny (model prog w) (A.under (.builtin "type.__call__" ⟨.ref C :: vs,kw⟩)) (.call (.ref f) ⟨.ref (s.heap.objs.size + 1) :: vs,kw⟩) (PySem.W.InitBack (s.heap.objs.size + 1) R)
      { s with heap:=(s.heap.push PySem.W.emptyDict).push (PySem.W.instObj C s.heap.objs.size) }) :
    codeAny (model prog w) A (.call (.ref C) ⟨vs,kw⟩) R s:=by
  obtain ⟨hh,g,d,t,os⟩:=s
  exact PySem.W.make_core (PySem.W.makes_of X hm) (PySem.W.looks_findIn X hi) (fun self=>PySem.W.bind_fn X self hf) (.inl rfl) h
end
noncomputable def putF (f:Str) (v:V):List (Str×V)→List (Str×V)
  | []=>[(f,v)]
  | (g,x) :: r=>if g=f then (g,v) :: r else (g,x) :: putF f v r
theorem lookup_putF (f g:Str) (v:V):∀ fs:List (Str×V),(putF f v fs).lookup g=if g=f then some v else fs.lookup g
  | []=>by
    show List.lookup g [(f,v)]=_
    by_cases h:g=f
    · have hb:(g == f)=true:=beq_iff_eq.mpr h
      simp only [List.lookup,hb,if_pos h]
    · have hb:(g == f)=false:=beq_eq_false_iff_ne.mpr h
      simp only [List.lookup,hb,if_neg h]
  | (k, x) :: r=>by
    have ih:=lookup_putF f g v r
    rw [show putF f v ((k,x) :: r)=(if k=f then (k,v) :: r else (k,x) :: putF f v r) from rfl]
    by_cases hk:k=f
    · rw [if_pos hk]
      by_cases h:g=k
      · have hb:(g == k)=true:=beq_iff_eq.mpr h
        simp only [List.lookup,hb,if_pos (h.trans hk)]
      · have hb:(g == k)=false:=beq_eq_false_iff_ne.mpr h
        simp only [List.lookup,hb,if_neg (fun e:g=f=>h (e.trans hk.symm))]
    · rw [if_neg hk]
      by_cases h:g=k
      · have hb:(g == k)=true:=beq_iff_eq.mpr h
        simp only [List.lookup,hb,if_neg (fun e:g=f=>hk (h.symm.trans e))]
      · have hb:(g == k)=false:=beq_eq_false_iff_ne.mpr h
        simp only [List.lookup,hb]
        exact ih
theorem keys_putF (f:Str) (v:V):∀ fs:List (Str×V),f ∈ (putF f v fs).map (·.1)∧∀ g,g ∈ fs.map (·.1)→g ∈ (putF f v fs).map (·.1)
  | []=>⟨by simp [putF],fun g h=>by simp at h⟩
  | (k, x) :: r=>by
    obtain ⟨i1,i2⟩:=keys_putF f v r
    rw [show putF f v ((k,x) :: r)=(if k=f then (k,v) :: r else (k,x) :: putF f v r) from rfl]
    by_cases hk:k=f
    · rw [if_pos hk]
      subst hk
      exact ⟨by simp,fun g h=>by simpa using h⟩
    · rw [if_neg hk]
      refine ⟨?_,fun g h=>?_⟩
      · rw [List.map_cons]
        exact List.mem_cons_of_mem _ i1
      · rw [List.map_cons] at h ⊢
        rcases List.mem_cons.mp h with e | e
        · exact List.mem_cons.mpr (.inl e)
        · exact List.mem_cons_of_mem _ (i2 g e)
theorem length_putF (f:Str) (v:V):∀ fs:List (Str×V),(putF f v fs).length ≤ fs.length + 1
  | []=>by simp [putF]
  | (k,x) :: r=>by
    have ih:=length_putF f v r
    rw [show putF f v ((k,x) :: r)=(if k=f then (k,v) :: r else (k,x) :: putF f v r) from rfl]
    by_cases hk:k=f
    · rw [if_pos hk,List.length_cons,List.length_cons]; omega
    · rw [if_neg hk,List.length_cons,List.length_cons]; omega
theorem RelO.some_of {v:V}{o:Option Value}(r:RelO (some v) o):∃ u,o=some u∧RelV v u:=by
  cases o with
  | none=>exact (show False from r).elim
  | some u=>exact ⟨u,rfl,r⟩
theorem RelO.none_of {o:Option Value}(r:RelO none o):o=none:=by
  cases o with
  | none=>rfl
  | some u=>exact (show False from r).elim
theorem handed_of {v:V}{u:Value}(r:RelV v u):PySem.W.handedIn u=true:=by
  cases v with
  | non=>cases (show u=Value.none from r); rfl
  | bl b=>cases (show u=Value.bool b from r); rfl
  | int i=>obtain ⟨t,e⟩:=(show ∃ t,u=Value.int i t from r); cases e; rfl
  | str x=>obtain ⟨t,e⟩:=(show ∃ t,u=Value.str x t from r); cases e; rfl
  | byt b=>obtain ⟨t,e⟩:=(show ∃ t,u=Value.bytes b t from r); cases e; rfl
  | flt b=>obtain ⟨t,e⟩:=(show ∃ t,u=Value.float b t from r); cases e; rfl
  | ref a=>cases (show u=Value.ref a from r); rfl
  | ty n=>cases (show u=Value.type n from r); rfl
section
variable {P:Program}{w:World}{H H':Hp}{h h':Heap}{a C dx:Addr}{fs fs':List (Str×V)}
theorem ins_get (hok:HOk P w H h) (e:H a=some (.ins C dx fs)):∃ mA,ObjM h a dx C mA∧(∀ f,RelO (fs.lookup f) (mA f))∧PySem.Within mA (fs.map (·.1))∧fs.length ≤ 1000∧H dx=some (.own a):=by
  obtain ⟨d,z,ne,ob,mA,n,r,q⟩:=(show ObjOk P w H h a (.ins C dx fs) from hok a _ e)
  exact ⟨mA,⟨ob,n,ne⟩,r,q,z,d⟩
end
structure Cls (K:PySem.W.Frag) (C:Addr):Prop where
  pg:PySem.W.plainGet K C Str.empty=true
  hd:PySem.W.hasDictIn K C=true
  po:PySem.W.plainOver K C=true
  sa:PySem.W.findIn K (.ref C) "__setattr__" = some (some (.builtin "object.__setattr__"))
theorem Cls.get {K:PySem.W.Frag}{C:Addr}(c:Cls K C) (f:Str):PySem.W.plainGet K C f=true:=c.pg
noncomputable def NoAttr (K:PySem.W.Frag) (C:Addr) (f:Str):Prop:=PySem.W.findIn K (.ref C) f=some none
theorem NoAttr.taker {K:PySem.W.Frag}{C:Addr}{f:Str}(n:NoAttr K C f):PySem.W.takerIn K C f=some none:=by
  unfold PySem.W.takerIn
  rw [show PySem.W.findIn K (.ref C) f=some none from n]
  rfl
structure Con (K:PySem.W.Frag) (C:Addr) (f:Str) (v:V) (u:Value):Prop where
  at_:PySem.W.findIn K (.ref C) f=some (some u)
  rel:RelV v u
  get:PySem.W.specialIn K u "__get__" = some none
  cp:PySem.W.copiedNames.contains f=false
structure Meth (K:PySem.W.Frag) (C:Addr) (m:Str) (f:Addr):Prop where
  at_:PySem.W.findIn K (.ref C) m=some (some (.ref f))
  fn:PySem.W.isFn K (.ref f)=true
  kp:PySem.W.keepIn K (.ref f)=true
section
variable {X:Cx}{pins:List (Addr×Obj)}{σ:St}{H:Hp}{s:Shared}{a C dx:Addr}{fs:List (Str×V)}{f:Str}{v:V}{A:Around}{E:Value→Shared→Prop}
theorem getattr_ok {b:Bool}{Q:Value→Shared→Prop}(I:Inv X pins σ H s) (e:H a=some (.ins C dx fs)) (c:Cls X.K C) (n:NoAttr X.K C f) (l:fs.lookup f=some v)
    (h:∀ u s',Inv X pins σ H s'→RelV v u→Q u s'):wpAny (model X.prog X.w) A (getAttr (.ref a) f b) Q E s:=by
  obtain ⟨mA,O,r,_,_,_⟩:=ins_get I.hok e
  obtain ⟨u,hu,ru⟩:=RelO.some_of (v:=v) (o:=mA f) (by rw [← l]; exact r f)
  exact get_map I.kIn O (c.get f) c.hd n hu (handed_of ru) (h u _ (I.tok _) ru)
theorem getmeth_ok {m:Str}{g:Addr}{pl:Sem Bool}{Q:Value×List Value→Shared→Prop}(I:Inv X pins σ H s) (e:H a=some (.ins C dx fs)) (c:Cls X.K C) (k:Meth X.K C m g) (l:fs.lookup m=none)
    (h:Q (.ref g,[.ref a]) s):wpAny (model X.prog X.w) A (getMethod (.ref a) m pl) Q E s:=by
  obtain ⟨mA,O,r,_,_,_⟩:=ins_get I.hok e
  have hn:mA m=none:=RelO.none_of (by rw [← l]; exact r m)
  exact get_meth I.kIn O (c.get m) k.at_ k.fn hn h
theorem setattr_ok {y:V}{u:Value}{Q:Unit→Shared→Prop}(I:Inv X pins σ H s) (e:H a=some (.ins C dx fs)) (c:Cls X.K C) (n:NoAttr X.K C f) (hl:fs.length < 1000) (ry:RelV y u)
    (h:∀ s',Inv X pins σ (upd H a (.ins C dx (putF f y fs))) s'→Q () s'):wpAny (model X.prog X.w) A (setAttr (.ref a) f u) Q E s:=by
  obtain ⟨mA,O,r,wi,_,ho⟩:=ins_get I.hok e
  have hz:(fs.map (·.1)).length ≤ sizeLine:=by rw [List.length_map,sizeLine_eq]; omega
  refine set_map I.kIn O c.sa c.po n.taker c.hd wi hz fun h' O' sb=>h _ ?_
  have hd:∃ o,h'.get? dx=some o:=let ⟨o,_,_,e',_⟩:=O'.ns; ⟨o,e'⟩
  refine I.write (x:=a) (e:=dx) (by rw [e]; exact True.intro) (.inr ho) (fun b q hb z=>(sb.2 b hb).trans z) hd ?_
  refine ⟨by rw [upd_ne O.ne]; exact ho,?_,O.ne,O'.obj,_,O'.ns,fun g=>?_,fun g hg=>?_⟩
  · have:=length_putF f y fs; omega
  · show RelO ((putF f y fs).lookup g) (if g=f then some u else mA g)
    rw [lookup_putF]
    by_cases q:g=f
    · rw [if_pos q,if_pos q]; exact ry
    · rw [if_neg q,if_neg q]; exact r g
  · by_cases q:g=f
    · rw [q]; exact (keys_putF f y fs).1
    · refine (keys_putF f y fs).2 g (wi g fun z=>hg ?_)
      show (if g=f then some u else mA g)=none
      rw [if_neg q]; exact z
theorem Inv.made (I:Inv X pins σ H s):Inv X pins σ (upd (upd H s.heap.objs.size (.own (s.heap.objs.size + 1))) (s.heap.objs.size + 1) (.ins C s.heap.objs.size []))
    { s with heap:=(s.heap.push PySem.W.emptyDict).push (PySem.W.instObj C s.heap.objs.size) }:=by
  have e1:(s.heap.push PySem.W.emptyDict).get? s.heap.objs.size=some PySem.W.emptyDict:=Heap.get?_push_size s.heap rfl
  have e2:((s.heap.push PySem.W.emptyDict).push (PySem.W.instObj C s.heap.objs.size)).get? (s.heap.objs.size + 1)=some (PySem.W.instObj C s.heap.objs.size):=by
    have:=Heap.get?_push_size (s.heap.push PySem.W.emptyDict) (o:=PySem.W.instObj C s.heap.objs.size) rfl
    rwa [Heap.size_push] at this
  have e3:(s.heap.push PySem.W.emptyDict).Ns s.heap.objs.size (fun _=>none):=⟨PySem.W.emptyDict,#[],_,e1,rfl,(fun e he=>absurd he (by simp)),fun _=>rfl⟩
  have I1:=I.laid (a:=s.heap.objs.size) (o:=.own (s.heap.objs.size + 1)) (h':=s.heap.push PySem.W.emptyDict) (t':=s.toks) (fun b u q=>Heap.get?_push_of_some _ q) (Nat.le_refl _) ⟨_,e1⟩
  refine I1.laid (a:=s.heap.objs.size + 1) (o:=.ins C s.heap.objs.size []) (t':=s.toks) (fun b u q=>Heap.get?_push_of_some _ q) (Nat.le_of_eq (Heap.size_push _ _)) ?_
  have ne:s.heap.objs.size ≠ s.heap.objs.size + 1:=Nat.ne_of_lt (Nat.lt_succ_self _)
  refine ⟨by rw [upd_ne ne,upd_same],Nat.zero_le _,ne,e2,fun _=>none,(Heap.Ns1.of_empty e3).at fun o q=>Heap.get?_push_of_some _ q,fun _=>True.intro,fun y hy=>absurd rfl hy⟩
theorem attr_of {prog:Program}{w:World}{env:Env}{e:Expr}{f:Str}{pos:Pos}{s:Shared}{Q:Value→Shared→Prop}(hb:attributeBase e f env (eval e env)=eval e env)
    (h:wpAny (model prog w) A (eval e env) (fun o s₁=>wpAny (model prog w) A (getAttr o f true) Q E s₁) E s):wpAny (model prog w) A (eval (.Attribute e f pos) env) Q E s :=
  Attribute_any_ h (by rw [arm_eval_Attribute,hb])
end
noncomputable def tFld (K:PySem.W.Frag) (ta:TE) (f:Str):TE:=fun σ H Q=>ta σ H fun x H1=>∃ a C dx fs v,x = .ref a∧H1 a=some (.ins C dx fs)∧Cls K C∧NoAttr K C f∧fs.lookup f=some v∧Q v H1
noncomputable def sFld (K:PySem.W.Frag) (ta tv:TE) (f:Str):TS:=fun D σ H=>tv σ H fun y H1=>ta σ H1 fun x H2=>∃ a C dx fs,x = .ref a∧H2 a=some (.ins C dx fs)∧Cls K C∧NoAttr K C f∧fs.length < 1000 ∧
  D.nx σ (upd H2 a (.ins C dx (putF f y fs)))
section
variable {X:Cx}{o e value:Expr}{f:Str}{pos pos' tpos:Pos}{ta tv:TE}
theorem pe_fld (he:PE X e ta) (hb:attributeBase e f X.env (eval e X.env)=eval e X.env):PE X (.Attribute e f pos) (tFld X.K ta f):=by
  intro pins s σ H Q I h
  refine attr_of hb (thn (he pins s σ H _ I h) fun u s1 ⟨x,H1,I1,rx,a,C,dx,fs,v,ex,ea,c,n,l,q⟩=>?_)
  subst ex
  obtain rfl:u=Value.ref a:=rx
  exact getattr_ok I1 ea c n l fun u' s2 I2 ru=>⟨v,H1,I2,ru,q⟩
theorem ps_fld (ha:PE X o ta) (hv:PE X value tv) (hs:swapsWith value (some (.Attribute o f pos')) pos.line X.env=pure false):PS X (.Assign [.Attribute o f pos'] value pos) (sFld X.K ta tv f):=by
  intro pins s σ H D I h
  refine plainObj_wpAny_Assign_Attribute (thn (hv pins s σ H _ I h) fun u s1 ⟨y,H1,I1,ry,q⟩=>thn (ha pins s1 σ H1 _ I1 q) fun ov s2 ⟨x,H2,I2,rx,a,C,dx,fs,ex,ea,c,n,l,q2⟩=>?_) hs
  subst ex
  obtain rfl:ov=Value.ref a:=rx
  exact setattr_ok I2 ea c n l ry fun s3 I3=>⟨σ,_,I3,q2⟩
end
section
variable {X:Cx}{pins:List (Addr×Obj)}{σ:St}{H:Hp}{s:Shared}{A:Around}{E:Value→Shared→Prop}{Q:Value→Shared→Prop}{c:Value}{b:Bool}
inductive TyOf (K:PySem.W.Frag) (H:Hp):V→Value→Prop where
  | non:TyOf K H .non (.type "NoneType")
  | bl (x:Bool):TyOf K H (.bl x) (.type "bool")
  | int (i:Int):TyOf K H (.int i) (.type "int")
  | str (x:Str):TyOf K H (.str x) (.type "str")
  | flt (x:UInt64):TyOf K H (.flt x) (.type "float")
  | lst {a:Addr}{xs:List V}(e:H a=some (.lst xs)):TyOf K H (.ref a) (.type "list")
  | frz {a:Addr}{o:Obj}{xs:List V}(e:H a=some (.frz o (.lst xs))):TyOf K H (.ref a) (.type "list")
  | tup {a:Addr}{xs:List V}(e:H a=some (.tup xs)):TyOf K H (.ref a) (.type "tuple")
  | dK {a:Addr}{kvs:List (Key×V)}(e:H a=some (.dK kvs)):TyOf K H (.ref a) (.type "dict")
  | dT {a:Addr}{kvs:List (List Key×V)}(e:H a=some (.dT kvs)):TyOf K H (.ref a) (.type "dict")
  | ins {a C dx:Addr}{fs:List (Str×V)}(e:H a=some (.ins C dx fs)) (cl:Cls K C) (ha:PySem.W.findIn K (.ref C) "__class__" = some (some (.builtin "object.__class__")))
      (hn:PySem.W.specialIn K (.builtin "object.__class__") "__get__" = some (some (.builtin "getset_descriptor.__get__"))) (htk:PySem.W.takesIn K (.builtin "object.__class__")=some true)
      (hm:PySem.W.mroIn K C (.type "object")=some true):TyOf K H (.ref a) (.ref C)
end
structure Room (k:Nat) (A:Around):Prop where
  hd:A.handled=none
  dp:A.depth + 3 * k + 5 < recursionLimit
  un:A.units + 16 * k + 200 < cLine
  gd:A.guards=some []
theorem Room.mono {j k:Nat}{A:Around}(r:Room k A) (h:j ≤ k):Room j A:=⟨r.hd,by have:=r.dp; omega,by have:=r.un; omega,r.gd⟩
theorem Room.deeper {k:Nat}{A:Around}(r:Room (k + 1) A) (env:Env):Room k (A.deeper env) :=
  ⟨r.hd,by have:=r.dp; show A.depth + 1 + 3 * k + 5 < _; omega,by have:=r.un; show A.units + 3 + 16 * k + 200 < _; omega,r.gd⟩
theorem Room.in1 {k:Nat}{A:Around}(r:Room (k + 1) A):Room k A.in1 :=
  ⟨r.hd,by have:=r.dp; show A.depth + 3 * k + 5 < _; omega,by have:=r.un; show A.units + 1 + 16 * k + 200 < _; omega,r.gd⟩
theorem make_depth {A:Around}{C:Addr}{us:List Value}{kw:List (Str×Value)}:(A.under (.builtin "type.__call__" ⟨.ref C :: us,kw⟩)).depth=A.depth + 1:=by
  first | rfl | simp [Around.under,Code.weight,Code.isCreation,Code.isGuard,Code.isCaller,Code.frames,Code.isFrame,guardIds]
theorem make_units {A:Around}{C:Addr}{us:List Value}{kw:List (Str×Value)}:(A.under (.builtin "type.__call__" ⟨.ref C :: us,kw⟩)).units=A.units + 1:=by
  first | rfl | simp [Around.under,Code.cUnits,Code.frames,Code.isFrame]
theorem make_guards {A:Around}{C:Addr}{us:List Value}{kw:List (Str×Value)}(h:A.guards=some []):(A.under (.builtin "type.__call__" ⟨.ref C :: us,kw⟩)).guards=some []:=by
  first | exact h | (simpa [Around.under,Code.weight,Code.isCreation,Code.isGuard,Code.isCaller,Code.frames,Code.isFrame,guardIds] using h)
theorem Room.make {k:Nat}{A:Around}(r:Room (k + 1) A) (C:Addr) (us:List Value) (kw:List (Str×Value)):Room k (A.under (.builtin "type.__call__" ⟨.ref C :: us,kw⟩)) :=
  ⟨r.hd,by have:=r.dp; rw [make_depth]; omega,by have:=r.un; rw [make_units]; omega,make_guards r.gd⟩
theorem Room.depth {k:Nat}{A:Around}(r:Room k A):A.depth < recursionLimit:=by have:=r.dp; omega
theorem Room.units {k:Nat}{A:Around}(r:Room k A):A.units + 64 < cLine:=by have:=r.un; omega
theorem Room.units0 {k:Nat}{A:Around}(r:Room k A):A.units < cLine:=by have:=r.un; omega
noncomputable def tNil:TA:=fun _ H Q=>Q [] H
noncomputable def tCons (ta:TE) (tr:TA):TA:=fun σ H Q=>ta σ H fun x H1=>tr σ H1 fun xs H2=>Q (x :: xs) H2
section
variable {X:Cx}{e:Expr}{es:List Expr}{te:TE}{t:TA}{pos:Pos}
theorem pa_nil:PA X [] tNil:=fun _ _ _ _ H Q I h=>Calls.spliced_nil ⟨[],H,I,.nil,h⟩
theorem pa_cons (ha:PE X e te) (hr:PA X es t) (hs:starEach (e :: es) X.env=(false,eval e X.env) :: starEach es X.env:=by rfl):PA X (e :: es) (tCons te t):=by
  intro pos pins s σ H Q I h
  rw [hs]
  show wpAny _ _ (spliced ((false,eval e X.env) :: backTo pos (starEach es X.env))) _ _ s
  refine Calls.spliced_cons (thn (ha pins s σ H _ I h) fun u s1 ⟨x,H1,I1,r1,q1⟩=>?_)
  exact thn (hr pos pins s1 σ H1 _ I1 q1) fun us s2 ⟨xs,H2,I2,r2,q2⟩=>⟨x :: xs,H2,I2,.cons r1 r2,q2⟩
noncomputable def tTup (t:TA):TE:=fun σ H Q=>t σ H fun xs H1=>xs.length ≤ sizeLine∧∀ p,H1 p=none→Q (.ref p) (upd H1 p (.tup xs))
noncomputable def tLst (t:TA):TE:=fun σ H Q=>t σ H fun xs H1=>xs.length ≤ sizeLine∧∀ p,H1 p=none→Q (.ref p) (upd H1 p (.lst xs))
theorem pe_tup {x1}(h:PA X es t):PE X (.Tuple es x1 pos) (tTup t):=by
  intro pins s σ H Q I hq
  refine wpAny_Tuple_spliced (thn (h pos pins s σ H _ I hq) fun us s1 ⟨xs,H1,I1,r,z,q⟩=>⟨by rw [← r.length]; exact z,?_⟩)
  have hf:H1 s1.heap.objs.size=none:=I1.hok.fresh (Nat.le_refl _)
  refine ⟨.ref s1.heap.objs.size,upd H1 s1.heap.objs.size (.tup xs),I1.laid (t':=s1.toks) (fun b u e=>Heap.get?_push_of_some _ e) (Nat.le_refl _) ?_,rfl,q _ hf⟩
  exact ⟨z,us,r,⟨_,Heap.get?_push_size _ rfl,rfl,_,rfl⟩⟩
theorem pe_lst (h:PA X es t):PE X (.List es pos) (tLst t):=by
  intro pins s σ H Q I hq
  refine wpAny_List_spliced (thn (h pos pins s σ H _ I hq) fun us s1 ⟨xs,H1,I1,r,z,q⟩=>⟨by rw [← r.length]; exact z,?_⟩)
  have hf:H1 s1.heap.objs.size=none:=I1.hok.fresh (Nat.le_refl _)
  refine ⟨.ref s1.heap.objs.size,upd H1 s1.heap.objs.size (.lst xs),I1.laid (t':=s1.toks) (fun b u e=>Heap.get?_push_of_some _ e) (Nat.le_refl _) ?_,rfl,q _ hf⟩
  exact ⟨z,us,0,r,Heap.get?_push_size _ rfl⟩
end
noncomputable abbrev Sp:=List V→Hp→VK→XK→Prop
noncomputable abbrev CXT:=List Env→Hp→Shared→XK→Value→Shared→Prop
structure Env0 (P:Program) (w:World) (K:PySem.W.Frag) (mg:Str→Option Value) (base:Heap) (A:Around) (outer:List Env) (s:Shared) (H:Hp):Prop where
  frames:A.frames=some outer
  mod:Mod K mg base
  bs:∀ b o,base.get? b=some o→s.heap.get? b=some o∧H b=none
  bsz:base.objs.size ≤ s.heap.objs.size
  funs:s.heap.FunFrames base outer
  frf:∀ b ∈ frs outer,H b=none
  hok:HOk P w H s.heap
  bare:AllBare s.gens
noncomputable def CE (outer:List Env) (P:Program) (w:World) (H:Hp) (s:Shared) (Q:VK) (u:Value) (s':Shared):Prop :=
  ∃ v H',s'.os=s.os∧AllBare s'.gens∧Un (frs outer) [] H H' s.heap s'.heap∧HOk P w H' s'.heap∧RelV v u∧Q v H'
noncomputable def CR (CX:CXT) (outer:List Env) (P:Program) (w:World) (H:Hp) (s:Shared) (Q:VK) (E:XK) (r:Result) (s':Shared):Prop :=
  match r with
  | .ok (.ret u)=>CE outer P w H s Q u s'
  | .ok _=>False
  | .error e=>CX outer H s E e s'
structure FnOk (P:Program) (w:World) (K:PySem.W.Frag) (mg:Str→Option Value) (base:Heap) (CX:CXT) (k:Nat) (f:Addr) (fd:FuncData) (ps:List Str) (sp:Sp):Prop where
  len:∀ vs H Q E,sp vs H Q E→vs.length=ps.length
  run:∀ (A:Around) (outer:List Env) (s:Shared) (H:Hp) (args:Args) (us:List Value) (vs:List V) (Q:VK) (E:XK),Room k A→Env0 P w K mg base A outer s H→BindsTo s fd args (ps.zip us)→Vals vs us→sp vs H Q E →
    codeAny (model P w) A (.call (.ref f) args) (CR CX outer P w H s Q E) s
theorem FnOk.imp {P:Program}{w:World}{K:PySem.W.Frag}{mg:Str→Option Value}{base:Heap}{CX:CXT}{k:Nat}{f:Addr}{fd:FuncData}{ps:List Str}{sp sp':Sp}(F:FnOk P w K mg base CX k f fd ps sp)
    (h:∀ vs H Q E,sp' vs H Q E→sp vs H Q E):FnOk P w K mg base CX k f fd ps sp' :=
  ⟨fun vs H Q E q=>F.len vs H Q E (h _ _ _ _ q),fun A outer s H args us vs Q E hr he hb hv hs=>F.run A outer s H args us vs Q E hr he hb hv (h _ _ _ _ hs)⟩
theorem Env0.make {P:Program}{w:World}{K:PySem.W.Frag}{mg:Str→Option Value}{base:Heap}{A:Around}{outer:List Env}{s:Shared}{H:Hp}(e:Env0 P w K mg base A outer s H) (C:Addr) (us:List Value) (kw:List (Str×Value)) :
    Env0 P w K mg base (A.under (.builtin "type.__call__" ⟨.ref C :: us,kw⟩)) outer s H:=⟨by first | exact e.frames | (simpa [Around.under,Code.envs,Code.isFrame,pushEnvs] using e.frames),e.mod,e.bs,e.bsz,e.funs,e.frf,e.hok,e.bare⟩
theorem Env0.in1 {P:Program}{w:World}{K:PySem.W.Frag}{mg:Str→Option Value}{base:Heap}{A:Around}{outer:List Env}{s:Shared}{H:Hp}(e:Env0 P w K mg base A outer s H) :
    Env0 P w K mg base A.in1 outer s H:=⟨e.frames,e.mod,e.bs,e.bsz,e.funs,e.frf,e.hok,e.bare⟩
section
variable {X:Cx}{pins:List (Addr×Obj)}{σ:St}{H:Hp}{s s':Shared}
theorem Inv.env0 (I:Inv X pins σ H s):Env0 X.prog X.w X.K X.mg X.base X.A X.stack s H :=
  ⟨I.ok.frames,I.ok.mod,I.bs,Nat.le_trans I.ok.bsz I.sz,I.stack,I.stkFree,I.hok,I.bare⟩
theorem Inv.after {Q:VK}{u:Value}(I:Inv X pins σ H s) (h:CE X.stack X.prog X.w H s Q u s'):EP X pins σ Q u s':=by
  obtain ⟨v,H',os,bare,un,hok,r,q⟩:=h
  obtain ⟨hh,g,d,t,os'⟩:=s'
  obtain rfl:os'=s.os:=os
  exact ⟨v,H',I.call (h':=hh) (g':=g) (d':=d) (t':=t) (ch:=[]) un hok bare (fun b z=>absurd z (by simp)),r,q⟩
end
noncomputable def tCall (sp:Sp) (dvs:List V) (E:XK) (t:TA):TE:=fun σ H Q=>t σ H fun vs H1=>sp (vs ++ dvs) H1 Q E
noncomputable def tMeth (C:Addr) (m:Str) (sp:Sp) (dvs:List V) (E:XK) (ta:TE) (t:TA):TE:=fun σ H Q=>ta σ H fun x H1=>∃ a dx fs,x = .ref a∧H1 a=some (.ins C dx fs)∧fs.lookup m=none ∧
  t σ H1 fun vs H2=>sp (x :: (vs ++ dvs)) H2 Q E
noncomputable def Binds (K:PySem.W.Frag) (fd:FuncData) (ps:List Str) (ds:List Value):Prop :=
  ∀ (s:Shared) (us:List Value),K.In s.heap→(us ++ ds).length=ps.length→BindsTo s fd ⟨us,[]⟩ (ps.zip (us ++ ds))
theorem Binds.all {K:PySem.W.Frag}{fd:FuncData}{ps:List Str}(h:∀ us:List Value,us.length=ps.length→bindArgs fd ⟨us,[]⟩ = pure (ps.zip us)):Binds K fd ps []:=fun s us _ hl=>by
  rw [List.append_nil] at hl ⊢
  exact .of_eq (h us hl)
noncomputable def Passes (CX:CXT) (X:Cx) (E:XK):Prop:=∀ (pins:List (Addr×Obj)) (σ:St) (H:Hp) (s:Shared) (e:Value) (s':Shared),Inv X pins σ H s→CX X.stack H s E e s'→X.xe e s'
section
variable {X:Cx}{CX:CXT}{k:Nat}{f C:Addr}{fd:FuncData}{ps:List Str}{sp:Sp}{dvs:List V}{ds:List Value}{E:XK}{x m:Str}{p pos apos:Pos}{e o:Expr}{es:List Expr}{ta:TE}{t:TA}
theorem run_fn {pins:List (Addr×Obj)}{σ:St}{H:Hp}{s:Shared}{Q:VK}{us:List Value}{vs:List V}(F:FnOk X.prog X.w X.K X.mg X.base CX k f fd ps sp) (hr:Room k X.A) (hb:Binds X.K fd ps ds) (hd:Vals dvs ds) (hx:Passes CX X E)
    (I:Inv X pins σ H s) (r:Vals vs us) (h:sp (vs ++ dvs) H Q E):wpAny (model X.prog X.w) X.A (call (.ref f) us) (EP X pins σ Q) X.xe s:=by
  have r2:Vals (vs ++ dvs) (us ++ ds):=r.append hd
  have hl:(us ++ ds).length=ps.length:=by rw [← r2.length]; exact F.len _ _ _ _ h
  refine wpAny_call (codeAny_mono (F.run X.A X.stack s H ⟨us,[]⟩ (us ++ ds) (vs ++ dvs) Q E hr I.env0 (hb s us I.kIn hl) r2 h) fun r s' hq=>?_)
  cases r with
  | error e=>exact hx pins σ H s e s' I hq
  | ok fl =>
    cases fl with
    | ret u=>exact I.after hq
    | next=>exact False.elim hq
    | brk=>exact False.elim hq
    | cont=>exact False.elim hq
theorem pe_call (F:FnOk X.prog X.w X.K X.mg X.base CX k f fd ps sp) (hr:Room k X.A) (hg:Gl X x) (hm:X.mg x=some (.ref f)) (hk:PySem.W.keepIn X.K (.ref f)=true) (hb:Binds X.K fd ps ds) (hd:Vals dvs ds) (hx:Passes CX X E)
    (ha:PA X (e :: es) t) (hdb:(x == ("__debug__":Str))=false:=by decide) (he:starEach (e :: es) X.env=(false,eval e X.env) :: starEach es X.env:=by rfl) (hpl:(backTo pos (starEach es X.env)).any (·.1)=false:=by rfl) :
    PE X (.Call (.Name x p) (e :: es) [] pos) (tCall sp dvs E t):=by
  intro pins s σ H Q I h
  refine wpAny_Call_Name_kw (ld_glob I hg hm ?_ hdb)
  refine PySem.W.callWith_K (h₀:=X.base) I.ok.mod.kin hk (thn (ha pos pins s σ H _ I h) fun us s1 ⟨vs,H1,I1,r,q⟩=>⟨I1.kIn,?_⟩) he hpl
  exact run_fn F hr hb hd hx I1 r q
theorem pe_meth0 {pl:Sem Bool}(he:PE X o ta) (c:Cls X.K C) (hm:Meth X.K C m f) (F:FnOk X.prog X.w X.K X.mg X.base CX k f fd ps sp) (hr:Room k X.A) (hb:Binds X.K fd ps ds) (hd:Vals dvs ds) (hx:Passes CX X E)
    (ht:eval (.Call (.Attribute o m apos) [] [] pos) X.env=(do
      let ov ← eval o X.env
      standAt apos.atName
      let (f,first) ← holding [ov] (getMethod ov m pl)
      callWith pos f first (backTo pos (starEach [] X.env)) (backToKw pos (keywordEach [] X.env))):=by rfl) :
    PE X (.Call (.Attribute o m apos) [] [] pos) (tMeth C m sp dvs E ta tNil):=by
  intro pins s σ H Q I h
  refine PySem.W.methodCall_KW (pl:=pl) (thn (he pins s σ H _ I h) fun u s1 ⟨x,H1,I1,rx,a,dx,fs,ex,ea,l,q⟩=>?_) ht
  subst ex
  obtain rfl:u=Value.ref a:=rx
  refine getmeth_ok I1 ea c hm l ?_
  exact PySem.W.callWith_K0 (first:=[.ref a]) I1.kIn hm.kp (run_fn (us:=[.ref a]) (vs:=[.ref a]) F hr hb hd hx I1 (.cons rfl .nil) q)
structure Mk (K:PySem.W.Frag) (C f:Addr):Prop where
  makes:PySem.W.makesIn K C=true
  init:PySem.W.findIn K (.ref C) "__init__" = some (some (.ref f))
  fn:PySem.W.isFn K (.ref f)=true
  kp:PySem.W.keepIn K (.ref C)=true
end
noncomputable def PK (X:Cx) (kws:List Keyword) (t:TA):Prop :=
  ∀ (pos:Pos) (pins:List (Addr×Obj)) (s:Shared) (σ:St) (H:Hp) (Q:List V→Hp→Prop),Inv X pins σ H s→t σ H Q→wpAny (model X.prog X.w) X.A (evalAll ((backToKw pos (keywordEach kws X.env)).map (·.2))) (AP X pins σ Q) X.xe s
section
variable {X:Cx}{CX:CXT}{k:Nat}{f C:Addr}{fd:FuncData}{ps ks:List Str}{sp:Sp}{E:XK}{x m:Str}{p pos apos kpos:Pos}{e o:Expr}{es:List Expr}{kws:List Keyword}{te ta:TE}{t tk:TA}{nm:Option Str}
theorem pk_nil:PK X [] tNil:=fun _ _ _ _ H Q I h=>wpAny_evalAll_nil ⟨[],H,I,.nil,h⟩
theorem pk_cons (ha:PE X e te) (hr:PK X kws t):PK X (⟨nm,e,kpos⟩ :: kws) (tCons te t):=by
  intro pos pins s σ H Q I h
  show wpAny _ _ (evalAll ((do let v ← eval e X.env; standAt pos; pure v) :: (backToKw pos (keywordEach kws X.env)).map (·.2))) _ _ s
  refine wpAny_evalAll_cons (wpAny_bind (thn (ha pins s σ H _ I h) fun u s1 ⟨x,H1,I1,r1,q1⟩=>wpAny_bind (wpAny_standAt (wpAny_pure ?_))))
  exact thn (hr pos pins s1 σ H1 _ I1 q1) fun us s2 ⟨xs,H2,I2,r2,q2⟩=>⟨x :: xs,H2,I2,.cons r1 r2,q2⟩
structure KBinds (K:PySem.W.Frag) (fd:FuncData) (ps ks:List Str) (g:List Value→List Value→List Value) (gV:List V→List V→List V):Prop where
  to:∀ (s:Shared) (us ws:List Value),K.In s.heap→(g us ws).length=ps.length→BindsTo s fd ⟨us,ks.zip ws⟩ (ps.zip (g us ws))
  rel:∀ {vs:List V}{us:List Value}{zs:List V}{ws:List Value},Vals vs us→Vals zs ws→Vals (gV vs zs) (g us ws)
noncomputable def tCallK (sp:Sp) (gV:List V→List V→List V) (E:XK) (t tk:TA):TE:=fun σ H Q=>t σ H fun vs H1=>tk σ H1 fun zs H2=>sp (gV vs zs) H2 Q E
variable {g:List Value→List Value→List Value}{gV:List V→List V→List V}
theorem run_fnk {pins:List (Addr×Obj)}{σ:St}{H:Hp}{s:Shared}{Q:VK}{us ws:List Value}{vs zs:List V}(F:FnOk X.prog X.w X.K X.mg X.base CX k f fd ps sp) (hr:Room k X.A) (hb:KBinds X.K fd ps ks g gV) (hx:Passes CX X E)
    (I:Inv X pins σ H s) (r:Vals vs us) (rz:Vals zs ws) (h:sp (gV vs zs) H Q E):wpAny (model X.prog X.w) X.A (call (.ref f) us (ks.zip ws)) (EP X pins σ Q) X.xe s:=by
  have r2:=hb.rel r rz
  have hl:(g us ws).length=ps.length:=by rw [← r2.length]; exact F.len _ _ _ _ h
  refine wpAny_call (codeAny_mono (F.run X.A X.stack s H ⟨us,ks.zip ws⟩ (g us ws) (gV vs zs) Q E hr I.env0 (hb.to s us ws I.kIn hl) r2 h) fun r s' hq=>?_)
  cases r with
  | error e=>exact hx pins σ H s e s' I hq
  | ok fl =>
    cases fl with
    | ret u=>exact I.after hq
    | next=>exact False.elim hq
    | brk=>exact False.elim hq
    | cont=>exact False.elim hq
theorem pe_callK (F:FnOk X.prog X.w X.K X.mg X.base CX k f fd ps sp) (hr:Room k X.A) (hg:Gl X x) (hm:X.mg x=some (.ref f)) (hk:PySem.W.keepIn X.K (.ref f)=true) (hb:KBinds X.K fd ps ks g gV) (hx:Passes CX X E)
    (ha:PA X (e :: es) t) (hkw:PK X kws tk) (hall:(backToKw pos (keywordEach kws X.env)).all (·.1.isSome)=true:=by rfl) (hks:(backToKw pos (keywordEach kws X.env)).filterMap (·.1)=ks:=by rfl)
    (hdb:(x == ("__debug__":Str))=false:=by decide) (he:starEach (e :: es) X.env=(false,eval e X.env) :: starEach es X.env:=by rfl)
    (hpl:((backTo pos (starEach (e :: es) X.env)).any (·.1) || (backToKw pos (keywordEach kws X.env)).any (·.1.isNone))=false:=by rfl) :
    PE X (.Call (.Name x p) (e :: es) kws pos) (tCallK sp gV E t tk):=by
  intro pins s σ H Q I h
  refine wpAny_Call_Name_kw (ld_glob I hg hm ?_ hdb)
  refine PySem.W.callWith_KW (h₀:=X.base) I.ok.mod.kin hk hall (thn (ha pos pins s σ H _ I h) fun us s1 ⟨vs,H1,I1,r,q⟩=>?_) hpl he
  refine thn (hkw pos pins s1 σ H1 _ I1 q) fun ws s2 ⟨zs,H2,I2,rz,q2⟩=>⟨I2.kIn,?_⟩
  rw [hks]
  exact run_fnk F hr hb hx I2 r rz q2
end
structure FnScope (N P:List Str) (sc:Scope):Prop where
  kind:sc.kind = .function
  co:sc.isCoroutine=false
  gen:sc.isGenerator=false
  nd:N.Nodup
  pre:N.take P.length=P
  par:∀ x ∈ P,sc.names.lookup x=some .local∨sc.names.lookup x=some .cell
  nofree:∀ y ∈ sc.names,y.2 ≠ .free
theorem bindL_out {kindOf:Str→Option NameKind}{x:Str}:∀ {binds:List (Str×Value)}{m:Str→Option Value},(∀ v,(x,v) ∉ binds)→bindL kindOf binds m x=m x
  | [],_,_=>rfl
  | (n,v) :: r,m,h=>by
    unfold bindL
    rw [bindL_out fun w hw=>h w (List.mem_cons_of_mem _ hw)]
    split
    · have:x ≠ n:=by rintro rfl; exact h v List.mem_cons_self
      simp [this]
    · rfl
theorem bindC_out {kindOf:Str→Option NameKind}{x:Str}:∀ {binds:List (Str×Value)}{m:Str→Option Value},(∀ v,(x,v) ∉ binds)→bindC kindOf binds m x=m x
  | [],_,_=>rfl
  | (n,v) :: r,m,h=>by
    unfold bindC
    rw [bindC_out fun w hw=>h w (List.mem_cons_of_mem _ hw)]
    split
    · rfl
    · have:x ≠ n:=by rintro rfl; exact h v List.mem_cons_self
      simp [this]
theorem bindL_get {kindOf:Str→Option NameKind}{x:Str}{v:Value}:∀ {P:List Str}{vs:List Value}{i:Nat}{m:Str→Option Value},P.Nodup→P[i]? = some x→vs[i]? = some v→kindOf x=some .local →
    bindL kindOf (P.zip vs) m x=some v
  | [],_,_,_,_,h,_,_=>by simp at h
  | _ :: _,[],_,_,_,_,h,_=>by simp at h
  | p :: P,w :: vs,0,m,nd,h1,h2,hk=>by
    simp at h1 h2; subst h1; subst h2
    show bindL kindOf ((p,w) :: P.zip vs) m p=_
    unfold bindL
    rw [bindL_out fun v hv=>(List.nodup_cons.mp nd).1 (List.of_mem_zip hv).1,if_pos hk]
    simp
  | p :: P,w :: vs,i + 1,m,nd,h1,h2,hk=>by
    show bindL kindOf ((p,w) :: P.zip vs) m x=_
    unfold bindL
    exact bindL_get (i:=i) (List.nodup_cons.mp nd).2 (by simpa using h1) (by simpa using h2) hk
theorem bindC_get {kindOf:Str→Option NameKind}{x:Str}{v:Value}:∀ {P:List Str}{vs:List Value}{i:Nat}{m:Str→Option Value},P.Nodup→P[i]? = some x→vs[i]? = some v→kindOf x ≠ some .local →
    bindC kindOf (P.zip vs) m x=some v
  | [],_,_,_,_,h,_,_=>by simp at h
  | _ :: _,[],_,_,_,_,h,_=>by simp at h
  | p :: P,w :: vs,0,m,nd,h1,h2,hk=>by
    simp at h1 h2; subst h1; subst h2
    show bindC kindOf ((p,w) :: P.zip vs) m p=_
    unfold bindC
    rw [bindC_out fun v hv=>(List.nodup_cons.mp nd).1 (List.of_mem_zip hv).1,if_neg hk]
    simp
  | p :: P,w :: vs,i + 1,m,nd,h1,h2,hk=>by
    show bindC kindOf ((p,w) :: P.zip vs) m x=_
    unfold bindC
    exact bindC_get (i:=i) (List.nodup_cons.mp nd).2 (by simpa using h1) (by simpa using h2) hk
noncomputable def start (N:List Str) (vs:List V):St:=vs.map some ++ List.replicate (N.length - vs.length) none
noncomputable def cxOf (CX:CXT) (P:Program) (w:World) (K:PySem.W.Frag) (mg:Str→Option Value) (base:Heap) (N:List Str) (qual:Str) (scope:Scope) (f:Addr) (cd:Value) (A:Around) (outer:List Env) (s:Shared) (H:Hp) (E:XK):Cx where
  prog:=P
  w:=w
  K:=K
  mg:=mg
  base:=base
  A:=A.deeper (envOfC qual scope s.heap.objs.size f cd)
  N:=N
  s₀:=s
  H₀:=H
  env:=envOfC qual scope s.heap.objs.size f cd
  outer:=outer
  stack:=envOfC qual scope s.heap.objs.size f cd :: outer
  ex:=[]
  calm:=true
  fn:=fun _=>true
  pn:=[]
  xe:=fun e s'=>wpAny (model P w) (A.deeper (envOfC qual scope s.heap.objs.size f cd)) (leaving (envOfC qual scope s.heap.objs.size f cd) e) (fun _ s''=>CX outer H s E e s'') (fun e' s''=>CX outer H s E e' s'') s'
theorem cell_has {sc:Scope}{n:Nat}{x:Str}(h:sc.names.lookup x=some .cell):∃ c,(cellsFrom n sc.names []).lookup x=some c:=by
  have q:=PySem.W.cellsFrom_some sc.names n [] (.inl h)
  exact Option.isSome_iff_exists.mp q
theorem inv_start {CX:CXT}{P:Program}{w:World}{K:PySem.W.Frag}{mg:Str→Option Value}{base:Heap}{N ps:List Str}{qual:Str}{scope:Scope}{f:Addr}{cd:Value}{A:Around}{outer:List Env}{s s1:Shared}{H:Hp}{E:XK}{us:List Value}{vs:List V}
    (S:FnScope N ps scope) (hd:A.handled=none) (e0:Env0 P w K mg base A outer s H) (hl:vs.length=ps.length) (r:Vals vs us)
    (x:InCallC s s.heap.objs.size (bindL (envOfC qual scope s.heap.objs.size f cd).kindOf (ps.zip us) fun _=>none) (cellsFrom (s.heap.objs.size + 1) scope.names []) (bindC (envOfC qual scope s.heap.objs.size f cd).kindOf (ps.zip us) fun _=>none) s1) :
    Inv (cxOf CX P w K mg base N qual scope f cd A outer s H E) [] (start N vs) H s1:=by
  have hpl:ps.length ≤ N.length:=by have:=congrArg List.length S.pre; rw [List.length_take] at this; omega
  obtain ⟨h1,tk,rfl,hk⟩:=x.done
  have noA:∀ b:Addr,b ∉ (cxOf CX P w K mg base N qual scope f cd A outer s H E).ex:=fun b z=>absurd (show b ∈ ([]:List Addr) from z) (by simp)
  refine ⟨⟨e0.mod,S.kind,rfl,rfl,Nat.le_refl _,fun y z c h1 h2=>?_,fun y hy=>?_,fun y c _ h=>?_,fun _=>hd,Around.frames_deeper e0.frames,.inr ⟨rfl,rfl⟩,fun b z=>absurd z (noA b),e0.bs,e0.bsz,fun b _ _=>noA b,fun b z=>absurd z (noA b),e0.funs,e0.frf⟩,
    rfl,e0.bare,Un.kept hk,⟨_,x.toInCall.ns,fun i y v h1 h2 h3=>?_⟩,fun y c h=>⟨_,x.cell y c h⟩,e0.hok.fresh (Nat.le_refl _),fun y c h=>?_,fun p hp=>absurd (show p ∈ ([]:List (Addr×Obj)) from hp) (by simp),e0.hok.kept hk,?_⟩
  · exact name_of_addr x.apart (PySem.mem_of_lookup h1) (PySem.mem_of_lookup h2)
  · have hy:scope.names.lookup y=some .cell∨scope.names.lookup y=some .free:=hy
    rcases hy with hy | hy
    · exact cell_has hy
    · exact absurd rfl (S.nofree _ (PySem.mem_of_lookup hy))
  · exact Nat.le_of_lt (x.above y c (PySem.mem_of_lookup h))
  · have hi:i < vs.length:=by
      unfold start at h2
      by_cases hi:i < vs.length
      · exact hi
      · rw [List.getElem?_append_right (by simpa using hi)] at h2
        rw [List.getElem?_replicate] at h2
        split at h2 <;> cases h2
    have ha:vs[i]? = some v:=by
      unfold start at h2
      rw [List.getElem?_append_left (by simpa using hi),List.getElem?_map] at h2
      cases e:vs[i]? with
      | none=>rw [e] at h2; cases h2
      | some a=>rw [e] at h2; cases h2; rfl
    obtain ⟨u,hu,rv⟩:=r.get ha
    have hp:ps[i]? = some y:=by
      rw [← S.pre,List.getElem?_take_of_lt (by omega)]; exact h1
    have ndP:ps.Nodup:=by rw [← S.pre]; exact S.nd.sublist (List.take_sublist _ _)
    refine ⟨u,rv,?_⟩
    rcases S.par y (List.mem_of_getElem? hp) with k | k
    · exact .inl ⟨k,bindL_get ndP hp hu k⟩
    · obtain ⟨c,e⟩:=cell_has (n:=s.heap.objs.size + 1) k
      refine .inr ⟨.inl k,c,e,?_⟩
      have q:=x.cell y c e
      rw [bindC_get ndP hp hu (by show scope.names.lookup y ≠ _; rw [k]; decide)] at q
      exact q
  · exact e0.hok.fresh (Nat.le_of_lt (x.above y c (PySem.mem_of_lookup h)))
  · unfold start
    show _=N.length
    rw [List.length_append,List.length_map,List.length_replicate]
    omega
theorem fn_of {CX:CXT}{P:Program}{w:World}{K:PySem.W.Frag}{mg:Str→Option Value}{base:Heap}{k:Nat}{f:Addr}{name qual:Str}{params:Arguments}{body:List Stmt}{scope:Scope}{dV kV doc pm cdv ct oc:Value}{an od:Option Addr}
    {osl:Array (Option Value)}{N ps:List Str}{sp:Sp}(lk:K.lookup f=some ⟨oc,od,.func (PySem.W.fnOf name qual params body scope dV kV doc pm an cdv ct),osl⟩) (hcd:PySem.W.codeIn K cdv qual=true) (S:FnScope N ps scope)
    (len:∀ vs H Q E,sp vs H Q E→vs.length=ps.length)
    (hbody:∀ (A:Around) (outer:List Env) (s:Shared) (H:Hp) (vs:List V) (Q:VK) (E:XK),Room k (A.deeper (envOfC qual scope s.heap.objs.size f cdv))→sp vs H Q E →
      ∃ t,PSs (cxOf CX P w K mg base N qual scope f cdv A outer s H E) body t∧t { nx:=fun _ H'=>Q .non H',rt:=Q } (start N vs) H) :
    FnOk P w K mg base CX (k + 1) f (PySem.W.fnOf name qual params body scope dV kV doc pm an cdv ct) ps sp:=by
  refine ⟨len,fun A outer s H args us vs Q E hr e0 hb r hsp=>?_⟩
  have hl:=len _ _ _ _ hsp
  have KX:K.In s.heap:=e0.mod.kin.keeps fun b o e=>(e0.bs b o e).1
  have lim:s.heap.NoLimit:=e0.mod.nolimit.keeps fun b o e=>(e0.bs b o e).1
  have hkind:∀ y ∈ ps.zip us,scope.names.lookup y.1=some .local∨(scope.names.lookup y.1=some .cell∧((cellsFrom (s.heap.objs.size + 1) scope.names []).lookup y.1).isSome=true):=fun ⟨n,v⟩ hy=>by
    rcases S.par n (List.of_mem_zip hy).1 with q | q
    · exact .inl q
    · exact .inr ⟨q,PySem.W.cellsFrom_some _ _ _ (.inl q)⟩
  refine codeAny_call_function hr.depth (KX _ _ lk) rfl S.co S.gen rfl (PySem.W.codeRec_of KX hcd) (hb _ _ _ _ ?_)
  refine wpAny_newFunctionEnv_cells S.kind hkind fun env he s1 x=>?_
  subst he
  refine ⟨lim.keeps x.toInCall.keep,codeAny_func ?_⟩
  obtain ⟨t,ht,hq⟩:=hbody A outer s H vs Q E (hr.deeper _) hsp
  have I:Inv (cxOf CX P w K mg base N qual scope f cdv A outer s H E) [] (start N vs) H s1:=inv_start S hr.hd e0 hl r x
  refine wpAny_mono (ht [] s1 (start N vs) H _ I hq) (fun fl s' hs=>?_) fun e s' hs=>hs
  have fin:∀ {σ':St}{H':Hp}{v:V}{u:Value},Inv (cxOf CX P w K mg base N qual scope f cdv A outer s H E) [] σ' H' s'→RelV v u→Q v H'→CE outer P w H s Q u s' :=
    fun {σ' H' v u} J rv q=>⟨v,H',J.os,J.bare,J.base,J.hok,rv,q⟩
  cases fl with
  | ret u =>
    obtain ⟨v,σ',H',J,rv,q⟩:=hs
    exact fin J rv q
  | next =>
    obtain ⟨σ',H',J,q⟩:=hs
    exact fin (v:=V.non) (u:=Value.none) J rfl q
  | brk =>
    obtain ⟨_,_,_,q⟩:=hs
    exact False.elim q
  | cont =>
    obtain ⟨_,_,_,q⟩:=hs
    exact False.elim q
section
variable {X:Cx}{x:Str}{p pos:Pos}{e:Expr}{es:List Expr}{t:TA}{id T:String}{r:List V→Hp→VK→Prop}
noncomputable def tCB (r:List V→Hp→VK→Prop) (t:TA):TE:=fun σ H Q=>t σ H fun vs H1=>r vs H1 Q
theorem pe_callB (hc:CallR X (.builtin id) r) (hg:Gl X x) (hm:X.mg x=none) (hv:bootBuiltins x=some (.builtin id)) (ha:PA X (e :: es) t) (hn:x ≠ "__name__":=by decide) (hdb:(x == ("__debug__":Str))=false:=by decide)
    (he:starEach (e :: es) X.env=(false,eval e X.env) :: starEach es X.env:=by rfl) (hpl:(backTo pos (starEach es X.env)).any (·.1)=false:=by rfl):PE X (.Call (.Name x p) (e :: es) [] pos) (tCB r t):=by
  intro pins s σ H Q I h
  refine wpAny_Call_Name_kw (ld_blt I hg hm hv ?_ hn hdb)
  exact PyProof.Rows.callWith_builtin1 (thn (ha pos pins s σ H _ I h) fun us s1 ⟨vs,H1,I1,r1,q1⟩=>hc pins s1 σ H1 vs us Q I1 r1 q1) he hpl
theorem pe_callTy (hc:CallR X (.type T) r) (hg:Gl X x) (hm:X.mg x=none) (hv:bootBuiltins x=some (.type T)) (ha:PA X (e :: es) t) (hn:x ≠ "__name__":=by decide) (hdb:(x == ("__debug__":Str))=false:=by decide)
    (he:starEach (e :: es) X.env=(false,eval e X.env) :: starEach es X.env:=by rfl) (hpl:(backTo pos (starEach es X.env)).any (·.1)=false:=by rfl):PE X (.Call (.Name x p) (e :: es) [] pos) (tCB r t):=by
  intro pins s σ H Q I h
  refine wpAny_Call_Name_kw (ld_blt I hg hm hv ?_ hn hdb)
  exact PyProof.Rows.callWith_type1 (thn (ha pos pins s σ H _ I h) fun us s1 ⟨vs,H1,I1,r1,q1⟩=>hc pins s1 σ H1 vs us Q I1 r1 q1) he hpl
end
end L2
namespace HT
open PySem PyProof.Rows
section
open PySem.SeqAt
open PySem.AutoSeq1 (wpAny_loadPart')
open PySem.MeetsSeq PySem.MeetsSeq2 PySem.MeetsSeq3
end
section
variable {prog:Program}{w:World}{A:Around}{E:Value→Shared→Prop}{s:Shared}
noncomputable def sIx (n d:Nat):Option Int→Nat
  | none=>d
  | some v=>if v < 0 then (v + (n:Int)).toNat else min v.toNat n
theorem sIx_none (n d:Nat):sIx n d none=d:=rfl
theorem sIx_nat (n d k:Nat):sIx n d (some (k:Int))=min k n:=by
  show (if (k:Int) < 0 then ((k:Int) + (n:Int)).toNat else min (k:Int).toNat n)=min k n
  rw [if_neg (by omega),Int.toNat_natCast]
end
end HT
namespace L2
open PySem PySem.Spec PyProof.Rows
noncomputable abbrev TO:=St→Hp→(Option Int→Hp→Prop)→Prop
noncomputable def PO (X:Cx) (e:Option Expr) (t:TO):Prop :=
  ∀ (pins:List (Addr×Obj)) (s:Shared) (σ:St) (H:Hp) (Q:Option Int→Hp→Prop),Inv X pins σ H s→t σ H Q →
    wpAny (model X.prog X.w) X.A (evalPart e X.env) (fun u s'=>∃ o H',Inv X pins σ H' s'∧IsPart u o∧Q o H') X.xe s
noncomputable def tNoPart:TO:=fun _ H Q=>Q none H
noncomputable def tPart (t:TE):TO:=fun σ H Q=>t σ H fun x H1=>∃ i,x = .int i∧Q (some i) H1
section
variable {X:Cx}{e:Expr}{te:TE}{lo hi:Option Expr}{tl th:TO}{pos p2:Pos}
theorem po_none:PO X none tNoPart:=by
  intro pins s σ H Q I h
  rw [evalPart_none]
  exact wpAny_pure ⟨none,H,I,.none,h⟩
theorem po_some (h:PE X e te):PO X (some e) (tPart te):=by
  intro pins s σ H Q I hw
  rw [evalPart_some]
  refine thn (h pins s σ H _ I hw) fun u s1 ⟨x,H1,I1,r1,q1⟩=>?_
  obtain ⟨i,rfl,q⟩:=q1
  obtain ⟨t,rfl⟩:=r1
  exact ⟨some i,H1,I1,.int i t,q⟩
noncomputable def SlR (X:Cx) (r:V→Option Int→Option Int→Hp→VK→Prop):Prop :=
  ∀ (pins:List (Addr×Obj)) (s:Shared) (σ:St) (H:Hp) (x:V) (v vl vu:Value) (lo hi:Option Int) (sl:Addr) (Q:VK),Inv X pins σ H s→RelV x v→s.heap.IsSliceOf sl vl vu .none→IsPart vl lo→IsPart vu hi→r x lo hi H Q →
    ∃ T id,typeLookup (.type T) "__getitem__" = pure (some (.builtin id))∧s.TypeIs v T∧wpAny (model X.prog X.w) X.A (getItem v (.ref sl)) (EP X pins σ Q) X.xe s
noncomputable def tSl (r:V→Option Int→Option Int→Hp→VK→Prop) (te:TE) (tl th:TO):TE:=fun σ H Q=>te σ H fun x H1=>tl σ H1 fun l H2=>th σ H2 fun u H3=>r x l u H3 Q
theorem pe_slice {r:V→Option Int→Option Int→Hp→VK→Prop}(hr:SlR X r) (he:PE X e te) (hl:PO X lo tl) (hu:PO X hi th):PE X (.Subscript e (.Slice lo hi none p2) pos) (tSl r te tl th):=by
  intro pins s σ H Q I h
  refine Subscript_ (thn (he pins s σ H _ I h) fun v s1 ⟨x,H1,I1,r1,q1⟩=>?_)
  refine wpAny_Slice (thn (hl pins s1 σ H1 _ I1 q1) fun vl s2 ⟨l,H2,I2,pl,q2⟩=>thn (hu pins s2 σ H2 _ I2 q2) fun vu s3 ⟨u,H3,I3,pu,q3⟩=>?_)
  rw [evalPart_none]
  refine wpAny_pure ?_
  have I4:Inv X pins σ H3 { s3 with heap:=s3.heap.push { cls:=.type "slice",data:=.fields #[vl,vu,.none] } }:=I3.kept (t':=s3.toks) fun b ob q=>Heap.get?_push_of_some _ q
  obtain ⟨T,id,hT,ht,hg⟩:=hr pins { s3 with heap:=s3.heap.push { cls:=.type "slice",data:=.fields #[vl,vu,.none] } } σ H3 x v vl vu l u s3.heap.objs.size Q I4 r1 (Heap.IsSliceOf.new ..) pl pu q3
  show wpAny (model X.prog X.w) X.A (subscriptTail e (.Slice lo hi none p2) v (.ref s3.heap.objs.size)) (EP X pins σ Q) X.xe { s3 with heap:=s3.heap.push { cls:=.type "slice",data:=.fields #[vl,vu,.none] } }
  exact tail_any (ops:=[.ref s3.heap.objs.size,v]) ht hT hg (by with_unfolding_all rfl)
noncomputable def cutV (xs:List V) (lo hi:Option Int):List V:=(xs.drop (HT.sIx xs.length 0 lo)).take (HT.sIx xs.length xs.length hi - HT.sIx xs.length 0 lo)
theorem cutV_length (xs:List V) (lo hi:Option Int):(cutV xs lo hi).length ≤ xs.length:=by
  unfold cutV
  rw [List.length_take,List.length_drop]
  omega
end
noncomputable def ixN (n:Nat) (i:Int):Option Nat:=if 0 ≤ i then (if i < n then some i.toNat else none) else if -(n:Int) ≤ i then some (i + n).toNat else none
noncomputable def atI {α:Type}(xs:List α) (i:Int):Option α:=(ixN xs.length i).bind fun j=>xs[j]?
theorem ixN_seq {n:Nat}{i:Int}{j:Nat}(h:ixN n i=some j):seqIndex? i n=some j∧j < n∧-(n:Int) ≤ i∧i < n:=by
  unfold ixN at h
  by_cases h0:0 ≤ i
  · rw [if_pos h0] at h
    by_cases h1:i < n
    · rw [if_pos h1] at h
      have e:i.toNat=j:=Option.some.inj h
      exact ⟨by rw [seqIndex_of h0 h1,e],by omega,by omega,h1⟩
    · rw [if_neg h1] at h; cases h
  · rw [if_neg h0] at h
    by_cases h1:-(n:Int) ≤ i
    · rw [if_pos h1] at h
      have e:(i + n).toNat=j:=Option.some.inj h
      exact ⟨by rw [seqIndex_neg (by omega) h1,e],by omega,h1,by omega⟩
    · rw [if_neg h1] at h; cases h
theorem atI_get {α:Type}{xs:List α}{i:Int}{v:α}(h:atI xs i=some v):∃ j,seqIndex? i xs.length=some j∧xs[j]? = some v∧j < xs.length∧-(xs.length:Int) ≤ i∧i < xs.length:=by
  unfold atI at h
  cases e:ixN xs.length i with
  | none=>rw [e] at h; cases h
  | some j =>
    rw [e] at h
    obtain ⟨h1,h2,h3,h4⟩:=ixN_seq e
    exact ⟨j,h1,h,h2,h3,h4⟩
theorem atI_nat {α:Type}{xs:List α}{j:Nat}{v:α}(h:xs[j]? = some v):atI xs (j:Int)=some v:=by
  have hj:j < xs.length:=(List.getElem?_eq_some_iff.mp h).1
  have e:ixN xs.length (j:Int)=some j:=by
    unfold ixN
    rw [if_pos (by omega),if_pos (by omega)]; simp
  unfold atI; rw [e]; exact h
noncomputable def PlainIx (b:Expr):Prop:=∀ o i,subscripted b false o i=operate [o,i] (getItem o i)
noncomputable def IxR (X:Cx) (r:R2):Prop :=
  ∀ (value slice:Expr) (pins:List (Addr×Obj)) (s:Shared) (σ:St) (H:Hp) (x y:V) (v u:Value) (Q:VK),Inv X pins σ H s→RelV x v→RelV y u→r x y H Q →
    subscripted slice false v u=operate [v,u] (getItem v u)→wpAny (model X.prog X.w) X.A (subscriptTail value slice v u) (EP X pins σ Q) X.xe s
noncomputable def MtR (X:Cx) (id:String) (r:V→List V→Hp→VK→Prop):Prop :=
  ∀ (pins:List (Addr×Obj)) (s:Shared) (σ:St) (H:Hp) (x:V) (xs:List V) (v:Value) (us:List Value) (Q:VK),Inv X pins σ H s→RelV x v→Vals xs us→r x xs H Q →
    wpAny (model X.prog X.w) X.A (call (.builtin id) (v :: us)) (EP X pins σ Q) X.xe s
section
variable {X:Cx}{a b:Expr}{ta tb:TE}{pos:Pos}
theorem pe_ix {r:R2}(hr:IxR X r) (ha:PE X a ta) (hb:PE X b tb) (hs:PlainIx b):PE X (.Subscript a b pos) (tOp r ta tb):=by
  intro pins s σ H Q I h
  exact Subscript_ (binT ha hb I h fun v u s2 x y H2 I2 rx ry q=>hr a b pins s2 σ H2 x y v u Q I2 rx ry q (hs _ _))
noncomputable def rIxL (K:PySem.W.Frag):R2:=fun x y H Q=>∃ p xs i v,x = .ref p∧y = .int i∧SqL K H p xs∧atI xs i=some v∧Q v H
noncomputable def rIxT (K:PySem.W.Frag):R2:=fun x y H Q=>∃ p xs i v,x = .ref p∧y = .int i∧SqT K H p xs∧atI xs i=some v∧Q v H
theorem ix_list:IxR X (rIxL X.K):=by
  intro value slice pins s σ H x y v u Q I rx ry h hs
  obtain ⟨p,xs,i,z,rfl,rfl,hq,he,q⟩:=h
  cases rx
  obtain ⟨t,rfl⟩:=ry
  obtain ⟨its,r,pl,hz⟩:=I.list hq
  obtain ⟨j,h1,h2,h3,h4,h5⟩:=atI_get he
  obtain ⟨w,ew,rw'⟩:=r.get h2
  have hl:=r.length
  have hn:=line63
  have fin:EP X pins σ Q w s:=⟨z,H,I,rw',q⟩
  by_cases h0:0 ≤ i
  · have hj:i.toNat=j:=by
      rw [seqIndex_of h0 h5] at h1
      exact Option.some.inj h1
    exact item_listR pl.isList h0 (by omega) (by rw [hj]; simpa using ew) fin hs
  · have hj:(i + (its.toArray.size:Int)).toNat=j:=by
      rw [seqIndex_neg (by omega) h4] at h1
      rw [List.size_toArray,← hl]
      exact Option.some.inj h1
    exact subscriptTail_builtinR (x:=w) pl.isList.typeIs slot_list_getitem.lookup
      (wpAny_getItem_list_neg (Q:=fun r s'=>r=w∧EP X pins σ Q r s') pl.isList (by omega) (by rw [List.size_toArray] <;> omega) (by omega) (by rw [hj]; simpa using ew) ⟨rfl,fin⟩) hs
theorem ix_tup:IxR X (rIxT X.K):=by
  intro value slice pins s σ H x y v u Q I rx ry h hs
  obtain ⟨p,xs,i,z,rfl,rfl,hq,he,q⟩:=h
  cases rx
  obtain ⟨t,rfl⟩:=ry
  obtain ⟨its,r,pl,hz⟩:=I.tuple hq
  obtain ⟨j,h1,h2,h3,h4,h5⟩:=atI_get he
  obtain ⟨w,ew,rw'⟩:=r.get h2
  have hl:=r.length
  have hn:=line63
  have fin:EP X pins σ Q w s:=⟨z,H,I,rw',q⟩
  exact subscriptTail_builtinR (x:=w) pl.typeIs slot_tuple_getitem.lookup
    (getItem_tuple (j:=j) (Q:=fun r s'=>r=w∧EP X pins σ Q r s') pl (by omega) (by omega) (by rw [List.size_toArray,← hl]; exact h1) (by simpa using ew) ⟨rfl,fin⟩) hs
theorem mapSeq_set (its:List Value) (n j:Nat) (u:Value):Obj.mapSeq (·.setIfInBounds j u) { cls:=.type "list",data:=.seq its.toArray n } = { cls:=.type "list",data:=.seq (its.set j u).toArray n }:=by
  simp [Obj.mapSeq]
theorem Inv.lst {pins:List (Addr×Obj)}{σ:St}{H:Hp}{s:Shared}{p:Addr}{xs:List V}(I:Inv X pins σ H s) (h:H p=some (.lst xs)) :
    ∃ (its:List Value) (n:Nat),Vals xs its∧s.heap.get? p=some { cls:=.type "list",data:=.seq its.toArray n }∧xs.length ≤ sizeLine:=by
  obtain ⟨z,its,n,r,e⟩:=I.hok p _ h
  exact ⟨its,n,r,e,z⟩
theorem Inv.lstUpd {pins:List (Addr×Obj)}{σ:St}{H:Hp}{s:Shared}{p:Addr}{xs ys:List V}{its its':List Value}{n n':Nat}{f:Obj→Obj}(I:Inv X pins σ H s) (h:H p=some (.lst xs))
    (ho:s.heap.get? p=some { cls:=.type "list",data:=.seq its.toArray n }) (hf:f { cls:=.type "list",data:=.seq its.toArray n } = { cls:=.type "list",data:=.seq its'.toArray n' }) (r:Vals ys its') (hz:ys.length ≤ sizeLine) (t:Nat) :
    Inv X pins σ (upd H p (.lst ys)) { s with heap:=s.heap.update p f,toks:=t }:=by
  have e:(s.heap.update p f).get? p=some { cls:=.type "list",data:=.seq its'.toArray n' }:=by
    rw [Heap.get?_update_self f ho (by rw [hf] <;> rfl),hf]
  refine I.write (x:=p) (e:=p) (by rw [h]; trivial) (.inl rfl) (fun b u hb q=>(Heap.get?_update_other _ _ (Ne.symm hb)).trans q) ⟨_,e⟩ ?_
  exact ⟨hz,its',n',r,e⟩
noncomputable def rSetL:V→V→V→Hp→(Hp→Prop)→Prop:=fun o i v H Q=>∃ p xs k j,o = .ref p∧i = .int k∧H p=some (.lst xs)∧ixN xs.length k=some j∧Q (upd H p (.lst (xs.set j v)))
theorem set_list:PSet X rSetL:=by
  intro pins s σ H o i v ov iv u Q I ro ri rv h
  obtain ⟨p,xs,k,j,rfl,rfl,hp,hj,q⟩:=h
  cases ro
  obtain ⟨t,rfl⟩:=ri
  obtain ⟨its,n,r,ho,hz⟩:=I.lst hp
  obtain ⟨h1,h2,h3,h4⟩:=ixN_seq hj
  have hl:=r.length
  have hn:=line63
  have I':Inv X pins σ (upd H p (.lst (xs.set j v))) { s with heap:=s.heap.update p (Obj.mapSeq (·.setIfInBounds j u)) } :=
    I.lstUpd hp ho (mapSeq_set its n j u) (r.set rv j) (by rw [List.length_set]; exact hz) s.toks
  by_cases h0:0 ≤ k
  · have hk:k.toNat=j:=by
      rw [seqIndex_of h0 h4] at h1
      exact Option.some.inj h1
    exact PySem.W.ki_setAt ho h0 (by omega) (by rw [List.size_toArray,← hl]; exact h4) (by rw [hk]; exact ⟨_,I',q⟩)
  · have hk:(k + (its.toArray.size:Int)).toNat=j:=by
      rw [seqIndex_neg (by omega) h3] at h1
      rw [List.size_toArray,← hl]
      exact Option.some.inj h1
    exact PySem.W.ki_setBack ho (by omega) (by rw [List.size_toArray,← hl]; exact h3) (by omega) (by rw [hk]; exact ⟨_,I',q⟩)
theorem slice_bounds (lo hi:Option Int) (n:Nat):(sliceBounds lo hi none n).1=((HT.sIx n 0 lo:Nat):Int)∧(sliceBounds lo hi none n).2.1=((HT.sIx n n hi:Nat):Int)∧(sliceBounds lo hi none n).2.2=1:=by
  refine ⟨?_,?_,rfl⟩
  · cases lo with
    | none=>simp [sliceBounds,HT.sIx]
    | some i =>
      simp only [sliceBounds,HT.sIx,Option.getD_none,show (1:Int) > 0 by decide,if_true]
      by_cases h:i < 0
      · simp only [h,if_true] <;> omega
      · simp only [h,if_false] <;> omega
  · cases hi with
    | none=>simp [sliceBounds,HT.sIx]
    | some i =>
      simp only [sliceBounds,HT.sIx,Option.getD_none,show (1:Int) > 0 by decide,if_true]
      by_cases h:i < 0
      · simp only [h,if_true] <;> omega
      · simp only [h,if_false] <;> omega
theorem slicePick_cut (its:List Value) (lo hi:Option Int):slicePick its.toArray lo hi none=((its.drop (HT.sIx its.length 0 lo)).take (HT.sIx its.length its.length hi - HT.sIx its.length 0 lo)).toArray:=by
  obtain ⟨h1,h2,h3⟩:=slice_bounds lo hi its.toArray.size
  unfold slicePick
  rw [h1,h2,h3]
  simp only [sliceRange_one,pick_run,List.size_toArray] <;> rfl
noncomputable def rSlL (K:PySem.W.Frag):V→Option Int→Option Int→Hp→VK→Prop:=fun x lo hi H Q=>∃ a xs,x = .ref a∧SqL K H a xs∧∀ p,H p=none→Q (.ref p) (upd H p (.lst (cutV xs lo hi)))
theorem sl_list:SlR X (rSlL X.K):=by
  intro pins s σ H x v vl vu lo hi sl Q I rx hs pl pu h
  obtain ⟨a,xs,rfl,hx,q⟩:=h
  cases rx
  obtain ⟨its,r,ht,hz⟩:=I.list hx
  have hlen:=r.length
  refine ⟨"list",_,slot_list_getitem.lookup,ht.isList.typeIs,?_⟩
  refine wpAny_getItem_list_slice ht.isList hs pl pu .none (by simp) ?_ (by rw [List.size_toArray] <;> omega)
  rw [slicePick_cut,← hlen]
  refine ⟨.ref s.heap.objs.size,_,I.laid (t':=s.toks) (o:=.lst (cutV xs lo hi)) (fun b ob q=>Heap.get?_push_of_some _ q) (Nat.le_refl _) ?_,rfl,q _ (I.hok.fresh (Nat.le_refl _))⟩
  exact ⟨Nat.le_trans (cutV_length xs lo hi) hz,_,0,(r.drop (HT.sIx xs.length 0 lo)).take (HT.sIx xs.length xs.length hi - HT.sIx xs.length 0 lo),Heap.get?_push_size _ rfl⟩
theorem call_len_seq:CallR X (.builtin "len") (fun xs H Q=>∃ p ys,xs = [.ref p]∧(SqL X.K H p ys∨SqT X.K H p ys)∧Q (.int ys.length) H):=by
  intro pins s σ H xs us Q I r h
  obtain ⟨p,ys,rfl,hq,q⟩:=h
  obtain ⟨u,rfl,rx⟩:=vals1 r
  cases rx
  have hn:=line63
  rcases hq with hq | hq
  · obtain ⟨its,r',pl,hz⟩:=I.list hq
    have hlen:=r'.length
    exact Calls.call_len_list pl.isList (by simp only [List.size_toArray] <;> omega) ⟨.int ys.length,H,I.tok _,⟨s.toks + 1,by rw [List.size_toArray,hlen]⟩,q⟩
  · obtain ⟨its,r',pl,hz⟩:=I.tuple hq
    have hlen:=r'.length
    exact len_tuple pl (by simp only [List.size_toArray] <;> omega) ⟨.int ys.length,H,I.tok _,⟨s.toks + 1,by rw [List.size_toArray,hlen]⟩,q⟩
theorem call_list_of:CallR X (.type "list") (fun xs H Q=>∃ p ys,xs = [.ref p]∧(SqL X.K H p ys∨SqT X.K H p ys)∧∀ l,H l=none→Q (.ref l) (upd H l (.lst ys))):=by
  intro pins s σ H xs us Q I r h
  obtain ⟨p,ys,rfl,hq,q⟩:=h
  obtain ⟨u,rfl,rx⟩:=vals1 r
  cases rx
  have fin:∀ (its:List Value),Vals ys its→ys.length ≤ sizeLine→∀ (h':Heap) (c':Nat),(∀ b o',s.heap.get? b=some o'→h'.get? b=some o') →
      h'.get? s.heap.objs.size=some { cls:=.type "list",dict:=none,data:=.seq its.toArray c',slots:=#[] }→EP X pins σ Q (.ref s.heap.objs.size) { s with heap:=h' }:=fun its r' hz h' c' kp e =>
    ⟨.ref s.heap.objs.size,_,I.laid (t':=s.toks) kp (Nat.le_refl _) (show ObjOk X.prog X.w _ h' _ (.lst ys) from ⟨hz,its,c',r',e⟩),rfl,q _ (I.hok.fresh (Nat.le_refl _))⟩
  rcases hq with hq | hq
  · obtain ⟨its,r',pl,hz⟩:=I.list hq
    have hlen:=r'.length
    obtain ⟨o,ho,hc,n,hd⟩:=pl.isList
    exact call_list_seq p (.inl rfl) ho hc hd (fun h' c' kp e=>fin its r' hz h' c' kp e) (by simp only [List.size_toArray] <;> omega)
  · obtain ⟨its,r',pl,hz⟩:=I.tuple hq
    have hlen:=r'.length
    obtain ⟨o,ho,hc,n,hd⟩:=pl
    exact call_list_seq p (.inr rfl) ho hc hd (fun h' c' kp e=>fin its r' hz h' c' kp e) (by simp only [List.size_toArray] <;> omega)
theorem call_tuple_of:CallR X (.type "tuple") (fun xs H Q=>∃ p ys,xs = [.ref p]∧((SqL X.K H p ys∧∀ l,H l=none→Q (.ref l) (upd H l (.tup ys)))∨(SqT X.K H p ys∧Q (.ref p) H))):=by
  intro pins s σ H xs us Q I r h
  obtain ⟨p,ys,rfl,h⟩:=h
  obtain ⟨u,rfl,rx⟩:=vals1 r
  cases rx
  rcases h with ⟨hq,q⟩ | ⟨hq,q⟩
  · obtain ⟨its,r',pl,hz⟩:=I.list hq
    have hlen:=r'.length
    refine call_tuple_list pl.isList (fun h' kp=>?_) (by simp only [List.size_toArray] <;> omega)
    have I1:Inv X pins σ H { s with heap:=h' }:=I.kept (t':=s.toks) kp
    have I2:Inv X pins σ (upd H h'.objs.size (.tup ys)) { s with heap:=h'.push { cls:=.type "tuple",data:=.seq its.toArray } } :=
      I1.laid (t':=s.toks) (fun b o e=>Heap.get?_push_of_some _ e) (Nat.le_refl _) (show ObjOk X.prog X.w _ _ _ (.tup ys) from ⟨hz,its,r',IsTup.new _ _⟩)
    exact ⟨.ref h'.objs.size,_,I2,rfl,q _ (I1.hok.fresh (Nat.le_refl _))⟩
  · obtain ⟨its,r',pl,hz⟩:=I.tuple hq
    exact call_tuple_same pl ⟨.ref p,H,I,rfl,q⟩
noncomputable def tyV (K:PySem.W.Frag) (T:String) (x:V) (H:Hp):Prop:=match x with
  | .str _=>T = "str"
  | .int _=>T = "int"
  | .ref p=>(T = "list"∧∃ xs,SqL K H p xs)∨(T = "tuple"∧∃ o,K.lookup p=some o∧o.cls = .type "tuple"∧o.dict=none) ∨
      (T = "dict"∧((∃ kvs,H p=some (.dK kvs))∨∃ kvs,H p=some (.dT kvs)))∨(T = "set"∧∃ S n,H p=some (.set S n))
  | _=>False
theorem tyV_is {pins:List (Addr×Obj)}{σ:St}{H:Hp}{s:Shared}{T:String}{x:V}{v:Value}(I:Inv X pins σ H s) (r:RelV x v) (ty:tyV X.K T x H) :
    s.TypeIs v T∧∀ a,v = .ref a→∃ ob,s.heap.get? a=some ob∧ob.dict=none:=by
  cases x with
  | str z =>
    obtain ⟨t,rfl⟩:=r
    cases (show T = "str" from ty)
    exact ⟨typeIs_str s z t,fun _ e=>nomatch e⟩
  | int i =>
    obtain ⟨t,rfl⟩:=r
    cases (show T = "int" from ty)
    exact ⟨typeIs_int s i t,fun _ e=>nomatch e⟩
  | ref p =>
    cases r
    rcases ty with ⟨rfl,xs,hq⟩ | ⟨rfl,o,hk,hc,hd⟩ | ⟨rfl,hk⟩ | ⟨rfl,S,n,hk⟩
    · obtain ⟨its,_,pl,_⟩:=I.list hq
      refine ⟨pl.isList.typeIs,fun a e=>?_⟩
      cases e
      obtain ⟨o,n,e,c,hd,_⟩:=pl
      exact ⟨o,e,hd⟩
    · refine ⟨⟨o,I.kIn p o hk,hc⟩,fun a e=>?_⟩
      cases e
      exact ⟨o,I.kIn _ o hk,hd⟩
    · have z:∃ o,s.heap.get? p=some o∧o.ExactDict:=by
        rcases hk with ⟨kvs,hk⟩ | ⟨kvs,hk⟩
        · obtain ⟨_,_,_,_,o,_,_,e,ex,_⟩:=I.hok p _ hk
          exact ⟨o,e,ex⟩
        · obtain ⟨_,_,_,_,o,_,_,e,ex,_⟩:=I.hok p _ hk
          exact ⟨o,e,ex⟩
      obtain ⟨o,e,ex⟩:=z
      refine ⟨⟨o,e,ex.1⟩,fun a e2=>?_⟩
      cases e2
      exact ⟨o,e,ex.2.1⟩
    · obtain ⟨o,_,_,_,e,ex,_⟩:=I.hok p _ hk
      refine ⟨⟨o,e,ex.1⟩,fun a e2=>?_⟩
      cases e2
      exact ⟨o,e,ex.2.1⟩
  | _=>exact False.elim ty
noncomputable def tBM0 (K:PySem.W.Frag) (T:String) (r:V→List V→Hp→VK→Prop) (to:TE):TE:=fun σ H Q=>to σ H fun x H1=>tyV K T x H1∧r x [] H1 Q
noncomputable def tBM (K:PySem.W.Frag) (T:String) (r:V→List V→Hp→VK→Prop) (to:TE) (t:TA):TE:=fun σ H Q=>to σ H fun x H1=>tyV K T x H1∧t σ H1 fun xs H2=>r x xs H2 Q
variable {o e:Expr}{es:List Expr}{to:TE}{t:TA}{name:Str}{apos cpos:Pos}{T id:String}{r:V→List V→Hp→VK→Prop}
theorem pe_bm0 (pa:PlainAttrs T) (slot:Slot T name id) (hty:typeOf (.builtin id)=pure (.type "method_descriptor")) (hm:MtR X id r) (ho:PE X o to)
    (hbase:attributeBase o name X.env (eval o X.env)=eval o X.env:=by rfl) (hline:(apos.endLine == cpos.line)=true:=by rfl):PE X (.Call (.Attribute o name apos) [] [] cpos) (tBM0 X.K T r to):=by
  intro pins s σ H Q I h
  refine wpAny_Call_method0_late hbase hline (thn (ho pins s σ H _ I h) fun v s1 ⟨x,H1,I1,r1,ty,q1⟩=>?_)
  obtain ⟨h1,h2⟩:=tyV_is I1 r1 ty
  exact ⟨T,id,pa,slot,hty,h1,h2,Calls.callWith_builtin rfl (PySem.evalArgs_none (hm pins s1 σ H1 x [] v [] Q I1 r1 .nil q1))⟩
theorem pe_bm (pa:PlainAttrs T) (slot:Slot T name id) (hty:typeOf (.builtin id)=pure (.type "method_descriptor")) (hm:MtR X id r) (ho:PE X o to) (ha:PA X (e :: es) t)
    (hbase:attributeBase o name X.env (eval o X.env)=eval o X.env:=by rfl)
    (hfew:((backTo cpos (starEach (e :: es) X.env)).all (fun x=>!x.1) && (backToKw cpos (keywordEach [] X.env)).all (fun x=>x.1.isSome)
      && decide ((e :: es).length + ([]:List Keyword).length + (if ([]:List Keyword).isEmpty then 0 else 1) < 30))=true:=by rfl)
    (hline:(apos.endLine == cpos.line)=true:=by rfl) (hs:starEach (e :: es) X.env=(false,eval e X.env) :: starEach es X.env:=by rfl) (hplain:(backTo cpos (starEach es X.env)).any (·.1)=false:=by rfl) :
    PE X (.Call (.Attribute o name apos) (e :: es) [] cpos) (tBM X.K T r to t):=by
  intro pins s σ H Q I h
  refine wpAny_Call_method_late hbase hfew hline rfl (thn (ho pins s σ H _ I h) fun v s1 ⟨x,H1,I1,r1,ty,q1⟩=>?_)
  obtain ⟨h1,h2⟩:=tyV_is I1 r1 ty
  refine ⟨T,id,pa,slot,hty,h1,h2,?_⟩
  have hA:=ha cpos pins s1 σ H1 _ I1 q1
  rw [hs] at hA ⊢
  refine Calls.callWith_builtin (by show (false || (backTo cpos (starEach es X.env)).any (·.1))=false; rw [hplain] <;> rfl) (Calls.evalArgs_plain ?_)
  exact thn hA fun us s2 ⟨vs,H2,I2,r2,q2⟩=>hm pins s2 σ H2 x vs v us Q I2 r1 r2 q2
/- xs.append(e),list.index on a module's tuple .. are MtR facts of 06m -/
end
noncomputable def MtM (X:Cx) (id:String) (r:V→List V→Hp→VK→Prop):Prop :=
  ∀ (pins:List (Addr×Obj)) (s:Shared) (σ:St) (H:Hp) (x:V) (xs:List V) (v:Value) (us:List Value) (Q:VK),Inv X pins σ H s→RelV x v→Vals xs us→r x xs H Q →
    wpAny (model X.prog X.w) X.A (call (.builtin id) (v :: us)) (EP X pins σ Q) X.xe s
theorem Vals.one:∀ {x:V}{us:List Value},Vals [x] us→∃ u,us = [u]∧RelV x u
  | _,_,.cons r .nil=>⟨_,rfl,r⟩
theorem Vals.zero:∀ {us:List Value},Vals [] us→us = []
  | _,.nil=>rfl
theorem Vals.dropLast {xs:List V}{us:List Value}(h:Vals xs us):Vals xs.dropLast us.dropLast:=by
  induction h with
  | nil=>exact .nil
  | cons r t ih =>
    cases t with
    | nil=>exact .nil
    | cons q t'=>exact .cons r ih
theorem Vals.reverse {xs:List V}{us:List Value}(h:Vals xs us):Vals xs.reverse us.reverse:=by
  induction h with
  | nil=>exact .nil
  | cons r t ih=>rw [List.reverse_cons,List.reverse_cons]; exact Vals.append ih (.cons r .nil)
theorem Vals.rep {xs:List V}{us:List Value}(h:Vals xs us):∀ k:Nat,Vals (List.replicate k xs).flatten (List.replicate k us).flatten
  | 0=>.nil
  | k + 1=>by
    rw [List.replicate_succ,List.replicate_succ,List.flatten_cons,List.flatten_cons]
    exact Vals.append h (Vals.rep h k)
theorem foldl_rep (its:List Value):∀ (k:Nat) (acc:List Value),
    List.foldl (fun x1 x2=>x1 ++ x2) acc.toArray (List.replicate k its.toArray)=(acc ++ (List.replicate k its).flatten).toArray
  | 0,acc=>by simp
  | k + 1,acc=>by
    have e:acc.toArray ++ its.toArray=(acc ++ its).toArray:=by simp
    have e2:(acc ++ its) ++ (List.replicate k its).flatten=acc ++ (List.replicate (k + 1) its).flatten:=by
      rw [List.replicate_succ,List.flatten_cons,List.append_assoc]
    rw [← e2,← foldl_rep its k (acc ++ its),← e,List.replicate_succ,List.foldl_cons]
section
variable {X:Cx}{pins:List (Addr×Obj)}{σ:St}{H:Hp}{s:Shared}{l b:Addr}{xs ys zs:List V}
theorem Inv.lset {its its':List Value}{n:Nat}{f:Array Value→Array Value}{t':Nat}(I:Inv X pins σ H s) (hH:H l=some (.lst xs))
    (e:s.heap.get? l=some { cls:=.type "list",data:=.seq its.toArray n }) (hf:f its.toArray=its'.toArray) (hv:Vals ys its') (hz:ys.length ≤ sizeLine) :
    Inv X pins σ (upd H l (.lst ys)) { s with heap:=s.heap.update l (Obj.mapSeq f),toks:=t' }:=by
  have q:=PySem.IsL.update e f
  rw [hf] at q
  refine I.write (x:=l) (e:=l) (by rw [hH]; exact trivial) (.inl rfl) (fun b' u hb hu=>(Heap.get?_update_other s.heap (Obj.mapSeq f) (Ne.symm hb)).trans hu) ⟨_,q⟩ ?_
  exact ⟨hz,its',_,hv,q⟩
theorem Inv.lnew {its:List Value}{t':Nat}(I:Inv X pins σ H s) (hv:Vals ys its) (hz:ys.length ≤ sizeLine) :
    Inv X pins σ (upd H s.heap.objs.size (.lst ys)) { s with heap:=s.heap.push { cls:=.type "list",data:=.seq its.toArray },toks:=t' } :=
  I.laid (fun _ _ q=>Heap.get?_push_of_some _ q) (Nat.le_refl _) ⟨hz,its,0,hv,Heap.get?_push_size _ rfl⟩
theorem Inv.fresh (I:Inv X pins σ H s):H s.heap.objs.size=none:=I.hok.fresh (Nat.le_refl _)
theorem Inv.lstM (I:Inv X pins σ H s) (hH:H l=some (.lst xs)):xs.length ≤ sizeLine∧∃ (its:List Value) (n:Nat),Vals xs its∧xs.length=its.length∧s.heap.get? l=some { cls:=.type "list",data:=.seq its.toArray n }:=by
  obtain ⟨z,its,n,r,e⟩:=I.hok l _ hH
  exact ⟨z,its,n,r,r.length,e⟩
theorem notLongL {n:Nat}(h:n ≤ sizeLine):Builtin.List.listTooLong n=false:=by
  unfold Builtin.List.listTooLong
  exact decide_eq_false (by omega)
end
section
variable {X:Cx}
noncomputable def rAppend:V→List V→Hp→VK→Prop:=fun x vs H Q=>∃ l xs y,x = .ref l∧vs = [y]∧H l=some (.lst xs)∧xs.length < sizeLine∧Q .non (upd H l (.lst (xs ++ [y])))
theorem mt_append:MtM X "list.append" rAppend:=by
  intro pins s σ H x vs v us Q I rx rv h
  obtain ⟨l,xs,y,rfl,rfl,hH,hz,q⟩:=h
  cases rx
  obtain ⟨u,rfl,ru⟩:=rv.one
  obtain ⟨z,its,n,r,hl,e⟩:=I.lstM hH
  refine call_meets F.slot_list_append ⟨_,e,rfl⟩ F.entry_list_append (F.args_list_append_2 _ _) (PySem.list_append l its.toArray n u (by rw [List.size_toArray]; omega)) ⟨e,?_⟩
  refine ⟨.non,_,I.lset (its':=its ++ [u]) hH e (by simp) (r.append (.cons ru .nil)) ?_,rfl,q⟩
  rw [List.length_append,List.length_singleton]
  omega
noncomputable def rExtend:V→List V→Hp→VK→Prop:=fun x vs H Q=>∃ l b xs zs,x = .ref l∧vs = [.ref b]∧H l=some (.lst xs)∧H b=some (.lst zs)∧xs.length + zs.length ≤ sizeLine∧Q .non (upd H l (.lst (xs ++ zs)))
theorem mt_extend:MtM X "list.extend" rExtend:=by
  intro pins s σ H x vs v us Q I rx rv h
  obtain ⟨l,b,xs,zs,rfl,rfl,hH,hB,hz,q⟩:=h
  cases rx
  obtain ⟨u,rfl,ru⟩:=rv.one
  cases ru
  obtain ⟨z,its,n,r,hl,e⟩:=I.lstM hH
  obtain ⟨z2,its2,n2,r2,hl2,e2⟩:=I.lstM hB
  have hsz:its.toArray.size + its2.toArray.size ≤ sizeLine:=by rw [List.size_toArray,List.size_toArray]; omega
  have hlong:¬ (!its.toArray.isEmpty && Builtin.List.listTooLong (its.toArray.size + its2.toArray.size))=true:=by
    rw [notLongL hsz,Bool.and_false]
    exact Bool.false_ne_true
  refine call_meets F.slot_list_extend ⟨_,e,rfl⟩ F.entry_list_extend (F.args_list_extend_2 _ _)
    (AutoSeq1.list_extend_list_list_0 l its.toArray n b its2.toArray n2 hlong (by rw [List.size_toArray]; omega) (by omega)) ⟨e,e2,?_⟩
  refine ⟨.non,_,I.lset (its':=its ++ its2) hH e (by simp) (r.append r2) ?_,rfl,q⟩
  rw [List.length_append]
  omega
noncomputable def rClear:V→List V→Hp→VK→Prop:=fun x vs H Q=>∃ l xs,x = .ref l∧vs = []∧H l=some (.lst xs)∧Q .non (upd H l (.lst []))
theorem mt_clear:MtM X "list.clear" rClear:=by
  intro pins s σ H x vs v us Q I rx rv h
  obtain ⟨l,xs,rfl,rfl,hH,q⟩:=h
  cases rx
  have hus:=rv.zero
  subst hus
  obtain ⟨z,its,n,r,hl,e⟩:=I.lstM hH
  refine call_meets F.slot_list_clear ⟨_,e,rfl⟩ F.entry_list_clear (F.args_list_clear_1 _) (AutoSeq1.list_clear_list_0 l its.toArray n (by rw [List.size_toArray]; omega)) ⟨e,?_⟩
  exact ⟨.non,_,I.lset (its':=[]) (ys:=[]) hH e rfl .nil (Nat.zero_le _),rfl,q⟩
noncomputable def rCat:R2:=fun x y H Q=>∃ l b xs zs,x = .ref l∧y = .ref b∧H l=some (.lst xs)∧H b=some (.lst zs)∧xs.length + zs.length ≤ sizeLine∧∀ p,H p=none→Q (.ref p) (upd H p (.lst (xs ++ zs)))
theorem op_cat:OpR X (binaryOp .Add) rCat:=by
  intro pins s σ H x y v u Q I rx ry h
  obtain ⟨l,b,xs,zs,rfl,rfl,hH,hB,hz,q⟩:=h
  cases rx
  cases ry
  obtain ⟨z,its,n,r,hl,e⟩:=I.lstM hH
  obtain ⟨z2,its2,n2,r2,hl2,e2⟩:=I.lstM hB
  refine PySem.P.add_list e e2 ?_ (by rw [List.size_toArray,List.size_toArray]; omega)
  have ea:its.toArray ++ its2.toArray=(its ++ its2).toArray:=by simp
  rw [ea]
  exact ⟨.ref _,_,I.lnew (t':=s.toks) (r.append r2) (by rw [List.length_append]; omega),rfl,q _ I.fresh⟩
noncomputable def rRep:R2:=fun x y H Q=>∃ l k xs,x = .ref l∧y = .int k∧H l=some (.lst xs)∧-(2 ^ 63) ≤ k∧k < 2 ^ 63∧xs.length * k.toNat ≤ sizeLine ∧
  ∀ p,H p=none→Q (.ref p) (upd H p (.lst (List.replicate k.toNat xs).flatten))
theorem len_rep {α:Type}(xs:List α) (k:Nat):(List.replicate k xs).flatten.length=k * xs.length:=by
  induction k with
  | zero=>simp
  | succ k ih=>rw [List.replicate_succ,List.flatten_cons,List.length_append,ih,Nat.succ_mul,Nat.add_comm]
theorem op_rep:OpR X (binaryOp .Mult) rRep:=by
  intro pins s σ H x y v u Q I rx ry h
  obtain ⟨l,k,xs,rfl,rfl,hH,h1,h2,hz,q⟩:=h
  cases rx
  obtain ⟨t,rfl⟩:=ry
  obtain ⟨z,its,n,r,hl,e⟩:=I.lstM hH
  have hlen:its.toArray.size * k.toNat ≤ sizeLine:=by rw [List.size_toArray,← hl]; exact hz
  have hcap:¬ its.toArray.size * k.toNat > (2 ^ 63 - 1) / 8:=by
    have:(sizeLine:Nat) ≤ (2 ^ 63 - 1) / 8:=by decide
    omega
  have hfit:¬ (!Builtin.List.listFitsIndex k)=true:=by
    rw [fitsIndex_both h1 h2]
    exact Bool.false_ne_true
  have hlong:¬ Builtin.List.listTooLong (its.toArray.size * k.toNat)=true:=by
    rw [notLongL hlen]
    exact Bool.false_ne_true
  have hnew:List.foldl (fun x1 x2=>x1 ++ x2) #[] (List.replicate (if its.toArray.isEmpty=true then 0 else k.toNat) its.toArray)=(List.replicate k.toNat its).flatten.toArray:=by
    have f0:∀ m:Nat,List.foldl (fun x1 x2=>x1 ++ x2) #[] (List.replicate m its.toArray)=(List.replicate m its).flatten.toArray:=fun m=>by
      have:=foldl_rep its m []
      rw [List.nil_append] at this
      exact this
    rw [f0]
    cases its with
    | nil=>simp
    | cons a r'=>rw [if_neg (by simp)]
  refine wpAny_binaryOp_repeat_ref (T:="list") (U:="int") (by decide) ⟨_,e,rfl⟩ (fun s'=>typeIs_int s' k t) noFill_list_mul F.fills_int_mul F.slot_int_rmul repeat_list F.slot_int_index.lookup
    (call_meets F.slot_int_rmul (typeIs_int s k t) F.entry_int_rmul (F.args_int_rmul_2 _ _) (int___rmul___int_list k t l its.toArray n)
      ⟨e,rfl,⟨_,e,rfl⟩,call_meets F.slot_list_mul ⟨_,e,rfl⟩ F.entry_list_mul (F.args_list_mul_2 _ _) (AutoListH.list___mul___list_int_3 l its.toArray n k t hfit hcap hlong) ⟨e,?_⟩⟩)
  rw [hnew]
  exact ⟨.ref _,_,I.lnew (t':=s.toks) (r.rep k.toNat) (by rw [len_rep,Nat.mul_comm]; exact hz),rfl,q _ I.fresh⟩
end
section
variable {prog:Program}{w:World}{A:Around}{E:Value→Shared→Prop}{s:Shared}
theorem bounds_run {a c n:Nat}(hac:a ≤ c) (hc:c ≤ n):sliceBounds (some (a:Int)) (some (c:Int)) none n=((a:Int),(c:Int),1):=by
  simp only [sliceBounds,Option.getD_none]
  have h1:¬ ((a:Int) < 0):=by omega
  have h2:¬ ((c:Int) < 0):=by omega
  simp only [h1,h2,if_false,show (1:Int) > 0 by decide,if_true]
  congr 1
  · omega
  · congr 1; omega
set_option maxRecDepth 100000 in
theorem setItem_slice {l b sl:Addr}{items new:Array Value}{n n2:Nat}{vl vu:Value}{a c:Nat}{Q:Unit→Shared→Prop}
    (e:s.heap.get? l=some { cls:=.type "list",data:=.seq items n }) (e2:s.heap.get? b=some { cls:=.type "list",data:=.seq new n2 }) (hne:l ≠ b)
    (hs:s.heap.IsSliceOf sl vl vu .none) (pl:IsPart vl (some (a:Int))) (pu:IsPart vu (some (c:Int))) (hac:a ≤ c) (hc:c ≤ items.size)
    (hsz:items.size + new.size ≤ sizeLine) (h:Q () { s with heap:=s.heap.update l (Obj.mapSeq fun xs=>xs.extract 0 a ++ new ++ xs.extract c xs.size) }) :
    wpAny (model prog w) A (setItem (.ref l) (.ref sl) (.ref b)) Q E s:=by
  have hl:s.heap.IsList l items:=PySem.IsL.isList e
  have hb:s.heap.IsList b new:=PySem.IsL.isList e2
  obtain ⟨os,hos,hcs,hds⟩:=id hs
  have hTs:s.TypeIs (.ref sl) "slice":=⟨os,hos,hcs⟩
  have hstep:¬ ((rawPart none == rawInt 0)=true):=Bool.false_ne_true
  have hsame:Builtin.List.listSameRef (.ref l) (.ref b)=false:=by
    unfold Builtin.List.listSameRef
    exact beq_eq_false_iff_ne.mpr hne
  have hmax:(max (a:Int) (c:Int)).toNat=c:=by omega
  have hz':((fun xs:Array Value=>xs.extract 0 a ++ new ++ xs.extract c xs.size) items).size ≤ sizeLine + 1:=by
    simp only [Array.size_append,Array.size_extract]
    omega
  unfold setItem
  try with_reducible refine wpAny_holding ?_
  first | refine wpAny_bind (wpAny_pure ?_) | skip
  refine wpAny_bind (wpAny_sequenceKey hl.typeIs (by decide) ?_)
  refine wpAny_bind (wpAny_callSpecial?_slot (name:=Str.ofString "__setitem__") hl.typeIs slot_list_setitem
    (wpAny_call_entry slot_list_setitem hl.typeIs entry_list_setitem ?_ (args_list_setitem _ _ _)))
  show wpAny _ _ (Builtin.List.listSubscript? (.ref sl) >>= _) _ _ s
  refine wpAny_bind ?_
  unfold Builtin.List.listSubscript?
  refine wpAny_bind (wpAny_specialOf hTs slice_no_index ?_)
  simp only [Option.isNone_none,if_true]
  refine wpAny_pure ?_
  show wpAny _ _ (typeOf (.ref sl) >>= _) _ _ s
  refine wpAny_bind (wpAny_typeOf hTs ?_)
  first
    | rw [if_neg (by decide)]
    | refine PySem.W.KFB.if_not (by decide) ?_
  rw [listSliceParts_eq]
  refine wpAny_bind (wpAny_bind (wpAny_field hos hds (x:=.none) rfl (wpAny_bind (wpAny_listPart .none ?_))))
  rw [if_neg hstep]
  refine wpAny_bind (wpAny_field hos hds (x:=vl) rfl (wpAny_bind (wpAny_listPart pl ?_)))
  refine wpAny_bind (wpAny_field hos hds (x:=vu) rfl (wpAny_bind (wpAny_listPart pu (wpAny_pure ?_))))
  first
    | simp only [hsame,Bool.false_eq_true,if_false]
    | refine PySem.W.KFB.if_not hsame ?_
    | (dsimp only
       rw [if_neg (by rw [hsame]; exact Bool.false_ne_true)])
  refine wpAny_bind (m:=Builtin.List.listAllItems (.ref b) "must assign iterable to extended slice") ?_
  unfold Builtin.List.listAllItems
  refine wpAny_bind (wpAny_typeOf hb.typeIs ?_)
  first
    | refine PySem.W.KFB.if_so (by decide) ?_
    | rw [if_pos (by decide)]
    | simp only [beq_self_eq_true,Bool.true_or,if_true]
  unfold Builtin.List.listItems
  refine wpAny_bind (wpAny_seqItems e2 rfl (wpAny_pure ?_))
  refine wpAny_bind (wpAny_bind (wpAny_seqItems e rfl (wpAny_pure ?_)))
  refine wpAny_bind (wpAny_of_eq ((sliceIndices_raw (some (a:Int)) (some (c:Int)) none items.size (by simp)).trans (congrArg (pure:Int×Int×Int→Sem (Int×Int×Int)) (bounds_run hac hc))) ?_)
  show wpAny _ _ (if ((1:Int) == 1)=true then _ else _) _ _ s
  rw [if_pos (by decide)]
  refine wpAny_bind (wpAny_rule ?_)
  first
    | simp only [notLongL hsz,Bool.false_eq_true,if_false]
    | refine PySem.W.KFB.if_not (notLongL hsz) ?_
  first | refine wpAny_bind (wpAny_pure ?_) | skip
  show wpAny _ _ (updateSeq l (fun xs=>xs.extract 0 ((a:Int)).toNat ++ new ++ xs.extract (max (a:Int) (c:Int)).toNat xs.size) >>= _) _ _ s
  rw [hmax,Int.toNat_natCast]
  refine wpAny_bind (wpAny_updateSeq (hz:=Nat.le_trans (Nat.le_add_right _ _) hsz) (_hz':=hz') e rfl ?_)
  refine wpAny_bind (wpAny_letGo ?_)
  first
    | exact wpAny_bind (wpAny_pure (wpAny_pure ⟨.none,rfl,wpAny_pure h⟩))
    | exact wpAny_pure ⟨.none,rfl,wpAny_pure h⟩
end
section
variable {X:Cx}
end
end L2
namespace Att
open PySem PySem.W PySem.Calls PyProof.Rows
theorem ints_of_wellAll {P:Params}{h:Heap}:∀ (ns:List Int) (vs:List Value),WellAll P h vs (ns.map WData.int)→IntsAre vs ns:=by
  intro ns
  induction ns with
  | nil =>
    intro vs w
    rw [List.map_nil] at w
    cases w
    exact .nil
  | cons n ns ih =>
    intro vs w
    rw [List.map_cons] at w
    cases w with
    | cons a b =>
      cases a
      exact .cons _ _ (ih _ b)
theorem script_of {l:OpenLaw}{n:Nat}(hn:l.most=some n) {P:Params}{h:Heap}{args:List WData}{vals:List Value}
    (hpre:l.row.toRowW.claim.pre args=true) (hwl:WellAll P h vals args) :
    ∃ a vs ns,vals = [Value.ref a]∧args = [WData.list (ns.map WData.int)]∧h.get? a=some { cls:=.type "list",data:=.seq vs.toArray }∧IntsAre vs ns∧ns.length ≤ n:=by
  have hsh:WShape.hasAll [] args [.list .int]=true:=(pre_splitW hpre).1
  have hc:l.pre.holds [] { args:=args } = true:=(pre_splitW hpre).2
  obtain ⟨d,r,rfl,h1,h2⟩:=hasAllW_cons hsh
  obtain rfl:=hasAllW_nil h2
  obtain ⟨xs,rfl,h3⟩:=hasW_list h1
  obtain ⟨ns,rfl⟩:=items_int h3
  have hlen:ns.length ≤ n:=by
    unfold OpenLaw.pre at hc
    have h4:(WTm.not (.lt (.lit (.int (n:Int))) (.len (.arg 0)))).holds [] { args:=[.list (ns.map .int)] } = true:=by
      have h4:=(holds_andW hc).1
      rw [hn] at h4
      exact h4
    have h5:=condW_of h4 (w_not (w_lt w_lit (w_len_list (w_arg rfl))))
    rw [List.length_map] at h5
    refine Nat.le_of_not_lt fun q=>?_
    have q':(n:Int) < ((ns.length:Nat):Int):=by omega
    first
      | (rw [decide_eq_true q'] at h5; exact absurd h5 (by decide))
      | (simp at h5; omega)
  cases hwl with
  | cons w1 w2 =>
    cases w2
    cases w1 with
    | list ho hall=>exact ⟨_,_,ns,rfl,rfl,ho,ints_of_wellAll ns _ hall,hlen⟩
theorem post_true (l:OpenLaw) (args:List WData):l.row.toRowW.claim.post args (.bool true) args=true :=
  postW_of (r:=l.row.toRowW) (X:=(true == true))
    (show WShape.has [] (.bool true) .bool=true by first | rfl | decide | simp [WShape.has,WShape.arms,WShape.armsAll])
    (show (WTm.eq .res (.lit (.bool true))).value [] { args:=args,res:=some (.bool true),after:=args } = some (.bool (true == true)) from w_eq_bool (w_res rfl) w_lit) rfl
theorem attach_call {l:OpenLaw}{n:Nat}{q:Program}{loose:List Str}{XP:(Str→Option Value)→Heap→Prop}{YP:World→Heap→Prop}{d:DefRec}
    (hn:l.most=some n) (hdf:d.params.defaults = [])
    (call:∀ (w:World) (s₀ s₁:Shared) (mg mb:Str→Option Value) (fa:Addr) (o:Obj) (pm cd doc:Value) (a:Addr) (vs:List Value) (ns:List Int),
      Ground q loose [] XP w s₀ mg mb s₁.heap→YP w s₁.heap →
      s₁.heap.get? fa=some o→o.data = .func (docDef d.name d.params d.body d.scope pm cd doc)→s₁.heap.CodeRec cd d.name→mg d.name=some (.ref fa) →
      s₁.heap.get? a=some { cls:=.type "list",data:=.seq vs.toArray }→IntsAre vs ns→ns.length ≤ n→s₁.gens = #[] →
      codeAny (model l.prog w) callerA (.call (.ref fa) ⟨[.ref a],[]⟩) (fun r s'=>r = .ok (.ret (.bool true))∧OldK s₁.heap s'.heap∧s'.os=s₁.os∧AllBare s'.gens) s₁) :
    WalkO q loose XP YP l.row.toRowW d [] (fun f vs=>PySem.call f vs):=by
  intro w s₀ s₁ mg mb G Y fa o pm cd doc dV kV ho hd hcd hD hmg hg args vals as hpre hlay hrd hwl hlo
  obtain rfl:dV = .none:=Dflts.none hD hdf
  obtain rfl:kV = .none:=Dflts.noKw hD
  obtain ⟨a,vs,ns,rfl,rfl,hobj,hints,hlen⟩:=script_of hn hpre hwl
  refine enter_call (codeAny_mono (call w s₀ s₁ mg mb fa o pm cd doc a vs ns G Y ho (fd_plain hd) hcd hmg hobj hints hlen hg) fun r s' hq=>?_)
  obtain ⟨rfl,h2,h3,h4⟩:=hq
  exact ⟨.inl ⟨.bool true,.bool true,[],rfl,fun _=>rfl,.bool true,post_true l _,fun _=>⟨List.Pairwise.nil,fun _ hm=>(nomatch hm)⟩⟩,h2,h3,h4⟩
section
variable {prog:Program}{w:World}{A:Around}{E:Value→Shared→Prop}{s:Shared}{K:Frag}
end
end Att
namespace L2
open PySem PySem.Spec PyProof.Rows
theorem vals_ints:∀ {vs:List Value}{ns:List Int},IntsAre vs ns→Vals (ns.map V.int) vs
  | _,_,.nil=>.nil
  | _,_,.cons n t h=>.cons ⟨t,rfl⟩ (vals_ints h)
noncomputable def Only (H:Hp):Prop:=∀ b,H b=none∨∃ o xs,H b=some (.frz o (.lst xs))
theorem law_call {P:Program}{w:World}{K:PySem.W.Frag}{mg mb:Str→Option Value}{CX:CXT}{k:Nat}{fa a:Addr}{fd:FuncData}{x:Str}{sp:Sp}{s₁:Shared}{vs:List Value}{ns:List Int}
    (KX:K.In s₁.heap) (hns:s₁.heap.Ns mainGlobals mg) (hb:s₁.heap.Ns builtinsNs mb) (hbb:∀ x:Str,x ≠ "__name__"→mb x=bootBuiltins x) (hlim:s₁.heap.NoLimit) (hg:s₁.gens = #[])
    (ha:s₁.heap.get? a=some { cls:=.type "list",data:=.seq vs.toArray }) (hi:IntsAre vs ns) (hl:ns.length ≤ sizeLine) (hr:Room k callerA)
    (F:∀ base:Heap,K.In base→base.Ns mainGlobals mg→FnOk P w K mg base CX k fa fd [x] sp) (hbind:∀ (s:Shared) (u:Value),BindsTo s fd ⟨[u],[]⟩ [(x,u)])
    (hsp:∀ H:Hp,Only H→SqL K H a (ns.map V.int)→sp [.ref a] H (fun v _=>v = .bl true) fun _ _ _=>False)
    (hCX:∀ H e s',CX [] H s₁ (fun _ _ _=>False) e s'→False) :
    codeAny (model P w) callerA (.call (.ref fa) ⟨[.ref a],[]⟩) (fun r s'=>r = .ok (.ret (.bool true))∧OldK s₁.heap s'.heap∧s'.os=s₁.os∧AllBare s'.gens) s₁:=by
  have rv:=vals_ints hi
  have lenV:=hi.length
  -- from an abstract heap in which nothing but the script may be tracked
  have core : ∀ H:Hp,Only H→SqL K H a (ns.map V.int)→HOk P w H s₁.heap→(∀ b,H b ≠ none→b=a)→(H a ≠ none→K.lookup a=none) →
      codeAny (model P w) callerA (.call (.ref fa) ⟨[.ref a],[]⟩) (fun r s'=>r = .ok (.ret (.bool true))∧OldK s₁.heap s'.heap∧s'.os=s₁.os∧AllBare s'.gens) s₁:=by
    intro H hO hS hok hA hK
    have base_of:∀ {b:Addr}{o:Obj},s₁.heap.get? b=some o→H b=none→(hidT s₁.heap H).get? b=some o:=fun e n=>hidT_get e n
    have noA:∀ {b:Addr}{o:Obj}{es:Array DictEntry}{ep:Nat},s₁.heap.get? b=some o→o.data = .dict es ep→H b=none:=fun {b o es ep} e d=>by
      cases q:H b with
      | none=>rfl
      | some u =>
        have e':b=a:=hA b (by rw [q]; simp)
        subst e'
        rw [ha] at e; cases e
        have d':Data.seq vs.toArray _=Data.dict es ep:=d
        cases d'
    have nsK:∀ {b:Addr}{m:Str→Option Value},s₁.heap.Ns b m→(hidT s₁.heap H).Ns b m:=fun {b m} ⟨o,es,ep,e,d,r⟩=>⟨o,es,ep,base_of e (noA e d),d,r⟩
    have hKb:K.In (hidT s₁.heap H):=fun b o e=>base_of (KX b o e) (by
      cases q:H b with
      | none=>rfl
      | some u =>
        have e':b=a:=hA b (by rw [q]; simp)
        subst e'
        rw [hK (by rw [q]; simp)] at e; cases e)
    have hM:Mod K mg (hidT s₁.heap H):=⟨hKb,nsK hns,⟨mb,nsK hb,hbb⟩,let ⟨mc,h1,h2⟩:=hlim; ⟨mc,nsK h1,h2⟩⟩
    have e0:Env0 P w K mg (hidT s₁.heap H) callerA [] s₁ H:=⟨rfl,hM,fun b o e=>of_hidT e,Nat.le_of_eq (hidT_size _ _),trivial,fun b hb=>absurd (show b ∈ ([]:List Addr) from hb) (by simp),hok,.of_eq hg⟩
    refine codeAny_mono ((F _ hKb (nsK hns)).run callerA [] s₁ H ⟨[.ref a],[]⟩ [.ref a] [.ref a] _ _ hr e0 (hbind s₁ (.ref a)) (.cons rfl .nil) (hsp H hO hS)) fun r s' h=>?_
    cases r with
    | error e=>exact (hCX H e s' h).elim
    | ok fl =>
      cases fl with
      | next=>exact False.elim h
      | brk=>exact False.elim h
      | cont=>exact False.elim h
      | ret u =>
        obtain ⟨v,H',os,bare,un,hok',r',q⟩:=h
        have q':v = .bl true:=q
        subst q'
        obtain rfl:u=Value.bool true:=r'
        refine ⟨rfl,OldK.of_keep fun b o e=>?_,os,bare⟩
        cases q:H b with
        | none=>exact un.keep b o e q (by intro z; exact absurd (show b ∈ ([]:List Addr) from z) (by simp)) (by simp)
        | some u =>
          rcases hO b with z | ⟨ob,xs,z⟩
          · rw [q] at z; cases z
          · have z2:=un.frzs b ob _ z
            obtain ⟨e1,_⟩:=hok b _ z
            obtain ⟨e2,_⟩:=hok' b _ z2
            rw [e] at e1; cases e1
            exact e2
  cases hk:K.lookup a with
  | some o =>
    -- the script is one of the module's own objects
    have e:=KX a o hk
    rw [ha] at e
    cases e
    refine core (fun _=>none) (fun _=>.inl rfl) (.inr ⟨_,vs.toArray,_,hk,rfl,rfl,rfl,by rw [List.size_toArray,lenV]; exact hl,by simpa using rv⟩) (fun b u z=>by have z':(none:Option HO)=some u:=z; cases z') (fun b z=>absurd rfl z) fun z=>absurd rfl z
  | none =>
    refine core (fun b=>if b=a then some (.frz { cls:=.type "list",data:=.seq vs.toArray } (.lst (ns.map V.int))) else none) (fun b=>?_) (.inl (.inr ⟨{ cls:=.type "list",data:=.seq vs.toArray },if_pos rfl⟩)) (fun b u z=>?_) (fun b z=>?_) fun _=>hk
    · by_cases hb:b=a
      · exact .inr ⟨_,_,if_pos hb⟩
      · exact .inl (if_neg hb)
    · by_cases hb:b=a
      · have z':=(if_pos hb).symm.trans z
        cases z'
        subst hb
        exact ⟨ha,by rw [List.length_map]; exact hl,vs,_,rv,ha⟩
      · have z':=(if_neg hb).symm.trans z
        cases z'
    · by_cases hb:b=a
      · exact hb
      · exact absurd (if_neg hb) z
noncomputable abbrev KOf {K:PySem.W.Frag}{h:Heap}(_:K.In h):PySem.W.Frag:=K
theorem walk_of {l:PySem.W.OpenLaw}{n k:Nat}{q:Program}{loose:List Str}{XP:(Str→Option Value)→Heap→Prop}{YP:World→Heap→Prop}{d:DefRec}{K:Params→PySem.W.Frag}{CX:World→CXT}{sp:World→Sp}{x:Str}
    (hn:l.most=some n) (hn2:n ≤ sizeLine) (hdf:d.params.defaults = []) (hr:Room k callerA)
    (hY:∀ (w:World) (h:Heap),YP w h→(K w.params).In h)
    (F:∀ (w:World) (mg:Str→Option Value) (fa:Addr) (h:Heap),(K w.params).In h→h.Ns mainGlobals mg→mg d.name=some (.ref fa) →
      ∃ fd:FuncData,(∀ (s:Shared) (u:Value),BindsTo s fd ⟨[u],[]⟩ [(x,u)]) ∧
        ∀ base:Heap,(K w.params).In base→base.Ns mainGlobals mg→FnOk l.prog w (K w.params) mg base (CX w) k fa fd [x] (sp w))
    (hsp:∀ (w:World) (H:Hp) (a:Addr) (ns:List Int),ns.length ≤ n→Only H→SqL (K w.params) H a (ns.map V.int)→sp w [.ref a] H (fun v _=>v = .bl true) fun _ _ _=>False)
    (hCX:∀ (w:World) (H:Hp) (s:Shared) (e:Value) (s':Shared),CX w [] H s (fun _ _ _=>False) e s'→False) :
    PySem.W.WalkO q loose XP YP l.row.toRowW d [] (fun f vs=>PySem.call f vs):=by
  refine Att.attach_call hn hdf fun w s₀ s₁ mg mb fa o pm cd doc a vs ns G Y ho hd hcd hmg hobj hints hlen hg=>?_
  have KX:=hY w _ Y
  obtain ⟨fd,hb,hF⟩:=F w mg fa _ KX G.T.g hmg
  exact law_call KX G.T.g G.T.b G.T.builtins G.T.nolimit hg hobj hints (Nat.le_trans hlen hn2) hr hF hb (fun H hO hS=>hsp w H a ns hlen hO hS) fun H e s'=>hCX w H s₁ e s'
theorem walk_ofK {l:PySem.W.OpenLaw}{n k:Nat}{q:Program}{loose:List Str}{XP:(Str→Option Value)→Heap→Prop}{YP:World→Heap→Prop}{d:DefRec}{K:Params→PySem.W.Frag}{CX:CXT}{sp:PySem.W.Frag→Sp}{x:Str}
    (hn:l.most=some n) (hn2:n ≤ sizeLine) (hdf:d.params.defaults = []) (hr:Room k callerA)
    (hY:∀ (w:World) (h:Heap),YP w h→(K w.params).In h)
    (F:∀ (w:World) (mg:Str→Option Value) (fa:Addr) (h:Heap),(K w.params).In h→h.Ns mainGlobals mg→mg d.name=some (.ref fa) →
      ∃ fd:FuncData,(∀ (s:Shared) (u:Value),BindsTo s fd ⟨[u],[]⟩ [(x,u)]) ∧
        ∀ base:Heap,(K w.params).In base→base.Ns mainGlobals mg→FnOk l.prog w (K w.params) mg base CX k fa fd [x] (sp (K w.params)))
    (hsp:∀ (K:PySem.W.Frag) (H:Hp) (a:Addr) (ns:List Int),ns.length ≤ n→Only H→SqL K H a (ns.map V.int)→sp K [.ref a] H (fun v _=>v = .bl true) fun _ _ _=>False)
    (hCX:∀ (H:Hp) (s:Shared) (e:Value) (s':Shared),CX [] H s (fun _ _ _=>False) e s'→False) :
    PySem.W.WalkO q loose XP YP l.row.toRowW d [] (fun f vs=>PySem.call f vs) :=
  walk_of (K:=K) (CX:=fun _=>CX) (sp:=fun w=>sp (K w.params)) hn hn2 hdf hr hY F (fun w H a ns h1 h2 h3=>hsp (K w.params) H a ns h1 h2 h3) fun _ H s e s'=>hCX H s e s'
noncomputable def inClass (s:Stmt) (j:Nat):Stmt:=match s with
  | .ClassDef _ _ _ body _ _ _ _ _ _ _=>body.getD j (.Pass ⟨0,0,0,0⟩)
  | _=>.Pass ⟨0,0,0,0⟩
noncomputable def defArgs (s:Stmt):Arguments:=match s with
  | .FunctionDef _ a _ _ _ _ _ _ _ _=>a
  | _=>{ posonlyargs:=[],args:=[],vararg:=none,kwonlyargs:=[],kw_defaults:=[],kwarg:=none,defaults:=[] }
noncomputable def defBody (s:Stmt):List Stmt:=match s with
  | .FunctionDef _ _ b _ _ _ _ _ _ _=>b
  | _=>[]
noncomputable def defScope (s:Stmt):Scope:=match s with
  | .FunctionDef _ _ _ _ _ _ sc _ _ _=>sc
  | _=>{ kind:=.function,names:=[],isGenerator:=false,isCoroutine:=false }
noncomputable abbrev CX0:CXT:=fun _ _ _ _ _ _=>False
noncomputable abbrev E0:XK:=fun _ _ _=>False
theorem pass0 {X:Cx}:Passes CX0 X E0:=fun _ _ _ _ _ _ _ h=>h.elim
structure Fun (K:PySem.W.Frag) (x qual:Str) (st:Stmt) (f:Addr) (fd:FuncData):Prop where
  ex:∃ (oc:Value) (od:Option Addr) (kV doc pm:Value) (an:Option Addr) (cdv ct:Value) (osl:Array (Option Value)),
    fd=PySem.W.fnOf x qual (defArgs st) (defBody st) (defScope st) .none kV doc pm an cdv ct∧K.lookup f=some ⟨oc,od,.func fd,osl⟩∧PySem.W.codeIn K cdv qual=true
  kp:PySem.W.keepIn K (.ref f)=true
section
variable {P:Program}{w:World}{K:PySem.W.Frag}{mg:Str→Option Value}{base:Heap}
theorem Fun.ok {x qual:Str}{st:Stmt}{f:Addr}{fd:FuncData}{N ps:List Str}{k:Nat}{sp:Sp}(F:Fun K x qual st f fd) (S:FnScope N ps (defScope st)) (len:∀ vs H Q E,sp vs H Q E→vs.length=ps.length)
    (hbody:∀ (cdv:Value) (A:Around) (outer:List Env) (s:Shared) (H:Hp) (vs:List V) (Q:VK) (E:XK),Room k (A.deeper (envOfC qual (defScope st) s.heap.objs.size f cdv))→sp vs H Q E →
      ∃ t,PSs (cxOf CX0 P w K mg base N qual (defScope st) f cdv A outer s H E).nox (defBody st) t∧t { nx:=fun _ H'=>Q .non H',rt:=Q } (start N vs) H):FnOk P w K mg base CX0 (k + 1) f fd ps sp:=by
  obtain ⟨oc,od,kV,doc,pm,an,cdv,ct,osl,rfl,lk,hcd⟩:=F.ex
  refine fn_of lk hcd S len fun A outer s H vs Q E hr hsp=>?_
  obtain ⟨t,h,q⟩:=hbody cdv A outer s H vs Q E hr hsp
  exact ⟨t,h.nox,q⟩
theorem Fun.binds {x qual:Str}{st:Stmt}{f:Addr}{fd:FuncData}{ps:List Str}(F:Fun K x qual st f fd)
    (h:∀ (kV doc pm:Value) (an:Option Addr) (cdv ct:Value) (us:List Value),us.length=ps.length→bindArgs (PySem.W.fnOf x qual (defArgs st) (defBody st) (defScope st) .none kV doc pm an cdv ct) ⟨us,[]⟩ = pure (ps.zip us)):Binds K fd ps []:=by
  obtain ⟨oc,od,kV,doc,pm,an,cdv,ct,osl,rfl,lk,hcd⟩:=F.ex
  exact .all (h kV doc pm an cdv ct)
theorem fun_mk {x qual:Str}{st:Stmt}{f:Addr}{oc:Value}{od an:Option Addr}{osl:Array (Option Value)}{kV doc pm cdv ct:Value}(l:K.lookup f=some ⟨oc,od,.func (PySem.W.fnOf x qual (defArgs st) (defBody st) (defScope st) .none kV doc pm an cdv ct),osl⟩)
    (c:PySem.W.codeIn K cdv qual=true) (k:PySem.W.keepIn K (.ref f)=true):Fun K x qual st f (PySem.W.fnOf x qual (defArgs st) (defBody st) (defScope st) .none kV doc pm an cdv ct):=⟨⟨oc,od,kV,doc,pm,an,cdv,ct,osl,rfl,l,c⟩,k⟩
end
theorem hu_of {A:Around}{k:Nat}(hr:Room k A):A.units + 1 < cLine:=Nat.lt_of_le_of_lt (Nat.add_le_add_left (by decide:1 ≤ 64) _) hr.units
theorem small1000 {n:Nat}(h:n ≤ 1000):n < sizeLine:=Nat.lt_of_le_of_lt h (by decide)
section
variable {X:Cx}
theorem pv (i:Nat) {x:Str}{pos:Pos}(hN:X.N[i]? = some x:=by rfl) (hv:Vis X.env.scope x:=by first | exact Or.inl rfl | exact Or.inr (Or.inl rfl) | exact Or.inr (Or.inr rfl)) (hd:(x == ("__debug__":Str))=false:=by decide)
    (hcd:(x == ("__classdict__":Str))=false:=by decide):PE X (.Name x pos) (tVar i):=pe_var hN hv hd hcd
end
noncomputable def Same (H H':Hp):Prop:=∀ b o,H b=some o→H' b=some o
theorem Same.refl (H:Hp):Same H H:=fun _ _ h=>h
theorem Same.trans {H H1 H2:Hp}(a:Same H H1) (b:Same H1 H2):Same H H2:=fun c o h=>b c o (a c o h)
theorem Same.free {H H':Hp}(e:Same H H') {l:Addr}(h:H' l=Option.none):H l=Option.none:=by
  cases q:H l with
  | none=>rfl
  | some o =>
    rw [e l o q] at h
    cases h
theorem Same.seq {K:PySem.W.Frag}{H H':Hp}{a:Addr}{xs:List V}(e:Same H H') (h:SqL K H a xs):SqL K H' a xs:=by
  rcases h with (h | ⟨o,h⟩) | h
  · exact .inl (.inl (e _ _ h))
  · exact .inl (.inr ⟨o,e _ _ h⟩)
  · exact .inr h
section
variable {κ:Type}[DecidableEq κ]
noncomputable def valV (kvs:List (κ×V)) (k:κ):Option V:=(kvs.find? fun kv=>decide (kv.1=k)).map (·.2)
noncomputable def putK (kvs:List (κ×V)) (k:κ) (v:V):List (κ×V) :=
  if (kvs.any fun kv=>decide (kv.1=k))=true then kvs.map (fun kv=>if kv.1=k then (kv.1,v) else kv) else kvs ++ [(k,v)]
noncomputable def dropK (kvs:List (κ×V)) (k:κ):List (κ×V):=kvs.filter fun kv=>decide (kv.1 ≠ k)
theorem valV_pos {p:κ×V}{r:List (κ×V)}{k:κ}(e:p.1=k):valV (p :: r) k=some p.2:=by simp [valV,List.find?_cons,e]
theorem valV_neg {p:κ×V}{r:List (κ×V)}{k:κ}(e:¬ p.1=k):valV (p :: r) k=valV r k:=by simp [valV,List.find?_cons,e]
theorem valV_any (k:κ):∀ kvs:List (κ×V),(kvs.any fun kv=>decide (kv.1=k))=(valV kvs k).isSome
  | []=>rfl
  | p :: r=>by
    rw [List.any_cons]
    by_cases e:p.1=k
    · simp only [valV_pos e,decide_eq_true e,Bool.true_or,Option.isSome_some]
    · rw [valV_neg e,decide_eq_false e,Bool.false_or]; exact valV_any k r
theorem length_putK (kvs:List (κ×V)) (k:κ) (v:V):(putK kvs k v).length ≤ kvs.length + 1:=by
  unfold putK
  split
  · rw [List.length_map]; omega
  · rw [List.length_append,List.length_cons,List.length_nil]; omega
theorem putK_new {kvs:List (κ×V)}{k:κ}(v:V) (h:valV kvs k=none):putK kvs k v=kvs ++ [(k,v)]:=by
  unfold putK
  rw [valV_any,h]
  exact if_neg (by decide)
theorem RelO.isSome_eq {o:Option V}{u:Option Value}(r:RelO o u):o.isSome=u.isSome:=by
  cases o with
  | none=>cases u with
    | none=>rfl
    | some _=>exact (show False from r).elim
  | some _=>cases u with
    | none=>exact (show False from r).elim
    | some _=>rfl
theorem RelO.getD {o:Option V}{u:Option Value}{d:V}{d':Value}(r:RelO o u) (rd:RelV d d'):RelV (o.getD d) (u.getD d'):=by
  cases o with
  | none=>cases u with
    | none=>exact rd
    | some _=>exact (show False from r).elim
  | some _=>cases u with
    | none=>exact (show False from r).elim
    | some _=>exact r
theorem KV.val {kvs:List (κ×V)}{vs:List (κ×Value)}(r:KV kvs vs) (k:κ):RelO (valV kvs k) (valueAt vs k):=by
  unfold KV at r
  induction r with
  | nil=>exact True.intro
  | @cons p q ps qs h t ih =>
    obtain ⟨h1,h2⟩:=h
    by_cases e:p.1=k
    · have e':q.1=k:=h1.symm.trans e
      have b:valueAt (q :: qs) k=some q.2:=by simp [valueAt,List.find?_cons,e']
      rw [valV_pos e,b]; exact h2
    · have e':¬ q.1=k:=fun z=>e (h1.trans z)
      have b:valueAt (q :: qs) k=valueAt qs k:=by simp [valueAt,List.find?_cons,e']
      rw [valV_neg e,b]; exact ih
theorem KV.any {kvs:List (κ×V)}{vs:List (κ×Value)}(r:KV kvs vs) (k:κ):(kvs.any fun kv=>decide (kv.1=k))=vs.any fun kv=>decide (kv.1=k):=by
  unfold KV at r
  induction r with
  | nil=>rfl
  | cons h t ih=>rw [List.any_cons,List.any_cons,ih,h.1]
theorem KV.repl {kvs:List (κ×V)}{vs:List (κ×Value)}(r:KV kvs vs) (k:κ) {y:V}{u:Value}(ry:RelV y u) :
    KV (kvs.map fun kv=>if kv.1=k then (kv.1,y) else kv) (vs.map fun kv=>if kv.1=k then (kv.1,u) else kv):=by
  unfold KV at r ⊢
  induction r with
  | nil=>exact .nil
  | @cons p q ps qs h t ih =>
    rw [List.map_cons,List.map_cons]
    refine .cons ?_ ih
    obtain ⟨h1,h2⟩:=h
    by_cases e:p.1=k
    · rw [if_pos e,if_pos (h1.symm.trans e)]; exact ⟨h1,ry⟩
    · rw [if_neg e,if_neg (fun z=>e (h1.trans z))]; exact ⟨h1,h2⟩
theorem KV.put {kvs:List (κ×V)}{vs:List (κ×Value)}(r:KV kvs vs) (k:κ) {y:V}{u:Value}(ry:RelV y u):KV (putK kvs k y) (stored vs k u):=by
  unfold putK stored
  rw [r.any k]
  by_cases e:(vs.any fun kv=>decide (kv.1=k))=true
  · rw [if_pos e,if_pos e]; exact r.repl k ry
  · rw [if_neg e,if_neg e]; exact Paired.snoc r ⟨rfl,ry⟩
theorem KV.drop {kvs:List (κ×V)}{vs:List (κ×Value)}(r:KV kvs vs) (k:κ):KV (dropK kvs k) (without vs k):=by
  unfold KV at r ⊢
  unfold dropK without
  induction r with
  | nil=>exact .nil
  | @cons p q ps qs h t ih =>
    obtain ⟨h1,h2⟩:=h
    rw [List.filter_cons,List.filter_cons]
    by_cases e:p.1=k
    · have a:¬ decide (p.1 ≠ k)=true:=by simp [e]
      have b:¬ decide (q.1 ≠ k)=true:=by simp [h1.symm.trans e]
      rw [if_neg a,if_neg b]; exact ih
    · have e':¬ q.1=k:=fun z=>e (h1.trans z)
      have a:decide (p.1 ≠ k)=true:=by simp [e]
      have b:decide (q.1 ≠ k)=true:=by simp [e']
      rw [if_pos a,if_pos b]; exact .cons ⟨h1,h2⟩ ih
theorem KV.keys {kvs:List (κ×V)}{vs:List (κ×Value)}(r:KV kvs vs):kvs.map (·.1)=vs.map (·.1):=by
  unfold KV at r
  induction r with
  | nil=>rfl
  | cons h t ih=>rw [List.map_cons,List.map_cons,ih,h.1]
theorem KV.length {kvs:List (κ×V)}{vs:List (κ×Value)}(r:KV kvs vs):kvs.length=vs.length:=Paired.length r
theorem dropK_le (kvs:List (κ×V)) (k:κ):(dropK kvs k).length ≤ kvs.length:=List.length_filter_le _ _
end
theorem kV_is {P:Program}{w:World}{k:Key}{u:Value}(r:RelV (kV k) u):(mixKind P w).is k u=true:=by
  cases k with
  | inl i=>obtain ⟨t,e⟩:=(show ∃ t,u=Value.int i t from r); subst e; exact mixKind_int P w i t
  | inr x=>obtain ⟨t,e⟩:=(show ∃ t,u=Value.str x t from r); subst e; exact mixKind_str P w x t
theorem items_are {P:Program}{w:World}:∀ {ks:List Key}{us:List Value},Vals (ks.map kV) us→ItemsAre (mixKind P w) ks us
  | [],_,r=>by rw [List.map_nil] at r; cases r; exact .nil
  | k :: ks,_,r=>by
    rw [List.map_cons] at r
    cases r with
    | cons h t=>exact .cons (kV_is h) (items_are t)
noncomputable abbrev KT (H:Hp):List (List Key×V)→List (List Key×Addr×Value)→Prop:=Paired fun p q=>p.1=q.1∧H q.2.1=some (.tup (p.1.map kV))∧RelV p.2 q.2.2
theorem KT.val {H:Hp}{kvs:List (List Key×V)}{xs:List (List Key×Addr×Value)}(r:KT H kvs xs) (k:List Key):RelO (valV kvs k) ((atKey xs k).map (·.2)):=by
  induction r with
  | nil=>exact True.intro
  | @cons p q ps qs h t ih =>
    obtain ⟨h1,_,h2⟩:=h
    by_cases e:p.1=k
    · have e':q.1=k:=h1.symm.trans e
      have b:atKey (q :: qs) k=some q.2:=by simp [atKey,List.find?_cons,e']
      rw [valV_pos e,b]; exact h2
    · have e':¬ q.1=k:=fun z=>e (h1.trans z)
      have b:atKey (q :: qs) k=atKey qs k:=by simp [atKey,List.find?_cons,e']
      rw [valV_neg e,b]; exact ih
theorem KT.repl {H:Hp}{kvs:List (List Key×V)}{xs:List (List Key×Addr×Value)}(r:KT H kvs xs) (k:List Key) {y:V}{u:Value}(ry:RelV y u) :
    KT H (kvs.map fun kv=>if kv.1=k then (kv.1,y) else kv) (xs.map (putAt k u)):=by
  induction r with
  | nil=>exact .nil
  | @cons p q ps qs h t ih =>
    rw [List.map_cons,List.map_cons]
    refine .cons ?_ ih
    obtain ⟨h1,h2,h3⟩:=h
    unfold putAt
    by_cases e:p.1=k
    · rw [if_pos e,if_pos (h1.symm.trans e)]; exact ⟨h1,h2,ry⟩
    · rw [if_neg e,if_neg (fun z=>e (h1.trans z))]; exact ⟨h1,h2,h3⟩
theorem KT.put {H:Hp}{kvs:List (List Key×V)}{xs:List (List Key×Addr×Value)}(r:KT H kvs xs) (k:List Key) {b:Addr}{y:V}{u:Value}(hb:H b=some (.tup (k.map kV))) (ry:RelV y u) :
    KT H (putK kvs k y) (storedH xs k b u):=by
  have e:(kvs.any fun kv=>decide (kv.1=k))=(atKey xs k).isSome:=by
    rw [valV_any,(r.val k).isSome_eq,Option.isSome_map]
  unfold putK storedH
  rw [e]
  by_cases q:(atKey xs k).isSome=true
  · rw [if_pos q,if_pos q]; exact r.repl k ry
  · rw [if_neg q,if_neg q]; exact Paired.snoc r ⟨rfl,hb,ry⟩
theorem KT.keeps {H H':Hp}{kvs:List (List Key×V)}{xs:List (List Key×Addr×Value)}(r:KT H kvs xs) (ht:∀ b ys,H b=some (.tup ys)→H' b=some (.tup ys)):KT H' kvs xs :=
  Paired.mapP r fun _ _ z=>⟨z.1,ht _ _ z.2.1,z.2.2⟩
section
variable {P:Program}{w:World}{H:Hp}{h:Heap}{a:Addr}
theorem rd_of {u:HO}(ok:HOk P w H h) (e:Rd H a u):ObjOk P w H h a u:=e.ok ok
theorem dk_rd {kvs:List (Key×V)}(ok:HOk P w H h) (e:Rd H a (.dK kvs)):kvs.length ≤ sizeLine∧(a == sysModules)=false∧∃ vs,KV kvs vs∧h.DictOf (mixKind P w) a vs :=
  show ObjOk P w H h a (.dK kvs) from rd_of ok e
theorem dk_of {kvs:List (Key×V)}(ok:HOk P w H h) (e:H a=some (.dK kvs)):kvs.length ≤ sizeLine∧(a == sysModules)=false∧∃ vs,KV kvs vs∧h.DictOf (mixKind P w) a vs:=dk_rd ok (.inl e)
theorem key_of {ks:List Key}(ok:HOk P w H h) (e:H a=some (.tup (ks.map kV))):(tupleKind (mixKind P w)).is h ks a:=by
  obtain ⟨_,its,r,o,h1,h2,n,h3⟩:=(show ObjOk P w H h a (.tup (ks.map kV)) from ok a _ e)
  exact ⟨o,its.toArray,n,h1,h2,h3,by simpa using items_are r⟩
theorem dt_rd {kvs:List (List Key×V)}(ok:HOk P w H h) (e:Rd H a (.dT kvs)):kvs.length ≤ sizeLine∧(a == sysModules)=false ∧
    ∃ xs,KT H kvs xs∧h.DictOfH (tupleKind (mixKind P w)) a xs:=by
  obtain ⟨z,y,xs,r,o,es,ep,h1,h2,h3,h4,h5⟩:=(show ObjOk P w H h a (.dT kvs) from rd_of ok e)
  refine ⟨z,y,xs,r,o,es,ep,h1,h2,h3,h4,fun x hx=>?_,h5⟩
  have all:∀ {l:List (List Key×V)}{m:List (List Key×Addr×Value)},KT H l m→∀ x ∈ m,(tupleKind (mixKind P w)).is h x.1 x.2.1:=by
    intro l m q
    induction q with
    | nil=>intro x hx; exact nomatch hx
    | @cons p q ps qs hq t ih =>
      intro x hx
      rcases List.mem_cons.mp hx with e | hx
      · subst e
        exact key_of ok (by rw [← hq.1]; exact hq.2.1)
      · exact ih x hx
  exact all r x hx
theorem dt_of {kvs:List (List Key×V)}(ok:HOk P w H h) (e:H a=some (.dT kvs)):kvs.length ≤ sizeLine∧(a == sysModules)=false ∧
    ∃ xs,KT H kvs xs∧h.DictOfH (tupleKind (mixKind P w)) a xs:=dt_rd ok (.inl e)
end
noncomputable def DGet (H:Hp) (a:Addr) (y:V) (r:Option V):Prop :=
  (∃ kvs k,Rd H a (.dK kvs)∧y=kV k∧r=valV kvs k)∨∃ kvs k b,Rd H a (.dT kvs)∧y = .ref b∧H b=some (.tup (k.map kV))∧r=valV kvs k
noncomputable def DPut (H:Hp) (a:Addr) (y v:V) (H':Hp):Prop :=
  (∃ kvs k,H a=some (.dK kvs)∧y=kV k∧kvs.length < sizeLine∧H'=upd H a (.dK (putK kvs k v))) ∨
  ∃ kvs k b,H a=some (.dT kvs)∧y = .ref b∧H b=some (.tup (k.map kV))∧kvs.length < sizeLine∧H'=upd H a (.dT (putK kvs k v))
theorem DGet.k {H:Hp}{a:Addr}{kvs:List (Key×V)}{k:Key}(e:H a=some (.dK kvs)):DGet H a (kV k) (valV kvs k):=.inl ⟨kvs,k,.inl e,rfl,rfl⟩
theorem DGet.t {H:Hp}{a b:Addr}{kvs:List (List Key×V)}{k:List Key}(e:H a=some (.dT kvs)) (eb:H b=some (.tup (k.map kV))):DGet H a (.ref b) (valV kvs k):=.inr ⟨kvs,k,b,.inl e,rfl,eb,rfl⟩
theorem DPut.k {H:Hp}{a:Addr}{kvs:List (Key×V)}{k:Key}{v:V}(e:H a=some (.dK kvs)) (hl:kvs.length < sizeLine):DPut H a (kV k) v (upd H a (.dK (putK kvs k v))):=.inl ⟨kvs,k,e,rfl,hl,rfl⟩
theorem DPut.t {H:Hp}{a b:Addr}{kvs:List (List Key×V)}{k:List Key}{v:V}(e:H a=some (.dT kvs)) (eb:H b=some (.tup (k.map kV))) (hl:kvs.length < sizeLine) :
    DPut H a (.ref b) v (upd H a (.dT (putK kvs k v))):=.inr ⟨kvs,k,b,e,rfl,eb,hl,rfl⟩
section
variable {X:Cx}{pins:List (Addr×Obj)}{σ:St}{H:Hp}{s:Shared}{a:Addr}{y v:V}{u r:Value}{o:Option V}{A:Around}{E:Value→Shared→Prop}
theorem Inv.big (I:Inv X pins σ H s):sysModules < s.heap.objs.size:=by
  have h:mainGlobals < s.heap.objs.size:=(I.mod.glob.keeps I.bk).lt
  exact Nat.lt_trans (by decide) h
theorem d_getItem {Q:Value→Shared→Prop}(hu:A.units + 1 < cLine) (I:Inv X pins σ H s) (g:DGet H a y (some v)) (ry:RelV y u) (h:∀ w' s',Inv X pins σ H s'→RelV v w'→Q w' s') :
    wpAny (model X.prog X.w) A (getItem (.ref a) u) Q E s:=by
  rcases g with ⟨kvs,k,e,ey,l⟩ | ⟨kvs,k,b,e,ey,eb,l⟩
  · subst ey
    obtain ⟨z,hd,vs,rel,dd⟩:=dk_rd I.hok e
    obtain ⟨w',hw,rw'⟩:=RelO.some_of (v:=v) (o:=valueAt vs k) (by rw [l]; exact rel.val k)
    exact wpAny_getItem_of (kV_is ry) dd.mapOf hw (h w' _ (I.tok _) rw')
  · subst ey
    cases (show u=Value.ref b from ry)
    obtain ⟨z,hd,xs,rel,dd⟩:=dt_rd I.hok e
    obtain ⟨w',hw,rw'⟩:=RelO.some_of (v:=v) (o:=(atKey xs k).map (·.2)) (by rw [l]; exact rel.val k)
    obtain ⟨p,hp,hp2⟩:=Option.map_eq_some_iff.mp hw
    refine wpAny_getItem_heap (tupleKind_room_in1 hu) (key_of I.hok eb) dd hp ?_
    rw [hp2]
    exact h w' _ (I.tok _) rw'
theorem d_in {Q:Value→Shared→Prop}(hu:A.units + 1 < cLine) (I:Inv X pins σ H s) (g:DGet H a y o) (ry:RelV y u) (h:∀ s',Inv X pins σ H s'→Q (.bool o.isSome) s') :
    wpAny (model X.prog X.w) A (compareOp .In u (.ref a)) Q E s:=by
  rcases g with ⟨kvs,k,e,ey,l⟩ | ⟨kvs,k,b,e,ey,eb,l⟩
  · subst ey
    obtain ⟨z,hd,vs,rel,dd⟩:=dk_rd I.hok e
    refine wpAny_in_of (kV_is ry) hd dd.mapOf ?_
    rw [← (rel.val k).isSome_eq,← l]
    exact h _ (I.tok _)
  · subst ey
    cases (show u=Value.ref b from ry)
    obtain ⟨z,hd,xs,rel,dd⟩:=dt_rd I.hok e
    refine wpAny_in_heap (tupleKind_room_in1 hu) (key_of I.hok eb) hd dd ?_
    have q:=(rel.val k).isSome_eq
    rw [Option.isSome_map] at q
    rw [← q,← l]
    exact h _ (I.tok _)
theorem d_write {h':Heap}{t':Nat}{ob:HO}(I:Inv X pins σ H s) (mu:Mut (H a)) (hs:Heap.SameBut a s.heap h') (he:∃ q,h'.get? a=some q) (new:ObjOk X.prog X.w (upd H a ob) h' a ob) :
    Inv X pins σ (upd H a ob) { s with heap:=h',toks:=t' } :=
  I.write (x:=a) (e:=a) mu (.inl rfl) (fun b q hb z=>(hs.2 b hb).trans z) he new
theorem dk_new {P:Program}{w:World}{H':Hp}{h':Heap}{kvs:List (Key×V)}{vs:List (Key×Value)}(z:kvs.length ≤ sizeLine) (hd:(a == sysModules)=false) (rel:KV kvs vs) (dd:h'.DictOf (mixKind P w) a vs) :
    ObjOk P w H' h' a (.dK kvs):=⟨z,hd,vs,rel,dd⟩
theorem d_setItem {H':Hp}{Q:Unit→Shared→Prop}(hu:A.units + 1 < cLine) (I:Inv X pins σ H s) (g:DPut H a y v H') (ry:RelV y u) (rv:RelV v r) (h:∀ s',Inv X pins σ H' s'→Q () s') :
    wpAny (model X.prog X.w) A (setItem (.ref a) u r) Q E s:=by
  rcases g with ⟨kvs,k,e,ey,l,eH⟩ | ⟨kvs,k,b,e,ey,eb,l,eH⟩
  · subst ey eH
    obtain ⟨z,hd,vs,rel,dd⟩:=dk_of I.hok e
    have hz:vs.length ≤ sizeLine:=by rw [← rel.length]; exact z
    have hl:(putK kvs k v).length ≤ sizeLine:=by have:=length_putK kvs k v; omega
    refine wpAny_setItem_pairs (hsz:=hz) (kV_is ry) dd fun h' dd' hs=>h _ ?_
    have he:∃ q,h'.get? a=some q:=let ⟨q,_,_,hq,_⟩:=dd'; ⟨q,hq⟩
    exact d_write I (by rw [e]; exact True.intro) hs he (dk_new hl hd (rel.put k rv) dd')
  · subst ey eH
    cases (show u=Value.ref b from ry)
    obtain ⟨z,hd,xs,rel,dd⟩:=dt_of I.hok e
    have hz:xs.length ≤ sizeLine:=by rw [← Paired.length rel]; exact z
    have hl:(putK kvs k v).length ≤ sizeLine:=by have:=length_putK kvs k v; omega
    refine wpAny_setItem_heap (hsz:=hz) (tupleKind_room_in1 hu) (key_of I.hok eb) dd fun h' dd' hs=>h _ ?_
    obtain ⟨q,es,ep,hq,h2,h3,h4,_,h5⟩:=dd'
    refine d_write I (by rw [e]; exact True.intro) hs ⟨q,hq⟩ ⟨hl,hd,_,(rel.put k eb rv).keeps fun c ys ec=>?_,q,es,ep,hq,h2,h3,h4,h5⟩
    rw [upd_ne (ne_of ec e (fun z=>nomatch z))]
    exact ec
end
section
variable {X:Cx}{pins:List (Addr×Obj)}{σ:St}{H:Hp}{s:Shared}{a:Addr}{kvs:List (Key×V)}{k:Key}{u:Value}{A:Around}{E:Value→Shared→Prop}
theorem d_delItem {Q:Unit→Shared→Prop}(I:Inv X pins σ H s) (e:H a=some (.dK kvs)) (ry:RelV (kV k) u) (l:(valV kvs k).isSome=true) (h:∀ s',Inv X pins σ (upd H a (.dK (dropK kvs k))) s'→Q () s') :
    wpAny (model X.prog X.w) A (delItem (.ref a) u) Q E s:=by
  obtain ⟨z,hd,vs,rel,dd⟩:=dk_of I.hok e
  refine wpAny_delItem_slot dd.typeIs (by decide) PySem.F.slot_dict_delitem
    (call_meetsIn PySem.F.slot_dict_delitem dd.typeIs PySem.F.entry_dict_delitem (PySem.F.args_dict_delitem_2 _ _) (meets_dict_delitem_pairs (mixKind X.prog X.w) a (kV_is ry)) ⟨vs,dd,by rw [← rel.length]; exact z,by rw [← (rel.val k).isSome_eq]; exact l,fun h' dd' hs=>h _ ?_⟩)
  have he:∃ q,h'.get? a=some q:=let ⟨q,_,_,hq,_⟩:=dd'; ⟨q,hq⟩
  exact d_write I (by rw [e]; exact True.intro) hs he (dk_new (Nat.le_trans (dropK_le kvs k) z) hd (rel.drop k) dd')
theorem d_len {Q:Value→Shared→Prop}(I:Inv X pins σ H s) (e:Rd H a (.dK kvs)) (h:∀ t s',Inv X pins σ H s'→Q (.int kvs.length t) s'):wpAny (model X.prog X.w) A (call (.builtin "len") [.ref a]) Q E s:=by
  obtain ⟨z,hd,vs,rel,dd⟩:=dk_rd I.hok e
  refine call_len_dict hd dd (by rw [← rel.length]; rw [sizeLine_eq] at z; omega) ?_
  rw [← rel.length]
  exact h _ _ (I.tok _)
end
noncomputable def NoSl (i:Expr):Prop:=∀ ov iv,subscripted i false ov iv=operate [ov,iv] (getItem ov iv)
theorem subD_of {prog:Program}{w:World}{A:Around}{E:Value→Shared→Prop}{s:Shared}{env:Env}{value slice:Expr}{pos:Pos}{T id:String}{Q:Value→Shared→Prop}
    (hl:typeLookup (.type T) "__getitem__" = pure (some (.builtin id))) (hs:NoSl slice)
    (h:wpAny (model prog w) A (eval value env) (fun o s₁=>wpAny (model prog w) A (eval slice env) (fun i s₂=>s₂.TypeIs o T∧wpAny (model prog w) A (getItem o i) Q E s₂) E s₁) E s) :
    wpAny (model prog w) A (eval (.Subscript value slice pos) env) Q E s:=by
  refine Subscript_ (wpAny_mono h (fun o s₁ h₁=>wpAny_mono h₁ (fun i s₂ h₂=>?_) fun _ _ x=>x) fun _ _ x=>x)
  obtain ⟨hT,h₂⟩:=h₂
  unfold subscriptTail
  refine wpAny_bind ?_
  rw [getitemInPython_of_ne hT.not_modules]
  refine wpAny_bind (wpAny_specialOf hT hl ?_)
  have fin:wpAny (model prog w) A (subscripted slice false o i) (fun r s₃=>wpAny (model prog w) A (letTemporaryGo value o r >>= fun _=>pure r) Q E s₃) E s₂:=by
    rw [hs o i]
    exact wpAny_operating (wpAny_mono h₂ (fun r s₃ h₃=>wpAny_bind (wpAny_letTemporaryGo (wpAny_pure h₃))) fun _ _ x=>x)
  first
    | exact wpAny_pure (wpAny_bind fin)
    | exact wpAny_bind (wpAny_pure (wpAny_bind fin))
    | exact wpAny_bind fin
theorem dict_typeIs {X:Cx}{pins:List (Addr×Obj)}{σ:St}{H:Hp}{s:Shared}{a:Addr}{y:V}{o:Option V}(I:Inv X pins σ H s) (g:DGet H a y o):s.TypeIs (.ref a) "dict":=by
  rcases g with ⟨kvs,k,e,_,_⟩ | ⟨kvs,k,b,e,_,_,_⟩
  · obtain ⟨_,_,vs,_,dd⟩:=dk_rd I.hok e
    exact dd.typeIs
  · obtain ⟨_,_,xs,_,dd⟩:=dt_rd I.hok e
    exact dd.typeIs
noncomputable def tDGet (td ty:TE):TE:=fun σ H Q=>td σ H fun x H1=>ty σ H1 fun y H2=>∃ a v,x = .ref a∧DGet H2 a y (some v)∧Q v H2
noncomputable def tDIn (ty td:TE):TE:=fun σ H Q=>ty σ H fun y H1=>td σ H1 fun x H2=>∃ a o,x = .ref a∧DGet H2 a y o∧Q (.bl o.isSome) H2
noncomputable def sDPut (td ty tv:TE):TS:=fun D σ H=>tv σ H fun v H1=>td σ H1 fun x H2=>ty σ H2 fun y H3=>∃ a H4,x = .ref a∧DPut H3 a y v H4∧D.nx σ H4
noncomputable def sDDel (td ty:TE):TS:=fun D σ H=>td σ H fun x H1=>ty σ H1 fun y H2=>∃ a kvs k,x = .ref a∧H2 a=some (.dK kvs)∧y=kV k∧(valV kvs k).isSome=true∧D.nx σ (upd H2 a (.dK (dropK kvs k)))
section
variable {X:Cx}{o i e value:Expr}{pos pos' tpos:Pos}{td ty tv:TE}
theorem pe_dget (hu:X.A.units + 1 < cLine) (ho:PE X o td) (hi:PE X i ty) (hs:NoSl i):PE X (.Subscript o i pos) (tDGet td ty):=by
  intro pins s σ H Q I h
  refine subD_of PySem.F.slot_dict_getitem.lookup hs (thn (ho pins s σ H _ I h) fun u s1 ⟨x,H1,I1,rx,q1⟩=>thn (hi pins s1 σ H1 _ I1 q1) fun iv s2 ⟨y,H2,I2,ry,a,v,ex,g,q2⟩=>?_)
  subst ex
  obtain rfl:u=Value.ref a:=rx
  exact ⟨dict_typeIs I2 g,d_getItem hu I2 g ry fun w' s3 I3 rw'=>⟨v,H2,I3,rw',q2⟩⟩
theorem pc_din (hu:X.A.units + 1 < cLine) (hi:PE X i ty) (ho:PE X o td):PC X .In i o (tDIn ty td):=by
  intro pins s σ H Q I h
  refine thn (hi pins s σ H _ I h) fun iv s1 ⟨y,H1,I1,ry,q1⟩=>thn (ho pins s1 σ H1 _ I1 q1) fun u s2 ⟨x,H2,I2,rx,a,ov,ex,g,q2⟩=>?_
  subst ex
  obtain rfl:u=Value.ref a:=rx
  exact d_in hu I2 g ry fun s3 I3=>⟨.bl ov.isSome,H2,I3,rfl,q2⟩
theorem ps_dput (hu:X.A.units + 1 < cLine) (ho:PE X o td) (hi:PE X i ty) (hv:PE X value tv) (hs:swapsWith value (some (.Subscript o i pos')) pos.line X.env=pure false) :
    PS X (.Assign [.Subscript o i pos'] value pos) (sDPut td ty tv):=by
  intro pins s σ H D I h
  refine wpAny_Assign_Subscript (thn (hv pins s σ H _ I h) fun r s1 ⟨v,H1,I1,rv,q1⟩=>thn (ho pins s1 σ H1 _ I1 q1) fun u s2 ⟨x,H2,I2,rx,q2⟩=>thn (hi pins s2 σ H2 _ I2 q2) fun iv s3 ⟨y,H3,I3,ry,a,H4,ex,g,q3⟩=>?_) hs
  subst ex
  obtain rfl:u=Value.ref a:=rx
  exact d_setItem hu I3 g ry rv fun s4 I4=>⟨σ,H4,I4,q3⟩
theorem ps_ddel (ho:PE X o td) (hi:PE X i ty):PS X (.Delete [.Subscript o i tpos] pos) (sDDel td ty):=by
  intro pins s σ H D I h
  refine wpAny_Delete (wpAny_deleteEach_cons (wpAny_delete_Subscript (thn (ho pins s σ H _ I h) fun u s1 ⟨x,H1,I1,rx,q1⟩=>thn (hi pins s1 σ H1 _ I1 q1) fun iv s2 ⟨y,H2,I2,ry,a,kvs,k,ex,e,ey,l,q2⟩=>?_)))
  subst ex ey
  obtain rfl:u=Value.ref a:=rx
  exact d_delItem I2 e ry l fun s3 I3=>wpAny_deleteEach_nil ⟨σ,_,I3,q2⟩
end
theorem dk_empty {P:Program}{w:World}{H:Hp}(h:Heap) (hb:sysModules < h.objs.size):ObjOk P w H (h.push { cls:=.type "dict",data:=.dict #[] }) h.objs.size (.dK []) :=
  ⟨Nat.zero_le _,beq_eq_false_iff_ne.mpr (Ne.symm (Nat.ne_of_lt hb)),[],.nil,Heap.DictOf.new h⟩
noncomputable def tDNewK:TE:=fun _ H Q=>∀ p,H p=none→Q (.ref p) (upd H p (.dK []))
section
variable {X:Cx}{pos:Pos}
theorem pe_dnewK:PE X (.Dict [] [] pos) tDNewK:=fun pins s σ H Q I h =>
  wpAny_Dict_empty ⟨.ref s.heap.objs.size,_,I.laid (a:=s.heap.objs.size) (o:=.dK []) (t':=s.toks) (fun _ _ q=>Heap.get?_push_of_some _ q) (Nat.le_refl _) (dk_empty s.heap I.big),rfl,h _ (I.hok.fresh (Nat.le_refl _))⟩
end
structure M1 (X:Cx) (o:Expr) (m:Str) (apos:Pos) (e:Expr) (cpos:Pos):Prop where
  base:attributeBase o m X.env (eval o X.env)=eval o X.env
  few:((backTo cpos (starEach [e] X.env)).all (fun x=>!x.1) && (backToKw cpos (keywordEach [] X.env)).all (fun x=>x.1.isSome)
    && decide (([e]:List Expr).length + ([]:List Keyword).length + (if ([]:List Keyword).isEmpty then 0 else 1) < 30))=true
  line:(apos.endLine == cpos.line)=true
  trees:backTo cpos (starEach [e] X.env) = [(false,eval e X.env)]
structure M2 (X:Cx) (o:Expr) (m:Str) (apos:Pos) (e f:Expr) (cpos:Pos):Prop where
  base:attributeBase o m X.env (eval o X.env)=eval o X.env
  few:((backTo cpos (starEach [e,f] X.env)).all (fun x=>!x.1) && (backToKw cpos (keywordEach [] X.env)).all (fun x=>x.1.isSome)
    && decide (([e,f]:List Expr).length + ([]:List Keyword).length + (if ([]:List Keyword).isEmpty then 0 else 1) < 30))=true
  line:(apos.endLine == cpos.line)=true
  trees:backTo cpos (starEach [e,f] X.env) = [(false,eval e X.env),(false,eval f X.env)]
noncomputable def IsD (H:Hp) (a:Addr):Prop:=(∃ kvs,Rd H a (.dK kvs))∨∃ kvs,Rd H a (.dT kvs)
theorem isD_at {X:Cx}{pins:List (Addr×Obj)}{σ:St}{H:Hp}{s:Shared}{a:Addr}(I:Inv X pins σ H s) (d:IsD H a) :
    s.TypeIs (.ref a) "dict"∧(∀ b,Value.ref a = .ref b→∃ ob,s.heap.get? b=some ob∧ob.dict=none)∧(a == sysModules)=false:=by
  rcases d with ⟨kvs,e⟩ | ⟨kvs,e⟩
  · obtain ⟨_,hd,vs,_,dd⟩:=dk_rd I.hok e
    refine ⟨dd.typeIs,fun b q=>?_,hd⟩
    cases q
    obtain ⟨ob,_,_,h1,h2,_⟩:=dd
    exact ⟨ob,h1,h2.2.1⟩
  · obtain ⟨_,hd,xs,_,dd⟩:=dt_rd I.hok e
    refine ⟨dd.typeIs,fun b q=>?_,hd⟩
    cases q
    obtain ⟨ob,_,_,h1,h2,_⟩:=dd
    exact ⟨ob,h1,h2.2.1⟩
section
variable {X:Cx}{pins:List (Addr×Obj)}{σ:St}{H:Hp}{s:Shared}{a:Addr}{y d:V}{u r:Value}{o:Option V}{A:Around}{E:Value→Shared→Prop}
theorem d_get2 {Q:Value→Shared→Prop}(hu:A.units + 1 < cLine) (I:Inv X pins σ H s) (g:DGet H a y o) (ry:RelV y u) (rd:RelV d r) (h:∀ w' s',Inv X pins σ H s'→RelV (o.getD d) w'→Q w' s') :
    wpAny (model X.prog X.w) A (call (.builtin "dict.get") [.ref a,u,r]) Q E s:=by
  rcases g with ⟨kvs,k,e,ey,l⟩ | ⟨kvs,k,b,e,ey,eb,l⟩
  · subst ey
    obtain ⟨z,hd,vs,rel,dd⟩:=dk_rd I.hok e
    refine call_meetsIn PySem.F.slot_dict_get dd.typeIs PySem.F.entry_dict_get (PySem.F.args_dict_get_3 _ _ _) (meets_dict_get_default (mixKind X.prog X.w) a (kV_is ry) hd r) ⟨_,dd.mapOf,h _ _ (I.tok _) ?_⟩
    rw [l]
    exact (rel.val k).getD rd
  · subst ey
    cases (show u=Value.ref b from ry)
    obtain ⟨z,hd,xs,rel,dd⟩:=dt_rd I.hok e
    refine call_meetsIn PySem.F.slot_dict_get dd.typeIs PySem.F.entry_dict_get (PySem.F.args_dict_get_3 _ _ _) (meetsH_dict_get_default (tupleKind (mixKind X.prog X.w)) a b hd r) ⟨tupleKind_room_in1 hu,k,xs,key_of I.hok eb,dd,h _ _ (I.tok _) ?_⟩
    rw [l]
    exact (rel.val k).getD rd
end
noncomputable def tDGet2 (td ty tx:TE):TE:=fun σ H Q=>td σ H fun x H1=>∃ a,x = .ref a∧IsD H1 a∧ty σ H1 fun y H2=>tx σ H2 fun z H3=>∃ o,DGet H3 a y o∧Q (o.getD z) H3
section
variable {X:Cx}{o e f:Expr}{apos cpos:Pos}{td ty tx:TE}
theorem pe_dget2 (hu:X.A.units + 1 < cLine) (ho:PE X o td) (he:PE X e ty) (hf:PE X f tx) (m:M2 X o "get" apos e f cpos):PE X (.Call (.Attribute o "get" apos) [e,f] [] cpos) (tDGet2 td ty tx):=by
  intro pins s σ H Q I h
  refine wpAny_Call_method m.base m.few m.line PySem.F.plainAttrs_dict PySem.F.slot_dict_get PySem.F.type_dict_get (thn (ho pins s σ H _ I h) fun u s1 ⟨x,H1,I1,rx,a,ex,d,q1⟩=>?_)
  subst ex
  obtain rfl:u=Value.ref a:=rx
  obtain ⟨t1,t2,_⟩:=isD_at I1 d
  refine ⟨t1,t2,?_⟩
  rw [m.trees]
  refine Calls.callWith_builtin rfl (Calls.evalArgs_plain (Calls.spliced_cons (thn (he pins s1 σ H1 _ I1 q1) fun iv s2 ⟨y,H2,I2,ry,q2⟩ =>
    Calls.spliced_cons (thn (hf pins s2 σ H2 _ I2 q2) fun fv s3 ⟨z,H3,I3,rz,ov,g,q3⟩=>Calls.spliced_nil ?_))))
  exact d_get2 hu I3 g ry rz fun w' s4 I4 rw'=>⟨_,H3,I4,rw',q3⟩
end
section
variable {X:Cx}{pins:List (Addr×Obj)}{σ:St}{H:Hp}{s:Shared}{a:Addr}{kvs:List (Key×V)}{A:Around}{E:Value→Shared→Prop}
end
section
variable {X:Cx}{pins:List (Addr×Obj)}{σ:St}{H:Hp}{s:Shared}{a:Addr}{y:V}{u:Value}{A:Around}{E:Value→Shared→Prop}
end
section
variable {X:Cx}
theorem call_lenD:CallR X (.builtin "len") (fun xs H Q=>∃ a kvs,xs = [V.ref a]∧H a=some (.dK kvs)∧Q (.int kvs.length) H):=by
  intro pins s σ H xs us Q I r h
  obtain ⟨a,kvs,rfl,ha,q⟩:=h
  obtain ⟨u,rfl,ru⟩:=vals1 r
  cases ru
  exact d_len I (.inl ha) fun t s' I'=>⟨.int kvs.length,H,I',⟨t,rfl⟩,q⟩
end
section
variable {κ:Type}[DecidableEq κ]
end
end L2
namespace Zt
open PySem PySem.Spec
structure Src (i:Addr) (fp:List Addr) (S:Nat→Heap→Prop) (nth:Nat→Option Value):Prop where
  mem:i ∈ fp
  stay:∀ k h h',S k h→(∀ b ∈ fp,∀ o,h.get? b=some o→h'.get? b=some o)→S k h'
  obj:∀ k h,S k h→∃ o,h.get? i=some o∧∀ v,o.data ≠ .cell v
  item:∀ {prog:Program}{w:World}{A:Around}{E:Value→Shared→Prop}{s:Shared}{Q:Value→Shared→Prop}{k:Nat}{x:Value},S k s.heap→nth k=some x →
    (∀ h',S (k + 1) h'→Heap.SameBut i s.heap h'→Q x { s with heap:=h' })→wpAny (model prog w) A (Builtin.SmallTypes.nextOf (.ref i)) Q E s
  fin:∀ {prog:Program}{w:World}{A:Around}{E:Value→Shared→Prop}{s:Shared}{Q:Value→Shared→Prop}{k:Nat},A.handled=none→S k s.heap→nth k=none →
    (∀ h' e,Heap.ExtBut i s.heap h'→(∃ o,h'.get? e=some o∧o.cls = .type "StopIteration")→E (.ref e) { s with heap:=h' })→wpAny (model prog w) A (Builtin.SmallTypes.nextOf (.ref i)) Q E s
theorem srcT (i t:Addr) (hne:t ≠ i) (its:Array Value):Src i [i,t] (fun k h=>h.IsTupleIter i t k∧h.IsTuple t its) (fun k=>its[k]?) where
  mem:=List.mem_cons_self
  stay:=by
    rintro k h h' ⟨⟨o,e,r⟩,⟨o2,e2,r2⟩⟩ hk
    exact ⟨⟨o,hk i (by simp) o e,r⟩,⟨o2,hk t (by simp) o2 e2,r2⟩⟩
  obj:=by
    rintro k h ⟨⟨o,e,c,d⟩,_⟩
    exact ⟨o,e,fun v z=>by rw [d] at z; cases z⟩
  item:=by
    rintro prog w A E s Q k x ⟨hit,ht⟩ hx hQ
    obtain ⟨o,ho,hc,hd⟩:=id hit; obtain ⟨ol,hol,hlc,nl,hdl⟩:=id ht
    unfold Builtin.SmallTypes.nextOf
    refine wpAny_bind (wpAny_callSpecial?_slot (name:=Str.ofString "__next__") hit.typeIs F.slot_tuple_iterator_next (wpAny_call_entry F.slot_tuple_iterator_next hit.typeIs F.entry_tuple_iterator_next ?_ (F.args_tuple_iterator_next_1 _)))
    show wpAny _ _ (field (.ref i) 0 >>= _) _ _ s; refine wpAny_bind (wpAny_field ho hd (x:=.ref t) rfl ?_)
    show wpAny _ _ (if (Value.ref t == Value.none)=true then _ else _) _ _ s; rw [if_neg (show ¬ ((Value.ref t == Value.none)=true) from Bool.false_ne_true)]
    show wpAny _ _ (field (.ref i) 1 >>= _) _ _ s; refine wpAny_bind (wpAny_field ho hd (x:=.int k 0) rfl ?_)
    show wpAny _ _ (seqItems? (.ref t) >>= _) _ _ s; refine wpAny_bind (wpAny_seqItems hol hdl ?_)
    simp only [Int.toNat_natCast,hx]
    refine wpAny_bind (wpAny_setField ho hd (by simp) (wpAny_pure ⟨x,rfl,wpAny_pure (hQ _ ⟨?_,ht.extBut (Heap.SameBut.update ..).extBut hne⟩ (Heap.SameBut.update ..))⟩))
    refine ⟨_,Heap.get?_update_self _ ho (Obj.isFreed_of_fields (Obj.data_mapFields hd _)),(Obj.cls_mapFields ..).trans hc,?_⟩
    rw [Obj.data_mapFields hd]; simp [rawInt]
  fin:=by
    rintro prog w A E s Q k hh ⟨hit,ht⟩ hx hE
    obtain ⟨o,ho,hc,hd⟩:=id hit; obtain ⟨ol,hol,hlc,nl,hdl⟩:=id ht
    unfold Builtin.SmallTypes.nextOf
    refine wpAny_bind (wpAny_callSpecial?_slot (name:=Str.ofString "__next__") hit.typeIs F.slot_tuple_iterator_next (wpAny_call_entry F.slot_tuple_iterator_next hit.typeIs F.entry_tuple_iterator_next ?_ (F.args_tuple_iterator_next_1 _)))
    show wpAny _ _ (field (.ref i) 0 >>= _) _ _ s; refine wpAny_bind (wpAny_field ho hd (x:=.ref t) rfl ?_)
    show wpAny _ _ (if (Value.ref t == Value.none)=true then _ else _) _ _ s; rw [if_neg (show ¬ ((Value.ref t == Value.none)=true) from Bool.false_ne_true)]
    show wpAny _ _ (field (.ref i) 1 >>= _) _ _ s; refine wpAny_bind (wpAny_field ho hd (x:=.int k 0) rfl ?_)
    show wpAny _ _ (seqItems? (.ref t) >>= _) _ _ s; refine wpAny_bind (wpAny_seqItems hol hdl ?_)
    simp only [Int.toNat_natCast,hx]
    refine wpAny_bind (wpAny_rule (wpAny_bind (wpAny_setField ho hd (by simp) ?_))); show wpAny _ _ (newExc (.type "StopIteration") [] >>= _) _ _ _
    refine wpAny_bind ?_; simp only [newExc,newTuple]; refine wpAny_bind (wpAny_newObj_type ?_ (by size_fits))
    refine wpAny_bind (m:=firstArgMember _ _) (wpAny_of_eq (a:=Value.none) (by first | rfl | (simp only [firstArgMember]; rfl)) ?_); refine wpAny_newObj_type ?_ (by size_fits)
    simp only [raiseNew]; refine wpAny_bind (wpAny_handled ?_); first | rw [show A.in1.handled=none from hh] | rw [hh]
    refine wpAny_bind (wpAny_pure (wpAny_throw ?_)); exact hE _ _ (((Heap.SameBut.update ..).extBut.push _).push _) ⟨_,Heap.get?_push_size _ rfl,rfl⟩
structure Apart (z TI TO i1 i2:Addr) (f1 f2:List Addr):Prop where
  TIz:TI ≠ z
  TOz:TO ≠ z
  i1z:i1 ≠ z
  i2z:i2 ≠ z
  TITO:TI ≠ TO
  TIi1:TI ≠ i1
  TIi2:TI ≠ i2
  TOi1:TO ≠ i1
  TOi2:TO ≠ i2
  i12:i1 ≠ i2
  z1:z ∉ f1
  z2:z ∉ f2
  o1:TO ∉ f1
  o2:TO ∉ f2
  c12:i1 ∉ f2
  c21:i2 ∉ f1
section
variable {prog:Program}{w:World}{A:Around}{E:Value→Shared→Prop}{s:Shared}{z TI TO i1 i2:Addr}{f1 f2:List Addr}{S1 S2:Nat→Heap→Prop}{n1 n2:Nat→Option Value}{k1 k2:Nat}{a b:Value}
theorem Src.but {i:Addr}{fp:List Addr}{S:Nat→Heap→Prop}{nth:Nat→Option Value}(R:Src i fp S nth) {k:Nat}{h h':Heap}{c:Addr}(st:S k h) (e:Heap.ExtBut c h h') (hc:c ∉ fp):S k h' :=
  R.stay k h h' st fun b hb o q=>e b o (fun z=>hc (z ▸ hb)) q
theorem next_item {x y:Value}{Q:Value→Shared→Prop}(R1:Src i1 f1 S1 n1) (R2:Src i2 f2 S2 n2) (D:Apart z TI TO i1 i2 f1 f2)
    (hz:IsZip s.heap z TI TO .none) (hTI:IsPair s.heap TI (.ref i1) (.ref i2)) (hTO:IsPair s.heap TO a b) (h1:S1 k1 s.heap) (h2:S2 k2 s.heap) (hx:n1 k1=some x) (hy:n2 k2=some y)
    (hQ:∀ h',IsZip h' z TI TO (rawInt s.heap.objs.size)→IsPair h' TO x y→S1 (k1 + 1) h'→S2 (k2 + 1) h'→IsPair h' s.heap.objs.size x y →
      (∀ c o,c ≠ z→c ≠ TO→c ≠ i1→c ≠ i2→s.heap.get? c=some o→h'.get? c=some o)→Q (.ref s.heap.objs.size) { s with heap:=h' }) :
    wpAny (model prog w) A (Builtin.«zip.__next__» ⟨[.ref z],[]⟩) (fun fin s'=>∃ v,fin = .done (.ret v)∧Q v s') E s:=by
  show wpAny _ _ (field (.ref z) 2 >>= _) _ _ _; refine wpAny_bind (wpAny_field hz rfl (x:=.bool false) rfl ?_)
  show wpAny _ _ (field (.ref z) 3 >>= _) _ _ _; refine wpAny_bind (wpAny_field hz rfl (x:=.ref TI) rfl ?_); refine wpAny_bind (wpAny_seqItems hTI rfl ?_)
  show wpAny _ _ (Builtin.SmallTypes.ownedTupleIsFree (.ref z) >>= _) _ _ _; refine wpAny_bind ?_; unfold Builtin.SmallTypes.ownedTupleIsFree
  refine wpAny_bind (wpAny_field hz rfl (x:=.none) rfl (wpAny_pure ?_)); simp only [if_true]; refine wpAny_bind (wpAny_rule ?_)
  refine wpAny_bind (wpAny_field hz rfl (x:=.ref TO) rfl ?_); refine wpAny_bind (wpAny_setField_rec hz (by simp) fun h₁ hz₁ hs₁=>?_)
  replace hz₁:IsZip h₁ z TI TO .ellipsis:=hz₁
  refine wpAny_bind ?_; simp only [List.zipIdx_cons,List.zipIdx_nil,List.forIn_cons,List.forIn_nil]
  refine wpAny_bind (wpAny_bind (wpAny_onRaise ?_)); show wpAny _ _ (Builtin.SmallTypes.nextOf (.ref i1) >>= _) _ _ _
  refine wpAny_bind (R1.item (R1.but h1 hs₁.extBut D.z1) hx fun h₂ g1 hs₂=>wpAny_pure ?_)
  have t2:IsPair h₂ TO a b:=hs₂.extBut _ _ D.TOi1 (hs₁.extBut _ _ D.TOz hTO)
  refine wpAny_bind (wpAny_seqItems t2 rfl ?_); refine wpAny_bind (wpAny_updateSeq_pair t2 fun h₃ t3 hs₃=>?_)
  replace t3:IsPair h₃ TO x b:=t3
  refine wpAny_bind (wpAny_letGo (wpAny_pure ?_)); refine wpAny_bind (wpAny_bind (wpAny_onRaise ?_)); show wpAny _ _ (Builtin.SmallTypes.nextOf (.ref i2) >>= _) _ _ _
  refine wpAny_bind (R2.item (R2.but (R2.but (R2.but h2 hs₁.extBut D.z2) hs₂.extBut D.c12) hs₃.extBut D.o2) hy fun h₄ g2 hs₄=>wpAny_pure ?_)
  have t4:IsPair h₄ TO x b:=hs₄.extBut _ _ D.TOi2 t3
  refine wpAny_bind (wpAny_seqItems t4 rfl ?_); refine wpAny_bind (wpAny_updateSeq_pair t4 fun h₅ t5 hs₅=>?_)
  replace t5:IsPair h₅ TO x y:=t5
  refine wpAny_bind (wpAny_letGo (wpAny_pure (wpAny_pure ?_))); refine wpAny_bind (wpAny_seqItems t5 rfl ?_); refine wpAny_bind (wpAny_newTuple ?_)
  have hsz:h₅.objs.size=s.heap.objs.size:=by rw [hs₅.1,hs₄.1,hs₃.1,hs₂.1,hs₁.1]
  have z5:IsZip h₅ z TI TO .ellipsis:=hs₅.extBut _ _ D.TOz.symm (hs₄.extBut _ _ D.i2z.symm (hs₃.extBut _ _ D.TOz.symm (hs₂.extBut _ _ D.i1z.symm hz₁)))
  have k5:∀ c o,c ≠ z→c ≠ TO→c ≠ i1→c ≠ i2→s.heap.get? c=some o→h₅.get? c=some o:=fun c o c1 c2 c3 c4 e =>
    hs₅.extBut _ _ c2 (hs₄.extBut _ _ c4 (hs₃.extBut _ _ c2 (hs₂.extBut _ _ c3 (hs₁.extBut _ _ c1 e))))
  have e1:S1 (k1 + 1) h₅:=R1.but (R1.but (R1.but g1 hs₃.extBut D.o1) hs₄.extBut D.c21) hs₅.extBut D.o1
  have e2:S2 (k2 + 1) h₅:=R2.but g2 hs₅.extBut D.o2
  have lz:z < h₅.objs.size:=Heap.lt_size z5
  show wpAny _ _ (Builtin.SmallTypes.ownedTupleHandOut (.ref z) (.ref h₅.objs.size) >>= _) _ _ _; refine wpAny_bind ?_; unfold Builtin.SmallTypes.ownedTupleHandOut
  have z6:IsZip (h₅.push { cls:=.type "tuple",data:=.seq #[x,y] }) z TI TO .ellipsis:=Heap.get?_push_of_some _ z5
  refine wpAny_bind (wpAny_setField_rec z6 (by simp) fun h₇ z7 hs₇=>?_)
  replace z7:IsZip h₇ z TI TO (rawInt h₅.objs.size):=z7
  refine wpAny_setField_rec z7 (by simp) fun h₈ z8 hs₈=>?_
  replace z8:IsZip h₈ z TI TO (rawInt h₅.objs.size):=z8
  have up:∀ c o,c ≠ z→h₅.get? c=some o→h₈.get? c=some o:=fun c o c1 e=>hs₈.extBut _ _ c1 (hs₇.extBut _ _ c1 (Heap.get?_push_of_some _ e))
  have t8:IsPair h₈ h₅.objs.size x y:=hs₈.extBut _ _ (Nat.ne_of_gt lz) (hs₇.extBut _ _ (Nat.ne_of_gt lz) (Heap.get?_push_size _ rfl))
  rw [hsz] at z8 t8
  refine wpAny_pure ⟨_,rfl,?_⟩; show Q (.ref h₅.objs.size) _; rw [hsz]
  exact hQ h₈ z8 (up _ _ D.TOz t5) (R1.stay _ _ _ e1 fun c hc o e=>up c o (fun q=>D.z1 (q ▸ hc)) e) (R2.stay _ _ _ e2 fun c hc o e=>up c o (fun q=>D.z2 (q ▸ hc)) e) t8 fun c o c1 c2 c3 c4 e=>up c o c1 (k5 c o c1 c2 c3 c4 e)
theorem next_end {Q:Fin→Shared→Prop}(hh:A.handled=none) (R1:Src i1 f1 S1 n1) (R2:Src i2 f2 S2 n2) (D:Apart z TI TO i1 i2 f1 f2)
    (hz:IsZip s.heap z TI TO .none) (hTI:IsPair s.heap TI (.ref i1) (.ref i2)) (hTO:IsPair s.heap TO a b) (h1:S1 k1 s.heap) (h2:S2 k2 s.heap) (hend:n1 k1=none∨n2 k2=none)
    (hE:∀ h' e,(∀ c o,c ≠ z→c ≠ TO→c ≠ i1→c ≠ i2→s.heap.get? c=some o→h'.get? c=some o)→(∃ o,h'.get? e=some o∧o.cls = .type "StopIteration")→E (.ref e) { s with heap:=h' }) :
    wpAny (model prog w) A (Builtin.«zip.__next__» ⟨[.ref z],[]⟩) Q E s:=by
  show wpAny _ _ (field (.ref z) 2 >>= _) _ _ _; refine wpAny_bind (wpAny_field hz rfl (x:=.bool false) rfl ?_)
  show wpAny _ _ (field (.ref z) 3 >>= _) _ _ _; refine wpAny_bind (wpAny_field hz rfl (x:=.ref TI) rfl ?_); refine wpAny_bind (wpAny_seqItems hTI rfl ?_)
  show wpAny _ _ (Builtin.SmallTypes.ownedTupleIsFree (.ref z) >>= _) _ _ _; refine wpAny_bind ?_; unfold Builtin.SmallTypes.ownedTupleIsFree
  refine wpAny_bind (wpAny_field hz rfl (x:=.none) rfl (wpAny_pure ?_)); simp only [if_true]; refine wpAny_bind (wpAny_rule ?_)
  refine wpAny_bind (wpAny_field hz rfl (x:=.ref TO) rfl ?_); refine wpAny_bind (wpAny_setField_rec hz (by simp) fun h₁ hz₁ hs₁=>?_)
  replace hz₁:IsZip h₁ z TI TO .ellipsis:=hz₁
  refine wpAny_bind ?_; simp only [List.zipIdx_cons,List.zipIdx_nil,List.forIn_cons,List.forIn_nil]
  refine wpAny_bind (wpAny_bind (wpAny_onRaise ?_)); show wpAny _ _ (Builtin.SmallTypes.nextOf (.ref i1) >>= _) _ _ _
  cases hx:n1 k1 with
  | none =>
    refine wpAny_bind (R1.fin hh (R1.but h1 hs₁.extBut D.z1) hx fun h₂ e hs₂ he=>?_)
    obtain ⟨oe,hoe,hce⟩:=he
    have hz₂:IsZip h₂ z TI TO .ellipsis:=hs₂ _ _ D.i1z.symm hz₁
    have hez:e ≠ z:=fun x=>by subst x; rw [hz₂] at hoe; cases hoe; simp at hce
    exact wpAny_setField_rec hz₂ (by simp) fun h₃ _ hs₃=>hE h₃ e (fun c o c1 _ c3 _ x=>hs₃.extBut _ _ c1 (hs₂ _ _ c3 (hs₁.extBut _ _ c1 x))) ⟨oe,hs₃.extBut _ _ hez hoe,hce⟩
  | some x =>
    have hy:n2 k2=none:=by
      rcases hend with h | h
      · rw [hx] at h; cases h
      · exact h
    refine wpAny_bind (R1.item (R1.but h1 hs₁.extBut D.z1) hx fun h₂ g1 hs₂=>wpAny_pure ?_)
    have t2:IsPair h₂ TO a b:=hs₂.extBut _ _ D.TOi1 (hs₁.extBut _ _ D.TOz hTO)
    refine wpAny_bind (wpAny_seqItems t2 rfl ?_); refine wpAny_bind (wpAny_updateSeq_pair t2 fun h₃ t3 hs₃=>?_)
    refine wpAny_bind (wpAny_letGo (wpAny_pure ?_)); refine wpAny_bind (wpAny_bind (wpAny_onRaise ?_)); show wpAny _ _ (Builtin.SmallTypes.nextOf (.ref i2) >>= _) _ _ _
    refine wpAny_bind (R2.fin hh (R2.but (R2.but (R2.but h2 hs₁.extBut D.z2) hs₂.extBut D.c12) hs₃.extBut D.o2) hy fun h₄ e hs₄ he=>?_)
    obtain ⟨oe,hoe,hce⟩:=he
    have hz₄:IsZip h₄ z TI TO .ellipsis:=hs₄ _ _ D.i2z.symm (hs₃.extBut _ _ D.TOz.symm (hs₂.extBut _ _ D.i1z.symm hz₁))
    have hez:e ≠ z:=fun x=>by subst x; rw [hz₄] at hoe; cases hoe; simp at hce
    exact wpAny_setField_rec hz₄ (by simp) fun h₅ _ hs₅=>hE h₅ e (fun c o c1 c2 c3 c4 x=>hs₅.extBut _ _ c1 (hs₄ _ _ c4 (hs₃.extBut _ _ c2 (hs₂.extBut _ _ c3 (hs₁.extBut _ _ c1 x))))) ⟨oe,hs₅.extBut _ _ hez hoe,hce⟩
theorem py_item {x y:Value}{Q:Option Value→Shared→Prop}(R1:Src i1 f1 S1 n1) (R2:Src i2 f2 S2 n2) (D:Apart z TI TO i1 i2 f1 f2)
    (hz:IsZip s.heap z TI TO .none) (hTI:IsPair s.heap TI (.ref i1) (.ref i2)) (hTO:IsPair s.heap TO a b) (h1:S1 k1 s.heap) (h2:S2 k2 s.heap) (hx:n1 k1=some x) (hy:n2 k2=some y)
    (hQ:∀ h',IsZip h' z TI TO (rawInt s.heap.objs.size)→IsPair h' TO x y→S1 (k1 + 1) h'→S2 (k2 + 1) h'→IsPair h' s.heap.objs.size x y →
      (∀ c o,c ≠ z→c ≠ TO→c ≠ i1→c ≠ i2→s.heap.get? c=some o→h'.get? c=some o)→Q (some (.ref s.heap.objs.size)) { s with heap:=h' }) :
    wpAny (model prog w) A (pyNext (.ref z)) Q E s:=by
  have hT:s.TypeIs (.ref z) "zip":=⟨_,hz,rfl⟩
  unfold pyNext
  exact wpAny_bind (wpAny_attempt (wpAny_callSpecial?_slot (name:=Str.ofString "__next__") hT F.slot_zip_next (wpAny_call_entry F.slot_zip_next hT F.entry_zip_next
      (next_item R1 R2 D hz hTI hTO h1 h2 hx hy fun h' a1 a2 a3 a4 a5 a7=>wpAny_pure (hQ h' a1 a2 a3 a4 a5 a7)) (F.args_zip_next_1 _))))
theorem py_end {Q:Option Value→Shared→Prop}(hh:A.handled=none) (R1:Src i1 f1 S1 n1) (R2:Src i2 f2 S2 n2) (D:Apart z TI TO i1 i2 f1 f2)
    (hz:IsZip s.heap z TI TO .none) (hTI:IsPair s.heap TI (.ref i1) (.ref i2)) (hTO:IsPair s.heap TO a b) (h1:S1 k1 s.heap) (h2:S2 k2 s.heap) (hend:n1 k1=none∨n2 k2=none)
    (hQ:∀ h',(∀ c o,c ≠ z→c ≠ TO→c ≠ i1→c ≠ i2→s.heap.get? c=some o→h'.get? c=some o)→Q none { s with heap:=h' }):wpAny (model prog w) A (pyNext (.ref z)) Q E s:=by
  have hT:s.TypeIs (.ref z) "zip":=⟨_,hz,rfl⟩
  unfold pyNext
  refine wpAny_bind (wpAny_attempt (wpAny_callSpecial?_slot (name:=Str.ofString "__next__") hT F.slot_zip_next
    (wpAny_call_entry F.slot_zip_next hT F.entry_zip_next (next_end hh R1 R2 D hz hTI hTO h1 h2 hend fun h' e hk he=>?_) (F.args_zip_next_1 _))))
  obtain ⟨o,ho,hc⟩:=he
  exact wpAny_bind (wpAny_isInstance (T:="StopIteration") (b:=true) ⟨o,ho,hc⟩ isSubtype_stop (wpAny_pure (hQ _ hk)))
end
noncomputable abbrev g1 (h:Heap) (l1:Addr):Heap:=h.push { cls:=.type "tuple_iterator",data:=.fields #[.ref l1,.int 0 0] }
noncomputable abbrev g2 (h:Heap) (l1 l2:Addr):Heap:=(g1 h l1).push { cls:=.type "tuple_iterator",data:=.fields #[.ref l2,.int 0 0] }
noncomputable abbrev g3 (h:Heap) (l1 l2:Addr):Heap:=(g2 h l1 l2).push { cls:=.type "tuple",data:=.seq #[.ref h.objs.size,.ref (g1 h l1).objs.size] }
noncomputable abbrev g4 (h:Heap) (l1 l2:Addr):Heap:=(g3 h l1 l2).push { cls:=.type "tuple",data:=.seq #[.none,.none] }
noncomputable abbrev g5 (h:Heap) (l1 l2:Addr):Heap:=(g4 h l1 l2).push { cls:=.type "zip",data:=.fields #[.none,.bool false,.bool false,.ref (g2 h l1 l2).objs.size,.ref (g3 h l1 l2).objs.size] }
theorem meets_new (l1 l2:Addr) (xs ys:Array Value) :
    Meets (Builtin.«zip.__new__» ⟨[.type "zip",.ref l1,.ref l2],[]⟩) (fun _ R s=>s.heap.IsTuple l1 xs∧s.heap.IsTuple l2 ys ∧
      R (.ok (.ret (.ref (g4 s.heap l1 l2).objs.size))) { s with heap:=g5 s.heap l1 l2 }) :=
  .of_wp fun prog w A R s h=>by
    obtain ⟨hp,g,d,tk,os⟩:=s; obtain ⟨hl1,hl2,h⟩:=h
    have hsub:=sub_zip
    have hL1:Heap.IsTuple (Shared.heap ⟨hp,g,d,tk,os⟩) l1 xs:=hl1
    have hL2:Heap.IsTuple (Shared.heap ⟨hp.push { cls:=.type "tuple_iterator",data:=.fields #[.ref l1,.int 0 0] },g,d,tk,os⟩) l2 ys:=Heap.IsTuple.push hl2 _
    wp_walk using wpAny_pyIter_tuple hL1,wpAny_pyIter_tuple hL2
    exact ⟨_,rfl,h⟩
theorem call_zip {prog:Program}{w:World}{A:Around}{E:Value→Shared→Prop}{s:Shared}{l1 l2:Addr}{xs ys:Array Value}{Q:Value→Shared→Prop}(hl1:s.heap.IsTuple l1 xs) (hl2:s.heap.IsTuple l2 ys)
    (h:∀ h',IsZip h' (s.heap.objs.size + 4) (s.heap.objs.size + 2) (s.heap.objs.size + 3) .none→IsPair h' (s.heap.objs.size + 2) (.ref s.heap.objs.size) (.ref (s.heap.objs.size + 1)) →
      IsPair h' (s.heap.objs.size + 3) .none .none→h'.IsTupleIter s.heap.objs.size l1 0→h'.IsTupleIter (s.heap.objs.size + 1) l2 0 →
      (∀ c o,s.heap.get? c=some o→h'.get? c=some o)→Q (.ref (s.heap.objs.size + 4)) { s with heap:=h' }) :
    wpAny (model prog w) A (call (.type "zip") [.ref l1,.ref l2]) Q E s:=by
  refine callType_new F.called_zip (by decide) (F.typeCall_zip_2 _ _) (F.newCall_zip_2 _ _) (fun obj=>F.args_object_init_3 obj _ _) F.entry_zip_new (meets_new l1 l2 xs ys) ⟨hl1,hl2,?_⟩
  have z1:(g1 s.heap l1).objs.size=s.heap.objs.size + 1:=Heap.size_push ..
  have z2:(g2 s.heap l1 l2).objs.size=s.heap.objs.size + 2:=by rw [Heap.size_push,z1]
  have z3:(g3 s.heap l1 l2).objs.size=s.heap.objs.size + 3:=by rw [Heap.size_push,z2]
  have z4:(g4 s.heap l1 l2).objs.size=s.heap.objs.size + 4:=by rw [Heap.size_push,z3]
  have q5:(g5 s.heap l1 l2).get? (g4 s.heap l1 l2).objs.size=some _:=Heap.get?_push_size _ rfl
  have q4:(g5 s.heap l1 l2).get? (g3 s.heap l1 l2).objs.size=some _:=Heap.get?_push_of_some _ (Heap.get?_push_size _ rfl)
  have q3:(g5 s.heap l1 l2).get? (g2 s.heap l1 l2).objs.size=some _:=Heap.get?_push_of_some _ (Heap.get?_push_of_some _ (Heap.get?_push_size _ rfl))
  have q2:(g5 s.heap l1 l2).get? (g1 s.heap l1).objs.size=some _:=Heap.get?_push_of_some _ (Heap.get?_push_of_some _ (Heap.get?_push_of_some _ (Heap.get?_push_size _ rfl)))
  have q1:(g5 s.heap l1 l2).get? s.heap.objs.size=some _:=Heap.get?_push_of_some _ (Heap.get?_push_of_some _ (Heap.get?_push_of_some _ (Heap.get?_push_of_some _ (Heap.get?_push_size _ rfl))))
  show _∧_
  rw [z2,z3,z4] at q5; rw [z1,z2] at q3; rw [z3] at q4; rw [z1] at q2; rw [z4]
  exact ⟨⟨_,q5,rfl⟩,h _ q5 q3 q4 ⟨_,q1,rfl,rfl⟩ ⟨_,q2,rfl,rfl⟩ fun c o x =>
    Heap.get?_push_of_some _ (Heap.get?_push_of_some _ (Heap.get?_push_of_some _ (Heap.get?_push_of_some _ (Heap.get?_push_of_some _ x))))⟩
end Zt
namespace L2
open PySem PySem.Spec PyProof.Rows
theorem Inv.spun {X:Cx}{pins:List (Addr×Obj)}{σ:St}{H:Hp}{s:Shared}{h':Heap}{t':Nat}{ch:List Addr}(I:Inv X pins σ H s) (hch:∀ b ∈ ch,FpOk X pins H b)
    (k:∀ b o,b ∉ ch→s.heap.get? b=some o→h'.get? b=some o):Inv X pins σ H { s with heap:=h',toks:=t' }:=by
  have nit:∀ b u,H b=some u→b ∉ ch:=fun b u e z=>by rw [(hch b z).1] at e; cases e
  refine I.step (g':=s.gens) (d':=s.drawn) (ch:=ch) (fun b hb=>?_) (fun b o _ _ hc e _=>k b o hc e) (fun b o _ _ hc e _=>⟨o.slots,k b o hc e⟩) (fun _ _ _ _ n=>n)
    (fun b o hc e=>⟨o,k b o hc e⟩) (fun _ _ e=>e) (fun _ _ _ e=>e) (fun b ps e=>⟨#[],by rw [e]; simp⟩) (fun m hm=>?_) (fun b u e=>?_) I.bare
  · obtain ⟨f0,f1,f2,f3,f4,f5⟩:=hch b hb
    exact ⟨f3,f1,f4,f5⟩
  · obtain ⟨o,es,ep,ho,r⟩:=hm
    exact ⟨o,es,ep,k _ o (fun z=>(hch _ z).2.1 rfl) ho,r⟩
  · refine (I.hok b u e).stay (fun c v hc q=>k c v ?_ q) (fun _ q=>q) fun _ _ q=>q
    rcases hc with z | z
    · rw [z]; exact nit b u e
    · exact nit c _ z
theorem Inv.track {X:Cx}{pins:List (Addr×Obj)}{σ:St}{H:Hp}{s s1:Shared}{a:Addr}{o:HO}(I:Inv X pins σ H s) (J:Inv X pins σ H s1) (ha:s.heap.objs.size ≤ a) (new:ObjOk X.prog X.w (upd H a o) s1.heap a o) :
    Inv X pins σ (upd H a o) s1:=by
  have hn:H a=none:=I.hok.fresh ha
  have ne:∀ b u,s.heap.get? b=some u→b ≠ a:=fun b u e=>Nat.ne_of_lt (Nat.lt_of_lt_of_le (Heap.lt_size e) ha)
  have h0:X.s₀.heap.objs.size ≤ a:=Nat.le_trans I.sz ha
  have ne0:∀ b u,X.s₀.heap.get? b=some u→b ≠ a:=fun b u e=>Nat.ne_of_lt (Nat.lt_of_lt_of_le (Heap.lt_size e) h0)
  refine ⟨J.ok,J.os,J.bare,⟨J.base.keep,J.base.slot,fun b u e n hx=>?_,J.base.there,fun b xs e=>?_,fun b u v e=>?_,fun b ps e=>?_⟩,J.loc,J.cell,?_,fun x c e=>?_,fun p hp=>?_,fun b u e=>?_,J.len⟩
  · rw [upd_ne (ne0 b u e)]; exact J.base.free b u e n hx
  · have q:=J.base.tups b xs e
    rw [upd_ne (ne_of_none q hn)]; exact q
  · have q:=J.base.frzs b u v e
    rw [upd_ne (ne_of_none q hn)]; exact q
  · obtain ⟨m,q⟩:=J.base.tbls b ps e
    exact ⟨m,by rw [upd_ne (ne_of_none q hn)]; exact q⟩
  · obtain ⟨m,⟨ob,_,_,e,_⟩,_⟩:=I.loc
    rw [upd_ne (ne _ _ e)]; exact J.free
  · obtain ⟨v,ob,e1,_⟩:=I.cell x c e
    rw [upd_ne (ne _ _ e1)]; exact J.freeC x c e
  · obtain ⟨q1,q2,q3,q4,q5⟩:=J.pin p hp
    exact ⟨q1,by rw [upd_ne (ne _ _ (I.pin p hp).1)]; exact q2,q3,q4,q5⟩
  · by_cases hb:b=a
    · subst hb; rw [upd_same] at e; cases e; exact new
    · rw [upd_ne hb] at e
      exact (J.hok b u e).stay (fun c v _ q=>q) (fun c q=>by rw [upd_ne (ne_of_none q hn)]; exact q) fun c xs q=>by rw [upd_ne (ne_of_none q hn)]; exact q
noncomputable def Itz (K:PySem.W.Frag) (a b:Addr):It :=
  ⟨fun i H=>∃ xs ys x y,SqT K H a xs∧SqT K H b ys∧xs[i]? = some x∧ys[i]? = some y,
   fun i H v H'=>∃ p x y,H p=none∧(∀ xs,SqT K H a xs→xs[i]? = some x)∧(∀ ys,SqT K H b ys→ys[i]? = some y)∧v = .ref p∧H'=upd H p (.tup [x,y]),
   fun i H=>∃ xs ys,SqT K H a xs∧SqT K H b ys∧(xs.length ≤ i∨ys.length ≤ i)⟩
theorem turn_zip {P:Program}{w:World}{K:PySem.W.Frag}{es:List Expr}{k:Nat}{ps:Pos}{z TI TO i1 i2 a b:Addr}
    (na:a ≠ i1) (nb:b ≠ i2) (D:Zt.Apart z TI TO i1 i2 [i1,a] [i2,b]) :
    Turn P w K (.Tuple es k ps) (Itz K a b) [z,TI,TO,i1,i2] z (fun n h=>IsZip h z TI TO .none∧IsPair h TI (.ref i1) (.ref i2)∧(∃ u v,IsPair h TO u v)∧h.IsTupleIter i1 a n∧h.IsTupleIter i2 b n) where
  mem:=by simp
  obj:=by
    rintro n h ⟨hz,hTI,⟨u,v,hTO⟩,⟨o1,e1,c1,d1⟩,⟨o2,e2,c2,d2⟩⟩ c hc
    simp only [List.mem_cons,List.not_mem_nil,or_false] at hc
    rcases hc with rfl | rfl | rfl | rfl | rfl
    · exact ⟨_,hz,fun v q=>nomatch q⟩
    · exact ⟨_,hTI,fun v q=>nomatch q⟩
    · exact ⟨_,hTO,fun v q=>nomatch q⟩
    · exact ⟨o1,e1,fun v q=>by rw [d1] at q; cases q⟩
    · exact ⟨o2,e2,fun v q=>by rw [d2] at q; cases q⟩
  keep:=by
    rintro n h h' ⟨hz,hTI,⟨u,v,hTO⟩,⟨o1,e1,r1⟩,⟨o2,e2,r2⟩⟩ kp
    exact ⟨kp z (by simp) _ hz,kp TI (by simp) _ hTI,⟨u,v,kp TO (by simp) _ hTO⟩,⟨o1,kp i1 (by simp) _ e1,r1⟩,⟨o2,kp i2 (by simp) _ e2,r2⟩⟩
  item:=by
    intro X hP hw hK hc i pins s σ H E I hf st hg
    subst hP hw hK
    obtain ⟨hz,hTI,⟨u,v,hTO⟩,hi1,hi2⟩:=st
    obtain ⟨xs,ys,x,y,qx,qy,hx,hy⟩:=hg
    obtain ⟨us,rx,px,zx⟩:=I.tuple qx
    obtain ⟨ws,ry,py,zy⟩:=I.tuple qy
    obtain ⟨ux,hux,rux⟩:=rx.get hx
    obtain ⟨uy,huy,ruy⟩:=ry.get hy
    refine Zt.py_item (Zt.srcT i1 a na us.toArray) (Zt.srcT i2 b nb ws.toArray) D hz hTI hTO ⟨hi1,px⟩ ⟨hi2,py⟩ (x:=ux) (y:=uy) (by simpa using hux) (by simpa using huy) fun h' z1 t1 s1 s2 t2 kp=>⟨_,rfl,?_⟩
    refine wpAny_letOwnedTupleGo_zip (s:={ s with heap:=h' }) z1 fun h'' z2 sb=>?_
    have kp2:∀ c o,c ∉ [z,TI,TO,i1,i2]→s.heap.get? c=some o→h''.get? c=some o:=fun c o hc e=>by
      simp only [List.mem_cons,List.not_mem_nil,or_false,not_or] at hc
      exact sb.extBut _ _ hc.1 (kp c o hc.1 hc.2.2.1 hc.2.2.2.1 hc.2.2.2.2 e)
    have nz:s.heap.objs.size ≠ z:=Nat.ne_of_gt (Heap.lt_size hz)
    have J:Inv X pins σ H { s with heap:=h'' }:=I.spun (t':=s.toks) hf kp2
    have t3:IsPair h'' s.heap.objs.size ux uy:=sb.extBut _ _ nz t2
    refine ⟨.ref s.heap.objs.size,upd H s.heap.objs.size (.tup [x,y]),I.track J (Nat.le_refl _) ⟨by show 2 ≤ sizeLine; decide,[ux,uy],.cons rux (.cons ruy .nil),⟨_,t3,rfl,_,rfl⟩⟩,rfl,⟨_,x,y,I.hok.fresh (Nat.le_refl _),fun zs h=>?_,fun zs h=>?_,rfl,rfl⟩,?_,fun c hc=>?_⟩
    · rw [I.tuple_inj h qx]; exact hx
    · rw [I.tuple_inj h qy]; exact hy
    · exact ⟨z2,sb.extBut _ _ D.TIz (kp TI _ D.TIz D.TITO D.TIi1 D.TIi2 hTI),⟨ux,uy,sb.extBut _ _ D.TOz t1⟩,s1.1.extBut sb.extBut D.i1z,s2.1.extBut sb.extBut D.i2z⟩
    · have e:c ≠ s.heap.objs.size:=by
        simp only [List.mem_cons,List.not_mem_nil,or_false] at hc
        obtain ⟨o1,e1,_⟩:=hi1; obtain ⟨o2,e2,_⟩:=hi2
        rcases hc with rfl | rfl | rfl | rfl | rfl
        · exact Nat.ne_of_lt (Heap.lt_size hz)
        · exact Nat.ne_of_lt (Heap.lt_size hTI)
        · exact Nat.ne_of_lt (Heap.lt_size hTO)
        · exact Nat.ne_of_lt (Heap.lt_size e1)
        · exact Nat.ne_of_lt (Heap.lt_size e2)
      rw [upd_ne e]; exact (hf c hc).1
  done:=by
    intro X hP hw hK hc i pins s σ H E I hf st hg
    subst hP hw hK
    obtain ⟨hz,hTI,⟨u,v,hTO⟩,hi1,hi2⟩:=st
    obtain ⟨xs,ys,qx,qy,hend⟩:=hg
    obtain ⟨us,rx,px,zx⟩:=I.tuple qx
    obtain ⟨ws,ry,py,zy⟩:=I.tuple qy
    have lx:=rx.length
    have ly:=ry.length
    refine Zt.py_end (I.ok.hd hc) (Zt.srcT i1 a na us.toArray) (Zt.srcT i2 b nb ws.toArray) D hz hTI hTO ⟨hi1,px⟩ ⟨hi2,py⟩ (k1:=i) (k2:=i) (hend.imp (fun h=>by simp; omega) (fun h=>by simp; omega)) fun h' kp=>⟨rfl,?_⟩
    refine I.spun (t':=s.toks) hf fun c o hc e=>?_
    simp only [List.mem_cons,List.not_mem_nil,or_false,not_or] at hc
    exact kp c o hc.1 hc.2.2.1 hc.2.2.2.1 hc.2.2.2.2 e
  self:=by
    rintro A n s Q E ⟨hz,_⟩ h
    exact wpAny_pyIter_zip hz h
noncomputable def clsOf (cells:List (Str×Addr)):List (Str×NameKind)→List (Str×Addr)→Option (List (Str×Addr))
  | [],acc=>some acc
  | (n,k) :: r,acc=>if (k == .free)=true then (match cells.lookup n with | some a=>clsOf cells r ((n,a) :: acc) | none=>none) else clsOf cells r acc
theorem clsOf_loop {env:Env}:∀ (ns:List (Str×NameKind)) (acc cl:List (Str×Addr)),clsOf env.cells ns acc=some cl →
    (forIn ns acc fun (x:Str×NameKind) (cs:List (Str×Addr))=>(if (x.2 == .free)=true then (do let a ← cellOf env x.1; pure (ForInStep.yield ((x.1,a) :: cs))) else pure (ForInStep.yield cs):Sem _))=pure cl
  | [],acc,cl,h=>by
    simp only [clsOf,Option.some.injEq] at h
    subst h; rfl
  | (n, k) :: r,acc,cl,h=>by
    rw [List.forIn_cons]
    unfold clsOf at h
    by_cases hk:(k == NameKind.free)=true
    · rw [if_pos hk] at h
      simp only [hk,if_true]
      cases e:env.cells.lookup n with
      | none=>rw [e] at h; cases h
      | some a =>
        rw [e] at h
        have ih:=clsOf_loop r ((n,a) :: acc) cl h
        simp only [cellOf,e,pure_bind]
        exact ih
    · rw [if_neg hk] at h
      simp only [hk,if_false,pure_bind]
      exact clsOf_loop r acc cl h
theorem closure_of {env:Env}{sc:Scope}{cl:List (Str×Addr)}(h:clsOf env.cells sc.names []=some cl):closureFor sc env=pure cl:=by
  have e:=clsOf_loop (env:=env) sc.names [] cl h
  unfold closureFor
  have e2:=congrArg (fun m:Sem (List (Str×Addr))=>m >>= fun r=>(pure r:Sem (List (Str×Addr)))) e
  simp only [pure_bind] at e2
  refine Eq.trans ?_ e2
  rfl
theorem clsOf_sub {cells:List (Str×Addr)}:∀ (ns:List (Str×NameKind)) (acc cl:List (Str×Addr)),clsOf cells ns acc=some cl→(∀ x c,acc.lookup x=some c→cells.lookup x=some c)→∀ x c,cl.lookup x=some c→cells.lookup x=some c
  | [],acc,cl,h,ha=>by
    simp only [clsOf,Option.some.injEq] at h
    subst h; exact ha
  | (n, k) :: r,acc,cl,h,ha=>by
    unfold clsOf at h
    by_cases hk:(k == NameKind.free)=true
    · rw [if_pos hk] at h
      cases e:cells.lookup n with
      | none=>rw [e] at h; cases h
      | some a =>
        rw [e] at h
        refine clsOf_sub r ((n,a) :: acc) cl h fun x c q=>?_
        rw [List.lookup_cons] at q
        cases hx:x == n with
        | true =>
          rw [hx] at q
          have e':x=n:=by simpa using hx
          subst e'
          cases q; exact e
        | false=>rw [hx] at q; exact ha x c q
    · rw [if_neg hk] at h
      exact clsOf_sub r acc cl h ha
theorem clsOf_has {cells:List (Str×Addr)}:∀ (ns:List (Str×NameKind)) (acc cl:List (Str×Addr)),clsOf cells ns acc=some cl→(∀ x,(∃ c,acc.lookup x=some c)→∃ c,cl.lookup x=some c)∧∀ y ∈ ns,y.2 = .free→∃ c,cl.lookup y.1=some c
  | [],acc,cl,h=>by
    simp only [clsOf,Option.some.injEq] at h
    subst h; exact ⟨fun x q=>q,fun y hy=>by simp at hy⟩
  | (n, k) :: r,acc,cl,h=>by
    unfold clsOf at h
    by_cases hk:(k == NameKind.free)=true
    · rw [if_pos hk] at h
      cases e:cells.lookup n with
      | none=>rw [e] at h; cases h
      | some a =>
        rw [e] at h
        obtain ⟨h1,h2⟩:=clsOf_has r ((n,a) :: acc) cl h
        have up:∀ x,(∃ c,acc.lookup x=some c)→∃ c,((n,a) :: acc).lookup x=some c:=fun x ⟨c,q⟩=>by
          rw [List.lookup_cons]
          cases hx:x == n with
          | true=>exact ⟨a,rfl⟩
          | false=>exact ⟨c,q⟩
        refine ⟨fun x q=>h1 x (up x q),fun y hy hf=>?_⟩
        rcases List.mem_cons.mp hy with rfl | hy
        · exact h1 n ⟨a,by simp [List.lookup_cons]⟩
        · exact h2 y hy hf
    · rw [if_neg hk] at h
      obtain ⟨h1,h2⟩:=clsOf_has r acc cl h
      refine ⟨h1,fun y hy hf=>?_⟩
      rcases List.mem_cons.mp hy with rfl | hy
      · exact absurd (show (k == NameKind.free)=true by have:k = .free:=hf; subst this; rfl) hk
      · exact h2 y hy hf
theorem relabel_free {env:Env}:∀ {names:List (Str×NameKind)}{x:Str},names.lookup x=some .free →
    (names.map fun (n,k)=>if (k == NameKind.free && env.scope.kind == .function && env.kindOf n == some .cell) then (n,NameKind.cell) else (n,k)).lookup x=some .cell ∨
    (names.map fun (n,k)=>if (k == NameKind.free && env.scope.kind == .function && env.kindOf n == some .cell) then (n,NameKind.cell) else (n,k)).lookup x=some .free
  | [],_,h=>by simp at h
  | (n, k) :: r,x,h=>by
    have ih:=@relabel_free env r x
    rw [List.map_cons]
    dsimp only
    cases hx:x == n with
    | true =>
      simp only [List.lookup_cons,hx] at h
      cases h
      by_cases hc:(NameKind.free == NameKind.free && env.scope.kind == .function && env.kindOf n == some .cell)=true
      · refine .inl ?_
        rw [if_pos hc,List.lookup_cons,hx]
      · refine .inr ?_
        rw [if_neg hc,List.lookup_cons,hx]
    | false =>
      simp only [List.lookup_cons,hx] at h
      by_cases hc:(k == NameKind.free && env.scope.kind == .function && env.kindOf n == some .cell)=true
      · rw [if_pos hc]; simp only [List.lookup_cons,hx]; exact ih h
      · rw [if_neg hc]; simp only [List.lookup_cons,hx]; exact ih h
theorem relabel_back {env:Env}:∀ {names:List (Str×NameKind)}{x:Str}{kd:NameKind},(kd = .cell∨kd = .free) →
    (names.map fun (n,k)=>if (k == NameKind.free && env.scope.kind == .function && env.kindOf n == some .cell) then (n,NameKind.cell) else (n,k)).lookup x=some kd→∃ y ∈ names,y.1=x∧(y.2 = .free∨y.2 = .cell)
  | [],_,_,_,h=>by simp at h
  | (n, k) :: r,x,kd,hkd,h=>by
    have ih:=@relabel_back env r x kd hkd
    rw [List.map_cons] at h
    dsimp only at h
    cases hx:x == n with
    | true =>
      have e:x=n:=by simpa using hx
      subst e
      refine ⟨(x,k),by simp,rfl,?_⟩
      by_cases hc:(k == NameKind.free && env.scope.kind == .function && env.kindOf x == some .cell)=true
      · refine .inl ?_
        simp only [Bool.and_eq_true] at hc
        simpa using hc.1.1
      · rw [if_neg hc] at h
        simp only [List.lookup_cons,beq_self_eq_true,Option.some.injEq] at h
        subst h
        exact hkd.symm
    | false =>
      have h':(r.map fun (n,k)=>if (k == NameKind.free && env.scope.kind == .function && env.kindOf n == some .cell) then (n,NameKind.cell) else (n,k)).lookup x=some kd:=by
        by_cases hc:(k == NameKind.free && env.scope.kind == .function && env.kindOf n == some .cell)=true
        · rw [if_pos hc] at h; simp only [List.lookup_cons,hx] at h; exact h
        · rw [if_neg hc] at h; simp only [List.lookup_cons,hx] at h; exact h
      obtain ⟨y,hy,q⟩:=ih h'
      exact ⟨y,List.mem_cons_of_mem _ hy,q⟩
noncomputable def cxC (X:Cx) (sc:Scope) (cl:List (Str×Addr)) (NC:List Str) (fp:List Addr) (s:Shared) (H:Hp):Cx where
  prog:=X.prog
  w:=X.w
  K:=X.K
  mg:=X.mg
  base:=X.base
  A:=X.A
  N:=NC
  s₀:=s
  H₀:=H
  env:=compEnvC sc cl s.heap.objs.size X.env
  outer:=X.stack
  stack:=X.stack
  ex:=fp
  fn:=fun _=>false
  calm:=X.calm
  pn:=[]
  xe:=fun _ _=>False
noncomputable def OutOk (X:Cx) (sc:Scope):List Str→List (Option Nat)→Prop
  | x :: xs,o :: os=>(match o with | none=>True | some j=>X.N[j]? = some x∧sc.names.lookup x=some .free∧(X.env.scope.names.lookup x=some .cell∨X.env.scope.names.lookup x=some .free))∧OutOk X sc xs os
  | _,_=>True
theorem OutOk.at {X:Cx}{sc:Scope}:∀ {NC:List Str}{fr:List (Option Nat)},OutOk X sc NC fr→∀ (i:Nat) (x:Str) (j:Nat),NC[i]? = some x→fr[i]? = some (some j) →
    X.N[j]? = some x∧sc.names.lookup x=some .free∧(X.env.scope.names.lookup x=some .cell∨X.env.scope.names.lookup x=some .free)
  | [],_,_,i,x,j,h1,_=>by simp at h1
  | _ :: _,[],_,i,x,j,_,h2=>by simp at h2
  | y :: ys,o :: os,h,0,x,j,h1,h2=>by
    simp only [List.getElem?_cons_zero,Option.some.injEq] at h1 h2
    subst h1 h2
    exact h.1
  | y :: ys,o :: os,h,i + 1,x,j,h1,h2=>OutOk.at h.2 i x j (by simpa using h1) (by simpa using h2)
structure Blk (X:Cx) (sc:Scope) (cl:List (Str×Addr)) (NC:List Str) (fr:List (Option Nat)):Prop where
  kind:sc.kind = .function
  cls:clsOf X.env.cells sc.names []=some cl
  nocell:∀ y ∈ sc.names,y.2 ≠ .cell
  names:∀ y ∈ sc.names,y.2 = .local→sc.names.lookup y.1=some .local
  len:fr.length=NC.length
  out:OutOk X sc NC fr
noncomputable def stC (fr:List (Option Nat)) (σ:St):St:=fr.map fun o=>o.bind fun j=>(σ[j]?).join
theorem blk_start {X:Cx}{sc:Scope}{cl:List (Str×Addr)}{NC:List Str}{fr:List (Option Nat)}{pins:List (Addr×Obj)}{σ:St}{H:Hp}{s s4:Shared}{fp:List Addr}(B:Blk X sc cl NC fr)
    (I:Inv X pins σ H s) (hf:∀ b ∈ fp,FpOk X pins H b) (hlt:∀ b ∈ fp,b < s.heap.objs.size) (hns:∃ m,s4.heap.Ns s.heap.objs.size m) (hk:∀ b o,s.heap.get? b=some o→s4.heap.get? b=some o) (hos:s4.os=s.os) (hg:s4.gens=s.gens) :
    Inv (cxC X sc cl NC fp s H) [] (stC fr σ) H s4:=by
  have sub:=clsOf_sub sc.names [] cl B.cls (fun x c q=>by simp at q)
  have has:=(clsOf_has sc.names [] cl B.cls).2
  have nloc:∀ x c,cl.lookup x=some c→c < s.heap.objs.size:=fun x c e=>by
    obtain ⟨v,o,q,_⟩:=I.cell x c (sub x c e)
    exact Heap.lt_size q
  refine ⟨⟨I.ok.mod,B.kind,I.ok.glob,I.ok.blt,Nat.le_refl _,fun x y c h1 h2=>I.ok.inj x y c (sub x c h1) (sub y c h2),fun x hx=>?_,fun x c hx _=>(nomatch hx),I.ok.hd,I.ok.frames,.inl rfl,fun b hb=>⟨?_,fun x c e=>?_⟩,I.bs,Nat.le_trans I.ok.bsz I.sz,fun b o e hb=>?_,fun b hb=>?_,I.stack,I.stkFree⟩,
    hos,by rw [hg]; exact I.bare,Un.kept hk,?_,fun x c e=>?_,I.hok.fresh (Nat.le_refl _),fun x c e=>I.freeC x c (sub x c e),fun p hp=>absurd (show p ∈ ([]:List (Addr×Obj)) from hp) (by simp),I.hok.kept hk,?_⟩
  · have h':∃ y ∈ sc.names,y.1=x∧(y.2 = .free∨y.2 = .cell):=by
      rcases hx with q | q
      · exact relabel_back (.inl rfl) q
      · exact relabel_back (.inr rfl) q
    obtain ⟨y,hy,rfl,q⟩:=h'
    rcases q with q | q
    · exact has y hy q
    · exact absurd q (B.nocell y hy)
  · exact Nat.ne_of_lt (hlt b hb)
  · intro z
    obtain ⟨f0,f1,f2,f3,f4,f5⟩:=hf b hb
    exact f4 x c (sub x c e) z
  · obtain ⟨f0,f1,f2,f3,f4,f5⟩:=hf b hb
    rcases f3 with q | q
    · exact I.ok.noex b o e q
    · exact absurd (Nat.lt_of_lt_of_le (Heap.lt_size e) I.ok.bsz) (Nat.not_lt.mpr q)
  · intro z
    obtain ⟨f0,f1,f2,f3,f4,f5⟩:=hf b hb
    rcases List.mem_cons.mp (I.stkSub b z) with q | q
    · exact f1 q
    · exact f2 q
  · obtain ⟨m,hm⟩:=hns
    refine ⟨m,hm,fun i x v h1 h2 h3=>?_⟩
    unfold stC at h2
    rw [List.getElem?_map] at h2
    cases e:fr[i]? with
    | none=>rw [e] at h2; cases h2
    | some oj =>
      rw [e] at h2
      cases oj with
      | none=>cases h2
      | some j =>
        have h2':(σ[j]?).join=some v:=Option.some.inj h2
        have h4:σ[j]? = some (some v):=by
          cases q:σ[j]? with
          | none=>rw [q] at h2'; cases h2'
          | some o=>rw [q] at h2'; exact congrArg some h2'
        obtain ⟨n1,n2,n3⟩:=B.out.at i x j h1 e
        obtain ⟨m0,hm0,hl⟩:=I.loc
        obtain ⟨u,r,l⟩:=hl j x v n1 h4 (n3.elim (fun q=>.inr (.inl q)) fun q=>.inr (.inr q))
        refine ⟨u,r,.inr ⟨relabel_free n2,?_⟩⟩
        rcases l with ⟨k1,_⟩ | ⟨_,c,c1,c2⟩
        · have k1':X.env.scope.names.lookup x=some .local:=k1
          rcases n3 with q | q <;> (rw [q] at k1'; cases k1')
        · obtain ⟨c',e'⟩:=has (x,.free) (PySem.mem_of_lookup n2) rfl
          have q:=sub x c' e'
          rw [c1] at q; cases q
          obtain ⟨o,ho,hd⟩:=c2
          exact ⟨c,e',o,hk _ _ ho,hd⟩
  · obtain ⟨v,o,q,d⟩:=I.cell x c (sub x c e)
    exact ⟨v,o,hk _ _ q,d⟩
  · show (stC fr σ).length=NC.length
    unfold stC
    rw [List.length_map]; exact B.len
theorem comp_turns {prog:Program}{w:World}{A:Around}{R:Result→Shared→Prop}{s:Shared}{elt target iter:Expr}{ifs:List Expr}{scope:Scope}{pos:Pos}{it acc:Value}{env:Env}(J:Nat→Shared→Prop)
    (turn : ∀ n s,J n s→wpAny (model prog w) A (pyNext it) (fun r s1=>match r with
      | none=>R (.ok .next) s1
      | some v=>wpAny (model prog w) A (letOwnedTupleGo target it v) (fun _ s2=>wpAny (model prog w) A (assign target env v) (fun _ s3 =>
          wpAny (model prog w) A (compTests ifs env) (fun ok s4=>if ok=true then wpAny (model prog w) A (eval elt env) (fun x s5 =>
              wpAny (model prog w) A (call (.builtin "list.append") [acc,x]) (fun _ s6=>∃ m,m < n∧J m s6) (fun _ _=>False) s5) (fun _ _=>False) s4
            else ∃ m,m < n∧J m s4) (fun _ _=>False) s3) (fun _ _=>False) s2) (fun _ _=>False) s1) (fun _ _=>False) s)
    (n:Nat) (h:J n s):codeAny (model prog w) A (.compLoop (.ListComp elt [⟨target,iter,ifs,0⟩] scope pos) 0 it acc env) R s:=by
  refine codeAny_loop rfl J (fun n s hJ=>?_) n h
  show wpAny _ A ((compTurn (.ListComp elt [⟨target,iter,ifs,0⟩] scope pos) 0 it acc env).onRaise (fun x=>do noteFrame x env; theTreesLotGoes x)) _ _ s
  refine wpAny_noted ?_
  have wk:∀ {α:Type}{t:Sem α}{Q Q':α→Shared→Prop}{E:Value→Shared→Prop}{s:Shared},wpAny (model prog w) A t Q (fun _ _=>False) s→(∀ a s,Q a s→Q' a s)→wpAny (model prog w) A t Q' E s:=fun h q=>wpAny_mono h q fun _ _ f=>f.elim
  rw [compTurn_list]
  refine wpAny_bind (wpAny_standAt (wpAny_bind (wk (turn n s hJ) fun r s1 h1=>?_)))
  cases r with
  | none=>exact wpAny_pure h1
  | some v =>
    refine wpAny_bind (wk h1 fun _ s2 h2=>wpAny_bind (wk h2 fun _ s3 h3=>?_))
    have h3':wpAny (model prog w) A (forIn ifs true fun c r=>if r=true then do let ok ← isTrue c env (eval c env); pure (ForInStep.yield ok) else pure (ForInStep.yield r)) (fun ok s4=>if ok=true then wpAny (model prog w) A (eval elt env) (fun x s5 =>
              wpAny (model prog w) A (call (.builtin "list.append") [acc,x]) (fun _ s6=>∃ m,m < n∧J m s6) (fun _ _=>False) s5) (fun _ _=>False) s4
            else ∃ m,m < n∧J m s4) (fun _ _=>False) s3:=by
      have e:compTests ifs env=(forIn ifs true fun c r=>if r=true then do let ok ← isTrue c env (eval c env); pure (ForInStep.yield ok) else pure (ForInStep.yield r)) >>= pure:=by rfl
      rw [e,bind_pure] at h3
      exact h3
    refine wpAny_bind (wk h3' fun ok s4 h4=>?_)
    cases ok with
    | false=>exact wpAny_pure ⟨rfl,h4⟩
    | true=>exact wpAny_bind (wpAny_bind (wk h4 fun x s5 h5=>wpAny_bind (wk h5 fun _ s6 h6=>wpAny_pure (wpAny_pure ⟨rfl,h6⟩))))
noncomputable def PF (X:Cx) (ifs:List Expr) (t:TT):Prop :=
  ∀ (pins:List (Addr×Obj)) (s:Shared) (σ:St) (H:Hp) (Q:Bool→Hp→Prop),Inv X pins σ H s→t σ H Q→wpAny (model X.prog X.w) X.A (compTests ifs X.env) (TP X pins σ Q) X.xe s
noncomputable def tYes:TT:=fun _ H Q=>Q true H
theorem pf_nil {X:Cx}:PF X [] tYes:=fun _ _ _ H _ I h=>wpAny_pure ⟨H,I,h⟩
theorem pf_one {X:Cx}{c:Expr}{t:TT}(h:PT X c t):PF X [c] t:=fun pins s σ H Q I hw=>by
  have e:compTests [c] X.env=(forIn [c] true fun c r=>if r=true then do let ok ← isTrue c X.env (eval c X.env); pure (ForInStep.yield ok) else pure (ForInStep.yield r)) >>= pure:=by rfl
  rw [e,bind_pure]
  exact wpAny_tests_one (h pins s σ H Q I hw)
noncomputable def tComp (K:PySem.W.Frag) (fr:List (Option Nat)) (wi:TI) (g:TG) (tt:TT) (te:TE):TE:=fun σ H Q=>wi σ H fun J H1=>∀ acc,H1 acc=none→K.lookup acc=none →
  ∃ W : Nat→Nat→St→Hp→Prop,(∃ m,W 0 m (stC fr σ) (upd H1 acc (.lst [])))∧∀ i m σc H,W i m σc H →
    (J.stop i H∧Q (.ref acc) H)∨(J.go i H∧∃ N:St→Hp→Prop,(∀ σ' H',N σ' H'→∃ m',m' < m∧W (i + 1) m' σ' H')∧∀ x H',J.yld i H x H'→g x σc H' fun σ2 H2=>tt σ2 H2 fun b H3 =>
      if b=true then te σ2 H3 fun v H4=>∃ xs,H4 acc=some (.lst xs)∧xs.length < sizeLine∧N σ2 (upd H4 acc (.lst (xs ++ [v]))) else N σ2 H3)
section
variable {X:Cx}{sc:Scope}{cl:List (Str×Addr)}{NC:List Str}{fr:List (Option Nat)}{elt target iter:Expr}{ifs:List Expr}{pos:Pos}{wi:TI}{g:TG}{tt:TT}{te:TE}
theorem comp_core {pins:List (Addr×Obj)}{s:Shared}{σ:St}{H:Hp}{Q:VK}{RR:Value→Addr→Result→Shared→Prop}(B:Blk X sc cl NC fr) (hc:X.calm=true) (hi:PI X target iter wi)
    (hg:∀ fp s H,PG (cxC X sc cl NC fp s H) target g) (ht:∀ fp s H,PF (cxC X sc cl NC fp s H) ifs tt) (he:∀ fp s H,PE (cxC X sc cl NC fp s H) elt te)
    (I:Inv X pins σ H s) (h:tComp X.K fr wi g tt te σ H Q)
    (hRR:∀ acc C s' H',Q (.ref acc) H'→(∃ m,s'.heap.Ns C m)→Inv X pins σ H' s'→FpOk X pins H' C→RR (.ref acc) C (.ok .next) s') :
    wpAny (model X.prog X.w) X.A (eval iter X.env) (fun x s1=>wpAny (model X.prog X.w) X.A (pyIter x) (fun it s2=>wpAny (model X.prog X.w) X.A (newList []) (fun acc s3 =>
      wpAny (model X.prog X.w) X.A (newFunctionEnv sc X.env.globals cl [] X.env.qual none .none (some X.env)) (fun cenv s4 =>
        codeAny (model X.prog X.w) X.A (.compStart (.ListComp elt [⟨target,iter,ifs,0⟩] sc pos) 0 it acc { cenv with scope:=relabel sc X.env }) (RR acc cenv.locals) s4) X.xe s3) X.xe s2) X.xe s1) X.xe s:=by
  refine thn (hi pins s σ H _ I h) fun v s1 h1=>thn h1 fun itv s2 h2=>?_
  obtain ⟨it,fp,tn,J,H2,e,I2,T,st2,f2,K⟩:=h2
  subst e
  have nk:X.K.lookup s2.heap.objs.size=none:=by
    cases q:X.K.lookup s2.heap.objs.size with
    | none=>rfl
    | some o=>exact absurd (Heap.lt_size (I2.kIn _ o q)) (Nat.lt_irrefl _)
  obtain ⟨W,⟨m0,w0⟩,turn⟩:=K s2.heap.objs.size (I2.hok.fresh (Nat.le_refl _)) nk
  have I3:Inv X pins σ (upd H2 s2.heap.objs.size (.lst [])) { s2 with heap:=s2.heap.push { cls:=.type "list",dict:=none,data:=.seq ([]:List Value).toArray } } :=
    I2.laid (t':=s2.toks) (fun b u e=>Heap.get?_push_of_some _ e) (Nat.le_refl _) ⟨Nat.zero_le _,[],0,.nil,Heap.get?_push_size _ rfl⟩
  have lt2:∀ b ∈ fp,b < s2.heap.objs.size:=fun b hb=>by
    obtain ⟨o,e,_⟩:=T.obj _ _ st2 b hb
    exact Heap.lt_size e
  have f3:∀ b ∈ fp,FpOk X pins (upd H2 s2.heap.objs.size (.lst [])) b:=fun b hb=>⟨by rw [upd_ne (Nat.ne_of_lt (lt2 b hb))]; exact (f2 b hb).1,(f2 b hb).2⟩
  refine wpAny_newObj_type (wpAny_newFunctionEnv B.nocell (by intro y hy; simp at hy) (fun h4 hns4 hsb4=>?_) B.kind)
  dsimp only at hns4 hsb4 ⊢
  generalize hs3:({ s2 with heap:=s2.heap.push { cls:=.type "list",dict:=none,data:=.seq ([]:List Value).toArray } }:Shared)=s3 at I3 ⊢
  have hh3:s3.heap=s2.heap.push { cls:=.type "list",dict:=none,data:=.seq ([]:List Value).toArray }:=by rw [← hs3]
  have z3:s3.heap.objs.size=s2.heap.objs.size + 1:=by rw [hh3,Heap.size_push]
  rw [← hh3] at hns4 hsb4 ⊢
  have k4:∀ b o,s3.heap.get? b=some o→h4.get? b=some o:=fun b o e=>hsb4.extBut b o (Nat.ne_of_lt (Heap.lt_size e)) (Heap.get?_push_of_some _ e)
  have lt3:∀ b ∈ fp,b < s3.heap.objs.size:=fun b hb=>by rw [z3]; exact Nat.lt_succ_of_lt (lt2 b hb)
  have start:∀ s4:Shared,s4 = { s2 with heap:=h4,toks:=s2.toks + ([]:List (Str×Value)).length }→codeAny (model X.prog X.w) X.A (.compLoop (.ListComp elt [⟨target,iter,ifs,0⟩] sc pos) 0 (.ref it) (.ref s2.heap.objs.size) (compEnvC sc cl s3.heap.objs.size X.env)) (RR (.ref s2.heap.objs.size) s3.heap.objs.size) s4:=by
    rintro s4 rfl
    have I4:Inv (cxC X sc cl NC fp s3 (upd H2 s2.heap.objs.size (.lst []))) [] (stC fr σ) (upd H2 s2.heap.objs.size (.lst [])) { s2 with heap:=h4,toks:=s2.toks + ([]:List (Str×Value)).length } :=
      blk_start B I3 f3 lt3 ⟨_,hns4⟩ k4 (by rw [← hs3]) (by rw [← hs3])
    have st4:tn 0 h4:=T.keep _ _ _ st2 fun b hb o e=>k4 b o (by rw [hh3]; exact Heap.get?_push_of_some _ e)
    have stat:∀ {H':Hp},(∀ b ∈ fp,H' b=none)→∀ b ∈ fp,FpOk (cxC X sc cl NC fp s3 (upd H2 s2.heap.objs.size (.lst []))) [] H' b:=fun hn b hb =>
      ⟨hn b hb,(I4.ok.exf b hb).1,I4.ok.exfs b hb,.inl hb,(I4.ok.exf b hb).2,fun p hp=>absurd (show p ∈ ([]:List (Addr×Obj)) from hp) (by simp)⟩
    refine comp_turns (fun n s'=>∃ i σ' H',Inv (cxC X sc cl NC fp s3 (upd H2 s2.heap.objs.size (.lst []))) [] σ' H' s'∧tn i s'.heap∧(∀ b ∈ fp,H' b=none)∧W i n σ' H') ?_ m0 ⟨0,_,_,I4,st4,fun b hb=>(f3 b hb).1,w0⟩
    rintro n s5 ⟨i,σ5,H5,I5,st5,fr5,w5⟩
    rcases turn i n σ5 H5 w5 with ⟨stop,qn⟩ | ⟨go,N,hN,step⟩
    · refine thn (T.done (cxC X sc cl NC fp s3 (upd H2 s2.heap.objs.size (.lst []))) rfl rfl rfl hc i [] s5 σ5 H5 _ I5 (stat fr5) st5 stop) fun r s6 ⟨hr,I6⟩=>?_
      subst hr
      have hC:H5 s3.heap.objs.size=none:=I6.free
      refine hRR _ _ s6 H5 qn (let ⟨m,hm,_⟩:=I6.loc; ⟨m,hm⟩) ?_ (I3.fpOk (Nat.le_refl _) hC)
      have un:Un (frs X.stack) fp (upd H2 s2.heap.objs.size (.lst [])) H5 s3.heap s6.heap:=I6.base
      have eo:s6.os=s3.os:=I6.os
      have hb6:=I6.bare
      have hk6:HOk X.prog X.w H5 s6.heap:=I6.hok
      obtain ⟨hh6,g6,d6,t6,os6⟩:=s6
      dsimp only at eo
      subst eo
      exact I3.call (h':=hh6) (g':=g6) (d':=d6) (t':=t6) (ch:=fp) un hk6 hb6 fun b hb=>⟨(f3 b hb).2.2.2.1,(f3 b hb).2.1,(f3 b hb).2.2.2.2.1,(f3 b hb).2.2.2.2.2⟩
    · refine thn (T.item (cxC X sc cl NC fp s3 (upd H2 s2.heap.objs.size (.lst []))) rfl rfl rfl hc i [] s5 σ5 H5 _ I5 (stat fr5) st5 go) fun r s6 ⟨u,hr,h6⟩=>?_
      subst hr
      refine thn h6 fun _ s7 ⟨x,H7,I7,r7,y7,st7,fr7⟩=>?_
      have I7':=I7.pinned (stat fr7) (T.obj _ _ st7)
      refine thn (hg fp s3 _ _ s7 σ5 H7 x u _ I7' r7 (step x H7 y7)) fun _ s8 ⟨σ8,H8,I8,q8⟩=>?_
      refine thn (ht fp s3 _ _ s8 σ8 H8 _ I8 q8) fun b s9 ⟨H9,I9,q9⟩=>?_
      have again:∀ {s10:Shared}{σ7:St}{H10:Hp},Inv (cxC X sc cl NC fp s3 (upd H2 s2.heap.objs.size (.lst []))) ([] ++ pinsAt fp s7.heap) σ7 H10 s10→N σ7 H10 →
          ∃ m,m < n∧∃ i σ' H',Inv (cxC X sc cl NC fp s3 (upd H2 s2.heap.objs.size (.lst []))) [] σ' H' s10∧tn i s10.heap∧(∀ b ∈ fp,H' b=none)∧W i m σ' H':=fun {s10 σ7 H10} I10 n7=>by
        obtain ⟨m',hm,w7⟩:=hN σ7 H10 n7
        refine ⟨m',hm,i + 1,σ7,H10,I10.unpinned,T.keep _ _ _ st7 fun b hb o e=>(I10.pin (b,o) (List.mem_append_right _ (List.mem_append_right _ (mem_pinsAt hb e)))).1,fun b hb=>?_,w7⟩
        obtain ⟨o,e,d⟩:=T.obj _ _ st7 b hb
        exact (I10.pin (b,o) (List.mem_append_right _ (List.mem_append_right _ (mem_pinsAt hb e)))).2.1
      cases b with
      | false=>exact again I9 q9
      | true =>
        refine thn (he fp s3 _ _ s9 σ8 H9 _ I9 q9) fun y s10 ⟨v,H10,I10,r10,xs,q1,q2,q3⟩=>?_
        refine thn (mt_append (X:=cxC X sc cl NC fp s3 (upd H2 s2.heap.objs.size (.lst []))) _ s10 σ8 H10 (.ref s2.heap.objs.size) [v] (.ref s2.heap.objs.size) [y] (fun z H'=>N σ8 H') I10 rfl (.cons r10 .nil) ⟨_,xs,v,rfl,rfl,q1,q2,q3⟩) fun z s11 ⟨_,H11,I11,_,q11⟩=>?_
        exact again I11 q11
  exact codeAny_compStart_list (start _ rfl) (T.self _ _ _ _ _ (T.keep _ _ _ st2 fun b hb o e=>k4 b o (by rw [hh3]; exact Heap.get?_push_of_some _ e)) (start _ rfl))
theorem pe_comp (B:Blk X sc cl NC fr) (hc:X.calm=true) (hi:PI X target iter wi) (hg:∀ fp s H,PG (cxC X sc cl NC fp s H) target g) (ht:∀ fp s H,PF (cxC X sc cl NC fp s H) ifs tt) (he:∀ fp s H,PE (cxC X sc cl NC fp s H) elt te)
    (hs:∀ x,foldedSetIterable iter X.env x=pure x:=by intro _; rfl):PE X (.ListComp elt [⟨target,iter,ifs,0⟩] sc pos) (tComp X.K fr wi g tt te):=by
  intro pins s σ H Q I h
  rw [eval_ListComp]
  refine wpAny_comprehension_free (use:=none) rfl hs (closure_of B.cls) B.kind B.names ?_
  refine comp_core (RR:=fun acc C=>compPost (model X.prog X.w) X.A X.xe none (EP X pins σ Q) acc C) B hc hi hg ht he I h ?_
  rintro acc C s' H' q ⟨m,hn⟩ I' ⟨f0,f1,f2,f3,f4,f5⟩
  exact ⟨m,hn,fun h' sb=>⟨.ref acc,H',I'.turned (t':=s'.toks) (fun b o hb e=>sb.extBut b o hb e) f0 f1 f3 f4 f5,rfl,q⟩⟩
theorem ps_setComp {i:Nat}{x:Str}{pos' spos:Pos}(hN:X.N.Nodup) (hi':X.N[i]? = some x) (hx:Loc X.env.scope x) (B:Blk X sc cl NC fr) (hc:X.calm=true) (hi:PI X target iter wi) (hg:∀ fp s H,PG (cxC X sc cl NC fp s H) target g) (ht:∀ fp s H,PF (cxC X sc cl NC fp s H) ifs tt) (he:∀ fp s H,PE (cxC X sc cl NC fp s H) elt te)
    (hsw:swapsWith (.ListComp elt [⟨target,iter,ifs,0⟩] sc pos) (some (.Name x pos')) spos.line X.env=pure true)
    (hs:∀ x,foldedSetIterable iter X.env x=pure x:=by intro _; rfl) (hf:X.fn x=true∨X.env.scope.names.lookup x=some .local:=by first | exact .inl rfl | exact .inr rfl | assumption) :
    PS X (.Assign [.Name x pos'] (.ListComp elt [⟨target,iter,ifs,0⟩] sc pos) spos) (tAsg (tComp X.K fr wi g tt te) (gName i)):=by
  intro pins s σ H D I h
  rw [exec_Assign_Name_used _ _ _ _ hsw]
  refine wpAny_bind (wpAny_standAt (wpAny_bind ?_))
  show wpAny _ X.A (do let _ ← comprehension (.ListComp elt [⟨target,iter,ifs,0⟩] sc pos) sc X.env _ (newList []) false (eval iter X.env) (some (assign (.Name x pos') X.env))) _ _ s
  refine wpAny_bind (thn (Q:=fun _ s'=>SP X pins D .next s') ?_ fun _ s' hq=>wpAny_pure (wpAny_pure hq))
  refine wpAny_comprehension_free (use:=some (assign (.Name x pos') X.env)) rfl hs (closure_of B.cls) B.kind B.names ?_
  refine comp_core (RR:=fun acc C=>compPost (model X.prog X.w) X.A X.xe (some (assign (.Name x pos') X.env)) (fun _ s'=>SP X pins D .next s') acc C) B hc hi hg ht he I h ?_
  rintro acc C s' H' q ⟨m,hn⟩ I' ⟨f0,f1,f2,f3,f4,f5⟩
  refine wpAny_assign_Name (store_ok2 I' hN hi' hx (v:=.ref acc) rfl (fun s'' I'' ⟨a,sb,ha⟩=>?_) hf)
  have nC:C ≠ a:=by
    rintro rfl
    rcases ha with z | z
    · exact f1 z
    · exact f4 x _ z rfl
  refine ⟨m,hn.sameBut sb nC,fun h' sb'=>⟨_,H',I''.turned (t':=s''.toks) (fun b o hb e=>sb'.extBut b o hb e) f0 f1 f3 f4 f5,q⟩⟩
end
theorem Same.upd {H:Hp}{p:Addr}{o:HO}(h:H p=none):Same H (upd H p o):=fun b u e=>by rw [upd_ne (ne_of_none e h)]; exact e
theorem Same.tupS {K:PySem.W.Frag}{H H':Hp}{a:Addr}{xs:List V}(e:Same H H') (h:SqT K H a xs):SqT K H' a xs:=by
  rcases h with (h | ⟨o,h⟩) | h
  · exact .inl (.inl (e _ _ h))
  · exact .inl (.inr ⟨o,e _ _ h⟩)
  · exact .inr h
section
variable {X:Cx}
noncomputable def subT (T n:String):Option Bool:=if (Value.type T == Value.type n)=true then some true else if PySem.W.kitMeta n=true then (PySem.fastBuiltinMro T).map (·.contains (.type n)) else none
inductive TyS (K:PySem.W.Frag) (H:Hp):V→String→Prop
  | non:TyS K H .non "NoneType"
  | bl (b:Bool):TyS K H (.bl b) "bool"
  | int (i:Int):TyS K H (.int i) "int"
  | str (x:Str):TyS K H (.str x) "str"
  | lst {a:Addr}{xs:List V}(h:SqL K H a xs):TyS K H (.ref a) "list"
  | tup {a:Addr}{xs:List V}(h:SqT K H a xs):TyS K H (.ref a) "tuple"
  | dk {a:Addr}{kvs:List (Key×V)}(h:H a=some (.dK kvs)):TyS K H (.ref a) "dict"
theorem call_isi:CallR X (.builtin "isinstance") (fun xs H Q=>∃ x T n b,xs = [x,.ty n]∧TyS X.K H x T∧subT T n=some b∧Q (.bl b) H):=by
  intro pins s σ H xs us Q I r h
  obtain ⟨x,T,n,b,rfl,ty,hs,q⟩:=h
  obtain ⟨u,w,rfl,ru,rw_⟩:=vals2 r
  cases rw_
  have e:PySem.W.kitOne X.K (.type T) (.type n)=some b:=hs
  have fin:∀ tk,EP X pins σ Q (.bool b) { s with toks:=tk }:=fun tk=>⟨.bl b,H,I.tok tk,rfl,q⟩
  cases ty with
  | non=>cases ru; exact PySem.W.kia_one PySem.W.kitx_none I.kIn True.intro e (fun z=>nomatch z) fin
  | bl y=>cases ru; exact PySem.W.kia_one PySem.W.kitx_bool I.kIn True.intro e (fun z=>nomatch z) fin
  | int i=>obtain ⟨t,rfl⟩:=ru; exact PySem.W.kia_one PySem.W.kitx_int I.kIn True.intro e (fun z=>nomatch z) fin
  | str y=>obtain ⟨t,rfl⟩:=ru; exact PySem.W.kia_one PySem.W.kitx_str I.kIn True.intro e (fun z=>nomatch z) fin
  | lst hq =>
    cases ru
    obtain ⟨its,_,⟨o,nn,e1,e2,_⟩,_⟩:=I.list hq
    exact PySem.W.kia_one PySem.W.kitx_list I.kIn ⟨o,e1,e2⟩ e (fun z=>nomatch z) fin
  | tup hq =>
    cases ru
    obtain ⟨its,_,⟨o,e1,e2,_⟩,_⟩:=I.tuple hq
    exact PySem.W.kia_one PySem.W.kitx_tuple I.kIn ⟨o,e1,e2⟩ e (fun z=>nomatch z) fin
  | @dk a kvs hq =>
    cases ru
    obtain ⟨_,_,vs,_,o,es,ep,h1,h2,_⟩:=(show ObjOk X.prog X.w H s.heap a (.dK kvs) from I.hok a _ hq)
    exact PySem.W.kia_one PySem.W.kitx_dict I.kIn ⟨o,h1,h2.1⟩ e (fun z=>nomatch z) fin
noncomputable def isB (T n:String):Bool:=T == n || (T == "bool" && n == "int")
theorem subT_tab:∀ T ∈ ["NoneType","bool","int","str","list","tuple","dict"],∀ n ∈ ["int","bool","str","tuple","list","dict"],subT T n=some (isB T n):=by decide +kernel
end
noncomputable def Ext (N:List Addr) (H H':Hp):Prop:=∀ b o,H b=some o→b ∉ N→H' b=some o
theorem Ext.refl {N:List Addr}(H:Hp):Ext N H H:=fun _ _ h _=>h
theorem Ext.trans {N:List Addr}{H H1 H2:Hp}(a:Ext N H H1) (b:Ext N H1 H2):Ext N H H2:=fun c o h n=>b c o (a c o h n) n
theorem Ext.same {N:List Addr}{H H':Hp}(a:Same H H'):Ext N H H':=fun c o h _=>a c o h
theorem Ext.new {N:List Addr}{H:Hp}{p:Addr}{o:HO}(h:H p=none):Ext N H (upd H p o):=Ext.same (Same.upd h)
theorem Ext.at {N:List Addr}{H:Hp}{p:Addr}{o:HO}(h:p ∈ N):Ext N H (L2.upd H p o):=fun c u e n=>by rw [upd_ne (show c ≠ p from fun z=>n (by rw [z]; exact h))]; exact e
theorem Ext.tup {N:List Addr}{K:PySem.W.Frag}{H H':Hp}{a:Addr}{xs:List V}(e:Ext N H H') (h:SqT K H a xs) (n:a ∉ N):SqT K H' a xs:=by
  rcases h with (h | ⟨o,h⟩) | h
  · exact .inl (.inl (e _ _ h n))
  · exact .inl (.inr ⟨o,e _ _ h n⟩)
  · exact .inr h
theorem Ext.lst {N:List Addr}{K:PySem.W.Frag}{H H':Hp}{a:Addr}{xs:List V}(e:Ext N H H') (h:SqL K H a xs) (n:a ∉ N):SqL K H' a xs:=by
  rcases h with (h | ⟨o,h⟩) | h
  · exact .inl (.inl (e _ _ h n))
  · exact .inl (.inr ⟨o,e _ _ h n⟩)
  · exact .inr h
theorem Ext.free {N:List Addr}{H H':Hp}(e:Ext N H H') {p:Addr}(h:H' p=none) (n:p ∉ N):H p=none:=by
  cases q:H p with
  | none=>rfl
  | some o=>rw [e p o q n] at h; cases h
noncomputable def kD:Key→PyData
  | .inl i=>.int i
  | .inr x=>.str x
mutual
inductive Dt (K:PySem.W.Frag) (N:List Addr) (H:Hp):V→PyData→Prop
  | non:Dt K N H .non .none
  | bl (b:Bool):Dt K N H (.bl b) (.bool b)
  | int (i:Int):Dt K N H (.int i) (.int i)
  | str (x:Str):Dt K N H (.str x) (.str x)
  | tup {a:Addr}{xs:List V}{ds:List PyData}(h:SqT K H a xs) (n:a ∉ N) (r:DtAll K N H xs ds):Dt K N H (.ref a) (.tuple ds)
  | lst {a:Addr}{xs:List V}{ds:List PyData}(h:SqL K H a xs) (n:a ∉ N) (r:DtAll K N H xs ds):Dt K N H (.ref a) (.list ds)
  | dk0 {a:Addr}(h:H a=some (.dK [])) (n:a ∉ N):Dt K N H (.ref a) (.dict [])
  | dk1 {a:Addr}{k:Key}{v:V}{d:PyData}(h:H a=some (.dK [(k,v)])) (n:a ∉ N) (r:Dt K N H v d):Dt K N H (.ref a) (.dict [(kD k,d)])
inductive DtAll (K:PySem.W.Frag) (N:List Addr) (H:Hp):List V→List PyData→Prop
  | nil:DtAll K N H [] []
  | cons {v:V}{d:PyData}{vs:List V}{ds:List PyData}(h:Dt K N H v d) (r:DtAll K N H vs ds):DtAll K N H (v :: vs) (d :: ds)
end
section
variable {K:PySem.W.Frag}{N:List Addr}{H H':Hp}
mutual
theorem Dt.ext (e:Ext N H H'):∀ {v:V}{d:PyData},Dt K N H v d→Dt K N H' v d
  | _,_,.non=>.non
  | _,_,.bl b=>.bl b
  | _,_,.int i=>.int i
  | _,_,.str x=>.str x
  | _,_,.tup h n r=>.tup (e.tup h n) n (DtAll.ext e r)
  | _,_,.lst h n r=>.lst (e.lst h n) n (DtAll.ext e r)
  | _,_,.dk0 h n=>.dk0 (e _ _ h n) n
  | _,_,.dk1 h n r=>.dk1 (e _ _ h n) n (Dt.ext e r)
theorem DtAll.ext (e:Ext N H H'):∀ {vs:List V}{ds:List PyData},DtAll K N H vs ds→DtAll K N H' vs ds
  | _,_,.nil=>.nil
  | _,_,.cons h r=>.cons (Dt.ext e h) (DtAll.ext e r)
end
theorem DtAll.length:∀ {vs:List V}{ds:List PyData},DtAll K N H vs ds→vs.length=ds.length
  | _,_,.nil=>rfl
  | _,_,.cons _ r=>by rw [List.length_cons,List.length_cons,DtAll.length r]
theorem DtAll.get:∀ {vs:List V}{ds:List PyData}{i:Nat}{v:V},DtAll K N H vs ds→vs[i]? = some v→∃ d,ds[i]? = some d∧Dt K N H v d
  | _,_,_,_,.nil,e=>by simp at e
  | _,_,0,_,.cons h _,e=>by simp at e; subst e; exact ⟨_,rfl,h⟩
  | _,_,i + 1,v,.cons _ r,e=>by
    obtain ⟨d,h1,h2⟩:=DtAll.get (i:=i) (v:=v) r (by simpa using e)
    exact ⟨d,by simpa using h1,h2⟩
theorem DtAll.getD:∀ {vs:List V}{ds:List PyData}{i:Nat}{d:PyData},DtAll K N H vs ds→ds[i]? = some d→∃ v,vs[i]? = some v∧Dt K N H v d
  | _,_,_,_,.nil,e=>by simp at e
  | _,_,0,_,.cons h _,e=>by simp at e; subst e; exact ⟨_,rfl,h⟩
  | _,_,i + 1,d,.cons _ r,e=>by
    obtain ⟨v,h1,h2⟩:=DtAll.getD (i:=i) (d:=d) r (by simpa using e)
    exact ⟨v,by simpa using h1,h2⟩
theorem DtAll.append:∀ {vs ws:List V}{ds es:List PyData},DtAll K N H vs ds→DtAll K N H ws es→DtAll K N H (vs ++ ws) (ds ++ es)
  | _,_,_,_,.nil,s=>s
  | _,_,_,_,.cons h r,s=>.cons h (DtAll.append r s)
theorem DtAll.take:∀ {vs:List V}{ds:List PyData}(n:Nat),DtAll K N H vs ds→DtAll K N H (vs.take n) (ds.take n)
  | _,_,0,_=>.nil
  | _,_,_ + 1,.nil=>.nil
  | _,_,n + 1,.cons h r=>.cons h (DtAll.take n r)
theorem DtAll.drop:∀ {vs:List V}{ds:List PyData}(n:Nat),DtAll K N H vs ds→DtAll K N H (vs.drop n) (ds.drop n)
  | _,_,0,r=>r
  | _,_,_ + 1,.nil=>.nil
  | _,_,n + 1,.cons _ r=>DtAll.drop n r
noncomputable def cutD (ds:List PyData) (lo hi:Option Int):List PyData:=(ds.drop (HT.sIx ds.length 0 lo)).take (HT.sIx ds.length ds.length hi - HT.sIx ds.length 0 lo)
theorem DtAll.cut {vs:List V}{ds:List PyData}(lo hi:Option Int) (r:DtAll K N H vs ds):DtAll K N H (cutV vs lo hi) (cutD ds lo hi):=by
  unfold cutV cutD
  rw [r.length]
  exact (r.drop _).take _
theorem Dt.ty {v:V}{d:PyData}(h:Dt K N H v d):TyS K H v (match d with | .none=>"NoneType" | .bool _=>"bool" | .int _=>"int" | .str _=>"str" | .list _=>"list" | .tuple _=>"tuple" | .dict _=>"dict"):=by
  cases h with
  | non=>exact .non
  | bl b=>exact .bl b
  | int i=>exact .int i
  | str x=>exact .str x
  | tup h n r=>exact .tup h
  | lst h n r=>exact .lst h
  | dk0 h n=>exact .dk h
  | dk1 h n r=>exact .dk h
end
section
variable {X:Cx}{pins:List (Addr×Obj)}{σ:St}{H:Hp}{s:Shared}{N:List Addr}
mutual
theorem Dt.reads (I:Inv X pins σ H s):∀ {v:V}{d:PyData}{u:Value},Dt X.K N H v d→RelV v u→∃ as,Reads s.heap u d as∧(sysModules ∈ N∨d = .dict []→sysModules ∉ as)
  | _,_,_,.non,r=>by cases r; exact ⟨_,.none,fun _=>by simp⟩
  | _,_,_,.bl b,r=>by cases r; exact ⟨_,.bool b,fun _=>by simp⟩
  | _,_,_,.int i,r=>by obtain ⟨t,rfl⟩:=r; exact ⟨_,.int i t,fun _=>by simp⟩
  | _,_,_,.str x,r=>by obtain ⟨t,rfl⟩:=r; exact ⟨_,.str x t,fun _=>by simp⟩
  | _,_,_,.tup h n q,r=>by
    cases r
    obtain ⟨its,rv,⟨o,e1,e2,m,e3⟩,_⟩:=I.tuple h
    obtain ⟨as,ra,sm⟩:=DtAll.reads I q rv
    refine ⟨as,.tuple e1 e2 e3 (by simpa using ra),fun z=>?_⟩
    rcases z with z | z
    · exact sm z
    · cases z
  | _,_,_,.lst h n q,r=>by
    cases r
    obtain ⟨its,rv,⟨o,m,e1,e2,e3,e4⟩,_⟩:=I.list h
    obtain ⟨as,ra,sm⟩:=DtAll.reads I q rv
    refine ⟨_,.list e1 e2 e4 (by simpa using ra),fun z=>?_⟩
    rcases z with z | z
    · intro y
      rcases List.mem_cons.mp y with y | y
      · exact n (y ▸ z)
      · exact sm z y
    · cases z
  | _,_,_,.dk0 (a:=a) h n,r=>by
    cases r
    obtain ⟨_,hsm,vs,kv,o,es,ep,e1,e2,e3,e4,e5,e6⟩:=(show ObjOk X.prog X.w H s.heap a (.dK []) from I.hok a _ h)
    have ev:vs = []:=by cases kv; rfl
    subst ev
    have ee:es.toList = []:=by
      cases q:es.toList with
      | nil=>rfl
      | cons x r=>rw [q] at e5; cases e5
    refine ⟨[a],?_,fun _=>?_⟩
    · have:=Reads.dict (h:=s.heap) (a:=a) (o:=o) (es:=es) (n:=ep) (kvs:=[]) (as:=[]) (bs:=[]) e1 e2.1 e3 (by rw [ee]; exact .nil) (by rw [ee]; exact .nil)
      simpa using this
    · intro z
      have z':sysModules=a:=by simpa using z
      rw [z'] at hsm
      simp at hsm
  | _,_,_,.dk1 (a:=a) (k:=k) (v:=v) (d:=d) h n q,r=>by
    cases r
    obtain ⟨_,hsm,vs,kv,o,es,ep,e1,e2,e3,e4,e5,e6⟩:=(show ObjOk X.prog X.w H s.heap a (.dK [(k,v)]) from I.hok a _ h)
    obtain ⟨u,rfl,ru⟩:∃ u,vs = [(k,u)]∧RelV v u:=by
      cases kv with
      | @cons p q ps qs h1 h2 =>
        cases h2
        obtain ⟨q1,q2⟩:=q
        obtain ⟨h3,h4⟩:=h1
        dsimp only at h3 h4
        subst h3
        exact ⟨q2,rfl,h4⟩
    obtain ⟨en,ee,ek,ev⟩:∃ en,es.toList = [en]∧keyIs k en.key=true∧en.val=u:=by
      generalize es.toList=el at e5
      cases e5 with
      | cons h1 h2 h3=>cases h3; exact ⟨_,rfl,h1,h2⟩
    obtain ⟨as,ra,sm⟩:=Dt.reads I q ru
    obtain ⟨ks,rk,hk⟩:∃ ks,Reads s.heap en.key (kD k) ks∧ks = []:=by
      rcases keyIs_shape ek with ⟨i,t,rfl,e⟩ | ⟨x,t,rfl,e⟩
      · exact ⟨[],by rw [e]; exact .int i t,rfl⟩
      · exact ⟨[],by rw [e]; exact .str x t,rfl⟩
    subst hk
    have rv:Reads s.heap en.val d as:=by rw [ev]; exact ra
    refine ⟨_,Reads.dict (h:=s.heap) (a:=a) (o:=o) (es:=es) (n:=ep) (kvs:=[(kD k,d)]) e1 e2.1 e3 (by rw [ee]; exact .cons rk .nil) (by rw [ee]; exact .cons rv .nil),fun z=>?_⟩
    rcases z with z | z
    · intro y
      simp only [List.append_nil,List.nil_append,List.cons_append] at y
      rcases List.mem_cons.mp y with y | y
      · rw [← y] at hsm; simp at hsm
      · exact sm (.inl z) y
    · cases z
theorem DtAll.reads (I:Inv X pins σ H s):∀ {vs:List V}{ds:List PyData}{us:List Value},DtAll X.K N H vs ds→Vals vs us→∃ as,ReadsAll s.heap us ds as∧(sysModules ∈ N→sysModules ∉ as)
  | _,_,_,.nil,.nil=>⟨_,.nil,fun _=>by simp⟩
  | _,_,_,.cons h q,.cons r t=>by
    obtain ⟨as,ra,sa⟩:=Dt.reads I h r
    obtain ⟨bs,rb,sb⟩:=DtAll.reads I q t
    refine ⟨_,.cons ra rb,fun z y=>?_⟩
    rcases List.mem_append.mp y with y | y
    · exact sa (.inl z) y
    · exact sb z y
end
end
structure Shw (d:PyData):Prop where
  sh:d.showable=true
  dp:d.depth ≤ 30
  ln:d.shown.length ≤ sizeLine
  nd:d.hasDict=false∨d = .dict []
section
variable {X:Cx}{N:List Addr}
theorem op_eqD {k:Nat}(hr:Room k X.A):OpR X (compareOp .Eq) (fun x y H Q=>∃ d e,Dt X.K N H x d∧Dt X.K N H y e∧SeqAt.shaped d=true∧SeqAt.shaped e=true∧Q (.bl (PyData.eqv d e)) H):=by
  intro pins s σ H x y v u Q I rx ry h
  obtain ⟨d,e,hd,he,sd,se,q⟩:=h
  obtain ⟨as,ra,_⟩:=hd.reads I rx
  obtain ⟨bs,rb,_⟩:=he.reads I ry
  exact SeqAt.compareEq_shaped ra rb sd se hr.units ⟨.bl _,H,I,rfl,q⟩
theorem op_neD {k:Nat}(hr:Room k X.A):OpR X (compareOp .NotEq) (fun x y H Q=>∃ d e,Dt X.K N H x d∧Dt X.K N H y e∧SeqAt.shaped d=true∧SeqAt.shaped e=true∧Q (.bl (!PyData.eqv d e)) H):=by
  intro pins s σ H x y v u Q I rx ry h
  obtain ⟨d,e,hd,he,sd,se,q⟩:=h
  obtain ⟨as,ra,_⟩:=hd.reads I rx
  obtain ⟨bs,rb,_⟩:=he.reads I ry
  exact SeqAt.compareNe_shaped ra rb sd se hr.units ⟨.bl _,H,I,rfl,q⟩
end
section
variable {D:Ends}{σ:St}{H:Hp}{t u:TS}{te ta tb tc:TE}{c tA tB':TT}{g:TG}{gs:TGs}{Q:VK}{K:PySem.W.Frag}{i:Nat}{v:V}{vs:List V}
theorem rd_seq (h:t { D with nx:=u D } σ H):tSeq t u D σ H:=h
theorem rd_if (h:c σ H fun b H1=>if b=true then t D σ H1 else u D σ H1):tIfS c t u D σ H:=h
theorem rd_asg (h:te σ H fun x H1=>g x σ H1 D.nx):tAsg te g D σ H:=h
theorem rd_drop (h:te σ H fun _ H1=>D.nx σ H1):tDrop te D σ H:=h
theorem rd_ret (h:te σ H D.rt):tRet te D σ H:=h
theorem rd_next (h:D.nx σ H):tNext D σ H:=h
theorem rd_op {r:R2}(h:ta σ H fun x H1=>tb σ H1 fun y H2=>r x y H2 Q):tOp r ta tb σ H Q:=h
theorem rd_un {r:V→Hp→VK→Prop}(h:ta σ H fun x H1=>r x H1 Q):tUn r ta σ H Q:=h
theorem rd_var (e:σ[i]? = some (some v)) (h:Q v H):tVar i σ H Q:=⟨v,e,h⟩
theorem rd_c (h:Q v H):tC v σ H Q:=h
theorem rd_I0 {f:Int→Int→V}{i j:Int}(h:Q (f i j) H):rI0 f (.int i) (.int j) H Q:=⟨i,j,rfl,rfl,h⟩
theorem rd_I {C:Int→Int→Prop}{f:Int→Int→V}{i j:Int}(hc:C i j) (h:Q (f i j) H):rI C f (.int i) (.int j) H Q:=⟨i,j,rfl,rfl,hc,h⟩
theorem rd_U {f:Int→V}{i:Int}(h:Q (f i) H):rU f (.int i) H Q:=⟨i,rfl,h⟩
theorem rd_test {Q:Bool→Hp→Prop}(h:te σ H fun x H'=>∃ k,x = .bl k∧Q k H'):tTest te σ H Q:=h
theorem rd_tB {Q:Bool→Hp→Prop}(h:te σ H fun x H'=>∃ k,x = .bl k∧Q k H'):tB te σ H Q:=h
theorem rd_bl' {P:Bool→Prop}{k:Bool}(h:P k):∃ k',V.bl k = .bl k'∧P k':=⟨k,rfl,h⟩
theorem rd_eq {x y:V}(hs:scal x y=true) (h:Q (.bl (decide (x=y))) H):rEq x y H Q:=⟨hs,h⟩
theorem rd_ne {x y:V}(hs:scal x y=true) (h:Q (.bl (!decide (x=y))) H):rNe x y H Q:=⟨hs,h⟩
theorem rd_ixL {p:Addr}{xs:List V}{i:Int}(hq:SqL K H p xs) (ha:atI xs i=some v) (h:Q v H):rIxL K (.ref p) (.int i) H Q:=⟨p,xs,i,v,rfl,rfl,hq,ha,h⟩
theorem rd_ixT {p:Addr}{xs:List V}{i:Int}(hq:SqT K H p xs) (ha:atI xs i=some v) (h:Q v H):rIxT K (.ref p) (.int i) H Q:=⟨p,xs,i,v,rfl,rfl,hq,ha,h⟩
theorem rd_name {Q:St→Hp→Prop}(h:Q (σ.set i (some v)) H):gName i v σ H Q:=h
theorem rd_sub {to ti:TE}{s:TSet}{Q:St→Hp→Prop}(h:to σ H fun o H1=>ti σ H1 fun i H2=>s o i v H2 fun H3=>Q σ H3):gSub to ti s v σ H Q:=h
theorem rd_setL {p:Addr}{xs:List V}{k:Int}{j:Nat}{Q:Hp→Prop}(hp:H p=some (.lst xs)) (hi:ixN xs.length k=some j) (h:Q (upd H p (.lst (xs.set j v)))):rSetL (.ref p) (.int k) v H Q:=⟨p,xs,k,j,rfl,rfl,hp,hi,h⟩
theorem rd_CB {r:List V→Hp→VK→Prop}{ta:TA}(h:ta σ H fun vs H1=>r vs H1 Q):tCB r ta σ H Q:=h
theorem rd_nil {Q:List V→Hp→Prop}(h:Q [] H):tNil σ H Q:=h
theorem rd_cons {tr:TA}{Q:List V→Hp→Prop}(h:ta σ H fun x H1=>tr σ H1 fun xs H2=>Q (x :: xs) H2):tCons ta tr σ H Q:=h
theorem rd_or {Q:Bool→Hp→Prop}(h:tA σ H fun c H1=>if c=true then Q true H1 else tB' σ H1 Q):tOr tA tB' σ H Q:=h
theorem rd_not {Q:Bool→Hp→Prop}(h:tA σ H fun c H1=>Q (!c) H1):tNot tA σ H Q:=h
theorem rd_andV (h:ta σ H fun x H1=>∃ c,x = .bl c∧if c=true then tb σ H1 Q else Q (.bl false) H1):tAndV ta tb σ H Q:=h
theorem rd_notV (h:ta σ H fun x H1=>∃ c,x = .bl c∧Q (.bl (!c)) H1):tNotV ta σ H Q:=h
theorem rd_call {sp:Sp}{dvs:List V}{E:XK}{ta:TA}(h:ta σ H fun vs H1=>sp (vs ++ dvs) H1 Q E):tCall sp dvs E ta σ H Q:=h
theorem rd_tup {ta:TA}(h:ta σ H fun xs H1=>xs.length ≤ sizeLine∧∀ p,H1 p=none→Q (.ref p) (upd H1 p (.tup xs))):tTup ta σ H Q:=h
theorem rd_lst {ta:TA}(h:ta σ H fun xs H1=>xs.length ≤ sizeLine∧∀ p,H1 p=none→Q (.ref p) (upd H1 p (.lst xs))):tLst ta σ H Q:=h
theorem rd_chain {r r':R2}(h:ta σ H fun x H1=>tb σ H1 fun y H2=>r x y H2 fun z H3=>∃ k,z = .bl k∧if k=true then tc σ H3 fun w H4=>r' y w H4 Q else Q (.bl false) H3):tChain r r' ta tb tc σ H Q:=h
theorem rd_sl {r:V→Option Int→Option Int→Hp→VK→Prop}{tl th:TO}(h:te σ H fun x H1=>tl σ H1 fun l H2=>th σ H2 fun u H3=>r x l u H3 Q):tSl r te tl th σ H Q:=h
theorem rd_nopart {Q:Option Int→Hp→Prop}(h:Q none H):tNoPart σ H Q:=h
theorem rd_part {Q:Option Int→Hp→Prop}(h:te σ H fun x H1=>∃ i,x = .int i∧Q (some i) H1):tPart te σ H Q:=h
theorem rd_int {P:Int→Prop}{i:Int}(h:P i):∃ i',V.int i = .int i'∧P i':=⟨i,rfl,h⟩
theorem rd_slL {p:Addr}{xs:List V}{lo hi:Option Int}(hq:SqL K H p xs) (h:∀ l,H l=none→Q (.ref l) (upd H l (.lst (cutV xs lo hi)))):rSlL K (.ref p) lo hi H Q:=⟨p,xs,rfl,hq,h⟩
theorem rd_tupT {t:TGs}{n:Nat}{p:Addr}{xs:List V}{Q:St→Hp→Prop}(hq:SqT K H p xs) (hl:xs.length=n) (h:t xs σ H Q):gTup K n t (.ref p) σ H Q:=⟨p,xs,rfl,hq,hl,h⟩
theorem rd_gnil {Q:St→Hp→Prop}(h:Q σ H):gNil [] σ H Q:=⟨rfl,h⟩
theorem rd_gcons {t:TG}{u:TGs}{v:V}{r:List V}{Q:St→Hp→Prop}(h:t v σ H fun σ' H'=>u r σ' H' Q):gCons t u (v :: r) σ H Q:=⟨v,r,rfl,h⟩
theorem rd_BM {T:String}{r:V→List V→Hp→VK→Prop}{to:TE}{t:TA}(h:to σ H fun x H1=>tyV K T x H1∧t σ H1 fun xs H2=>r x xs H2 Q):tBM K T r to t σ H Q:=h
theorem rd_rng1 {ta:TA}{R:It→Hp→Prop}(h:ta σ H fun vs H1=>∃ j:Int,vs = [.int j]∧-(2 ^ 62) ≤ j∧j < 2 ^ 62∧R (Itr 0 j.toNat) H1):iRng1 ta σ H R:=h
theorem rd_rngV {j:Int}{P:Int→Prop}(h:P j):∃ j':Int,[V.int j] = [.int j']∧P j':=⟨j,rfl,h⟩
theorem rd_ilist {tl:TE}{R:It→Hp→Prop}(h:tl σ H fun x H1=>∃ a,x = .ref a∧(∃ xs,SqL K H1 a xs)∧R (Itl K a) H1):iList K tl σ H R:=h
theorem rd_itup {tl:TE}{R:It→Hp→Prop}(h:tl σ H fun x H1=>∃ a,x = .ref a∧(∃ xs,SqT K H1 a xs)∧R (Itt K a) H1):iTup K tl σ H R:=h
end
noncomputable abbrev TR:=List V→Hp→VK→Prop
noncomputable def rLen (K:PySem.W.Frag):TR:=fun xs H Q=>∃ p ys,xs = [.ref p]∧(SqL K H p ys∨SqT K H p ys)∧Q (.int ys.length) H
noncomputable def rIsi (K:PySem.W.Frag):TR:=fun xs H Q=>∃ x T n b,xs = [x,.ty n]∧TyS K H x T∧subT T n=some b∧Q (.bl b) H
noncomputable def rListOf (K:PySem.W.Frag):TR:=fun xs H Q=>∃ p ys,xs = [.ref p]∧(SqL K H p ys∨SqT K H p ys)∧∀ l,H l=none→Q (.ref l) (upd H l (.lst ys))
noncomputable def rTupleOf (K:PySem.W.Frag):TR:=fun xs H Q=>∃ p ys,xs = [.ref p]∧((SqL K H p ys∧∀ l,H l=none→Q (.ref l) (upd H l (.tup ys)))∨(SqT K H p ys∧Q (.ref p) H))
noncomputable def rMax:TR:=fun xs H Q=>∃ i j,xs = [.int i,.int j]∧Q (.int (if j > i then j else i)) H
noncomputable def rEqD (K:PySem.W.Frag):R2:=fun x y H Q=>∃ (N:List Addr) (d e:PyData),Dt K N H x d∧Dt K N H y e∧SeqAt.shaped d=true∧SeqAt.shaped e=true∧Q (.bl (PyData.eqv d e)) H
noncomputable def rNeD (K:PySem.W.Frag):R2:=fun x y H Q=>∃ (N:List Addr) (d e:PyData),Dt K N H x d∧Dt K N H y e∧SeqAt.shaped d=true∧SeqAt.shaped e=true∧Q (.bl (!PyData.eqv d e)) H
noncomputable def rIsN:R2:=fun x y H Q=>y = .non∧Q (.bl (decide (x = .non))) H
noncomputable def rNotN:R2:=fun x y H Q=>y = .non∧Q (.bl (!decide (x = .non))) H
section
variable {X:Cx}
theorem cn_len:CallR X (.builtin "len") (rLen X.K):=call_len_seq
theorem cn_isi:CallR X (.builtin "isinstance") (rIsi X.K):=call_isi
theorem cn_list:CallR X (.type "list") (rListOf X.K):=call_list_of
theorem cn_tuple:CallR X (.type "tuple") (rTupleOf X.K):=call_tuple_of
theorem cn_max (hc:X.calm=true):CallR X (.builtin "max") rMax:=call_max2 hc
theorem on_eqD {k:Nat}(hr:Room k X.A):OpR X (compareOp .Eq) (rEqD X.K):=fun pins s σ H x y v u Q I rx ry ⟨N,d,e,h⟩=>op_eqD (N:=N) hr pins s σ H x y v u Q I rx ry ⟨d,e,h⟩
theorem on_neD {k:Nat}(hr:Room k X.A):OpR X (compareOp .NotEq) (rNeD X.K):=fun pins s σ H x y v u Q I rx ry ⟨N,d,e,h⟩=>op_neD (N:=N) hr pins s σ H x y v u Q I rx ry ⟨d,e,h⟩
theorem on_isN:OpR X (compareOp .Is) rIsN:=op_isN
theorem on_notN:OpR X (compareOp .IsNot) rNotN:=op_notN
end
section
variable {H:Hp}{Q:VK}{K:PySem.W.Frag}{N:List Addr}{p:Addr}{xs:List V}
theorem rd_lenL (hq:SqL K H p xs) (h:Q (.int xs.length) H):rLen K [.ref p] H Q:=⟨p,xs,rfl,.inl hq,h⟩
theorem rd_lenT (hq:SqT K H p xs) (h:Q (.int xs.length) H):rLen K [.ref p] H Q:=⟨p,xs,rfl,.inr hq,h⟩
theorem rd_isi {x:V}{T n:String}{b:Bool}(ty:TyS K H x T) (hs:subT T n=some b) (h:Q (.bl b) H):rIsi K [x,.ty n] H Q:=⟨x,T,n,b,rfl,ty,hs,h⟩
theorem rd_eqD {x y:V}{d e:PyData}(hd:Dt K N H x d) (he:Dt K N H y e) (h1:SeqAt.shaped d=true) (h2:SeqAt.shaped e=true) (h:Q (.bl (PyData.eqv d e)) H):rEqD K x y H Q:=⟨N,d,e,hd,he,h1,h2,h⟩
theorem rd_neD {x y:V}{d e:PyData}(hd:Dt K N H x d) (he:Dt K N H y e) (h1:SeqAt.shaped d=true) (h2:SeqAt.shaped e=true) (h:Q (.bl (!PyData.eqv d e)) H):rNeD K x y H Q:=⟨N,d,e,hd,he,h1,h2,h⟩
theorem rd_listL (hq:SqL K H p xs) (h:∀ l,H l=none→Q (.ref l) (upd H l (.lst xs))):rListOf K [.ref p] H Q:=⟨p,xs,rfl,.inl hq,h⟩
theorem rd_tupleL (hq:SqL K H p xs) (h:∀ l,H l=none→Q (.ref l) (upd H l (.tup xs))):rTupleOf K [.ref p] H Q:=⟨p,xs,rfl,.inl ⟨hq,h⟩⟩
theorem rd_max {i j:Int}(h:Q (.int (if j > i then j else i)) H):rMax [.int i,.int j] H Q:=⟨i,j,rfl,h⟩
theorem rd_isN {x:V}(h:Q (.bl (decide (x = .non))) H):rIsN x .non H Q:=⟨rfl,h⟩
theorem rd_notN {x:V}(h:Q (.bl (!decide (x = .non))) H):rNotN x .non H Q:=⟨rfl,h⟩
end
theorem atI_in {α:Type}{xs:List α}{i:Int}(h0:0 ≤ i) (h1:i < xs.length):∃ v,atI xs i=some v∧xs[i.toNat]? = some v:=by
  obtain ⟨n,rfl⟩:=Int.eq_ofNat_of_zero_le h0
  have hn:n < xs.length:=by omega
  exact ⟨xs[n],atI_nat (by simp [hn]),by simp [hn]⟩
theorem atI_ints {ns:List Int}{i:Int}(h0:0 ≤ i) (h1:i < ns.length):∃ n,atI (ns.map V.int) i=some (.int n)∧n ∈ ns:=by
  obtain ⟨v,h2,h3⟩:=atI_in (xs:=ns.map V.int) h0 (by simpa using h1)
  rw [List.getElem?_map] at h3
  cases e:ns[i.toNat]? with
  | none=>rw [e] at h3; cases h3
  | some n=>rw [e] at h3; cases h3; exact ⟨n,h2,List.mem_of_getElem? e⟩
noncomputable def CompW (σ0:St) (J:It) (H1:Hp) (acc:Addr) (g:TG) (tt:TT) (te:TE) (Q:VK):Prop:=∃ W:Nat→Nat→St→Hp→Prop,(∃ m,W 0 m σ0 (upd H1 acc (.lst [])))∧∀ i m σc H,W i m σc H →
    (J.stop i H∧Q (.ref acc) H)∨(J.go i H∧∃ N:St→Hp→Prop,(∀ σ' H',N σ' H'→∃ m',m' < m∧W (i + 1) m' σ' H')∧∀ x H',J.yld i H x H'→g x σc H' fun σ2 H2=>tt σ2 H2 fun b H3 =>
      if b=true then te σ2 H3 fun v H4=>∃ xs,H4 acc=some (.lst xs)∧xs.length < sizeLine∧N σ2 (upd H4 acc (.lst (xs ++ [v]))) else N σ2 H3)
noncomputable def ForW (J:It) (g:TG) (tb:TS) (D:Ends) (σ:St) (H:Hp):Prop:=∃ W:Nat→Nat→St→Hp→Prop,(∃ m,W 0 m σ H)∧∀ i m σ H,W i m σ H →
  (J.stop i H∧D.nx σ H)∨(J.go i H∧∃ N:St→Hp→Prop,(∀ σ' H',N σ' H'→∃ m',m' < m∧W (i + 1) m' σ' H')∧∀ x H',J.yld i H x H'→g x σ H' fun σ2 H2=>tb { D with nx:=N,ct:=N,bk:=D.nx } σ2 H2)
section
variable {J:It}{H1:Hp}{acc:Addr}{σ0:St}{g:TG}{te:TE}{Q:VK}
theorem comp_by (n:Nat) (hn:n < sizeLine) (Pv:Nat→List V→St→Hp→Prop) (h0:Pv 0 [] σ0 (upd H1 acc (.lst [])))
    (hgo:∀ i vs σc H,i < n→vs.length=i→H acc=some (.lst vs)→Pv i vs σc H→J.go i H∧∀ x H',J.yld i H x H'→∀ R:St→V→Hp→Prop,
      (∀ σ2 v H4,H4 acc=some (.lst vs)→Pv (i + 1) (vs ++ [v]) σ2 (upd H4 acc (.lst (vs ++ [v])))→R σ2 v H4)→g x σc H' fun σ2 H2=>te σ2 H2 (R σ2))
    (hst:∀ vs σc H,vs.length=n→H acc=some (.lst vs)→Pv n vs σc H→J.stop n H∧Q (.ref acc) H) :
    CompW σ0 J H1 acc g tYes te Q:=by
  refine ⟨fun i m σc H=>m=n - i∧i ≤ n∧∃ vs,vs.length=i∧H acc=some (.lst vs)∧Pv i vs σc H,⟨n,by simp,Nat.zero_le _,[],rfl,upd_same,h0⟩,?_⟩
  rintro i m σc H ⟨rfl,hi,vs,hl,ha,hp⟩
  by_cases hlt:i < n
  · obtain ⟨g1,g2⟩:=hgo i vs σc H hlt hl ha hp
    refine .inr ⟨g1,fun σ' H'=>i + 1 ≤ n∧∃ vs,vs.length=i + 1∧H' acc=some (.lst vs)∧Pv (i + 1) vs σ' H',fun σ' H' q=>⟨n - (i + 1),by omega,rfl,q⟩,fun x H' y=>?_⟩
    simp only [tYes,if_true]
    exact g2 x H' y (fun σ2 v H4=>∃ xs,H4 acc=some (.lst xs)∧xs.length < sizeLine∧(i + 1 ≤ n∧∃ vs,vs.length=i + 1∧(upd H4 acc (.lst (xs ++ [v]))) acc=some (.lst vs)∧Pv (i + 1) vs σ2 (upd H4 acc (.lst (xs ++ [v])))))
      fun σ2 v H4 q1 q2=>⟨vs,q1,by omega,hlt,vs ++ [v],by simp [hl],upd_same,q2⟩
  · have e:i=n:=by omega
    subst e
    exact .inl (hst vs σc H hl ha hp)
end
theorem rd_comp {K:PySem.W.Frag}{fr:List (Option Nat)}{wi:TI}{g:TG}{tt:TT}{te:TE}{σ:St}{H:Hp}{Q:VK}(h:wi σ H fun J H1=>∀ acc,H1 acc=none→K.lookup acc=none→CompW (stC fr σ) J H1 acc g tt te Q):tComp K fr wi g tt te σ H Q:=h
theorem rd_for {wi:TI}{g:TG}{tb:TS}{D:Ends}{σ:St}{H:Hp}(h:wi σ H fun J H1=>ForW J g tb D σ H1):tFor wi g tb D σ H:=h
theorem for_listW {K:PySem.W.Frag}{a:Addr}{xs:List V}{g:TG}{tb:TS}{D:Ends}{σ:St}{H:Hp}(Pv:Nat→St→Hp→Prop) (h0:Pv 0 σ H) (hl:∀ i σ H,i ≤ xs.length→Pv i σ H→SqL K H a xs)
    (hs:∀ i x σ H,xs[i]? = some x→Pv i σ H→g x σ H fun σ2 H2=>tb { D with nx:=Pv (i + 1),ct:=Pv (i + 1),bk:=D.nx } σ2 H2) (hd:∀ σ H,Pv xs.length σ H→D.nx σ H):ForW (Itl K a) g tb D σ H:=for_list Pv h0 hl hs hd
theorem for_tupW {K:PySem.W.Frag}{a:Addr}{xs:List V}{g:TG}{tb:TS}{D:Ends}{σ:St}{H:Hp}(Pv:Nat→St→Hp→Prop) (h0:Pv 0 σ H) (hl:∀ i σ H,i ≤ xs.length→Pv i σ H→SqT K H a xs)
    (hs:∀ i x σ H,xs[i]? = some x→Pv i σ H→g x σ H fun σ2 H2=>tb { D with nx:=Pv (i + 1),ct:=Pv (i + 1),bk:=D.nx } σ2 H2) (hd:∀ σ H,Pv xs.length σ H→D.nx σ H):ForW (Itt K a) g tb D σ H:=for_tup Pv h0 hl hs hd
theorem for_rangeW {lo:Int}{n:Nat}{g:TG}{tb:TS}{D:Ends}{σ:St}{H:Hp}(Pv:Nat→St→Hp→Prop) (h0:Pv 0 σ H)
    (hs:∀ i σ H,i < n→Pv i σ H→g (.int (lo + i)) σ H fun σ2 H2=>tb { D with nx:=Pv (i + 1),ct:=Pv (i + 1),bk:=D.nx } σ2 H2) (hd:∀ σ H,Pv n σ H→D.nx σ H):ForW (Itr lo n) g tb D σ H:=for_range Pv h0 hs hd
theorem subT_of {T n:String}(h1:T ∈ ["NoneType","bool","int","str","list","tuple","dict"]) (h2:n ∈ ["int","bool","str","tuple","list","dict"]):subT T n=some (isB T n):=subT_tab T h1 n h2
noncomputable def tyN:PyData→String
  | .none=>"NoneType"
  | .bool _=>"bool"
  | .int _=>"int"
  | .str _=>"str"
  | .list _=>"list"
  | .tuple _=>"tuple"
  | .dict _=>"dict"
theorem tyN_in (d:PyData):tyN d ∈ ["NoneType","bool","int","str","list","tuple","dict"]:=by cases d <;> simp [tyN]
theorem Dt.tyn {K:PySem.W.Frag}{N:List Addr}{H:Hp}{v:V}{d:PyData}(h:Dt K N H v d):TyS K H v (tyN d):=by
  cases h with
  | non=>exact .non
  | bl b=>exact .bl b
  | int i=>exact .int i
  | str x=>exact .str x
  | tup h n r=>exact .tup h
  | lst h n r=>exact .lst h
  | dk0 h n=>exact .dk h
  | dk1 h n r=>exact .dk h
noncomputable def isTupD:PyData→Bool
  | .tuple _=>true
  | _=>false
noncomputable def isIntD:PyData→Bool
  | .int _=>true
  | .bool _=>true
  | _=>false
noncomputable def isBoolD:PyData→Bool
  | .bool _=>true
  | _=>false
noncomputable def isStrD:PyData→Bool
  | .str _=>true
  | _=>false
noncomputable def isListD:PyData→Bool
  | .list _=>true
  | _=>false
section
variable {K:PySem.W.Frag}{N:List Addr}{H:Hp}{x:V}{d:PyData}{Q:VK}
theorem rd_isiTup (hd:Dt K N H x d) (h:Q (.bl (isTupD d)) H):rIsi K [x,.ty "tuple"] H Q:=by
  refine rd_isi hd.tyn (subT_of (tyN_in d) (by simp)) ?_
  have e:isB (tyN d) "tuple" = isTupD d:=by cases d <;> (dsimp only [tyN,isTupD,isIntD,isBoolD,isStrD,isListD]; decide)
  rw [e]; exact h
theorem rd_isiInt (hd:Dt K N H x d) (h:Q (.bl (isIntD d)) H):rIsi K [x,.ty "int"] H Q:=by
  refine rd_isi hd.tyn (subT_of (tyN_in d) (by simp)) ?_
  have e:isB (tyN d) "int" = isIntD d:=by cases d <;> (dsimp only [tyN,isTupD,isIntD,isBoolD,isStrD,isListD]; decide)
  rw [e]; exact h
theorem rd_isiBool (hd:Dt K N H x d) (h:Q (.bl (isBoolD d)) H):rIsi K [x,.ty "bool"] H Q:=by
  refine rd_isi hd.tyn (subT_of (tyN_in d) (by simp)) ?_
  have e:isB (tyN d) "bool" = isBoolD d:=by cases d <;> (dsimp only [tyN,isTupD,isIntD,isBoolD,isStrD,isListD]; decide)
  rw [e]; exact h
theorem rd_isiStr (hd:Dt K N H x d) (h:Q (.bl (isStrD d)) H):rIsi K [x,.ty "str"] H Q:=by
  refine rd_isi hd.tyn (subT_of (tyN_in d) (by simp)) ?_
  have e:isB (tyN d) "str" = isStrD d:=by cases d <;> (dsimp only [tyN,isTupD,isIntD,isBoolD,isStrD,isListD]; decide)
  rw [e]; exact h
theorem rd_isiList (hd:Dt K N H x d) (h:Q (.bl (isListD d)) H):rIsi K [x,.ty "list"] H Q:=by
  refine rd_isi hd.tyn (subT_of (tyN_in d) (by simp)) ?_
  have e:isB (tyN d) "list" = isListD d:=by cases d <;> (dsimp only [tyN,isTupD,isIntD,isBoolD,isStrD,isListD]; decide)
  rw [e]; exact h
end
theorem rd_iteT {i:Decidable (true=true)}{A B:Prop}(h:A):@ite Prop (true=true) i A B:=by rw [if_pos rfl]; exact h
theorem rd_iteF {i:Decidable (false=true)}{A B:Prop}(h:B):@ite Prop (false=true) i A B:=by rw [if_neg Bool.false_ne_true]; exact h
theorem rd_ite2 {c:Bool}{i:Decidable (c=true)}{A B:Prop}(h1:c=true→A) (h2:c=false→B):@ite Prop (c=true) i A B:=by
  cases c with
  | true=>rw [if_pos rfl]; exact h1 rfl
  | false=>rw [if_neg Bool.false_ne_true]; exact h2 rfl
theorem Same.upd2 {H H':Hp}{p:Addr}{o:HO}(s:Same H H') (h:H p=none):Same H (L2.upd H' p o):=fun b u e=>by rw [upd_ne (ne_of_none e h)]; exact s b u e
theorem Ext.upd2 {N:List Addr}{H H':Hp}{p:Addr}{o:HO}(s:Ext N H H') (h:H p=none):Ext N H (L2.upd H' p o):=fun b u e n=>by rw [upd_ne (ne_of_none e h)]; exact s b u e n
theorem DtAll.at {K:PySem.W.Frag}{N:List Addr}{H:Hp}{vs:List V}{ds:List PyData}{i:Nat}(r:DtAll K N H vs ds) (h:i < ds.length):∃ v d,vs[i]? = some v∧ds[i]? = some d∧Dt K N H v d:=by
  have e:ds[i]? = some ds[i]:=by simp [h]
  obtain ⟨v,h1,h2⟩:=r.getD e
  exact ⟨v,ds[i],h1,e,h2⟩
section
variable {X:Cx}{K:PySem.W.Frag}
theorem ix_tupK (h:X.K=K):IxR X (rIxT K):=h ▸ ix_tup
theorem pg_tupK {es:List Expr}{k:Nat}{t:TGs}{n:Nat}{pos:Pos}(hK:X.K=K) (hc:X.calm=true) (h:PGs X es t)
    (hn:(assignEach es X.env).length=n:=by rfl) (hst:(assignEach es X.env).findIdx? (·.1)=none:=by rfl):PG X (.Tuple es k pos) (gTup K n t):=hK ▸ pg_tup hc h hn hst
end
end L2
namespace L2
open PySem
structure StOk (K:PySem.W.Frag) (H:Hp) (st:Addr):Prop where
  ex:∃ (c:Addr) (cs:List Int) (p q r:Int),H st=some (.lst [.ref c,.int p,.int q,.int r])∧H c=some (.lst (cs.map V.int))∧c ≠ st∧1 ≤ cs.length∧cs.length ≤ 63∧0 ≤ p∧0 ≤ q∧0 ≤ r∧r < 2147483647
theorem sz {n:Nat}(h:n ≤ 1000):n ≤ sizeLine:=Nat.le_trans h (by decide)
end L2
namespace Mt
open PySem
noncomputable def numD:PyData→Bool
  | .int _=>true
  | _=>false
noncomputable def withinD (a b:Int):PyData→Bool
  | .int i=>decide (a ≤ i) && decide (i ≤ b)
  | _=>false
theorem p6:(10:Int) ^ (6:Int).toNat=1000000:=by decide
end Mt
namespace Mt
open PySem L2
structure Itm (w k:Nat) (d:PyData):Prop where
  sh:d.showable=true
  lv:d.leavesShort 60=true
  wt:d.weight ≤ w
  dp:d.depth ≤ k
  nd:d.hasDict=false
theorem log2_le {n:Nat}(h:n < 10 ^ 41):n.log2 < 140:=by
  by_cases h0:n=0
  · subst h0; decide
  · exact (Nat.log2_lt h0).mpr (Nat.lt_of_lt_of_le h (by decide))
theorem itm_int {i:Int}(h:i.natAbs < 10 ^ 41):Itm 140 0 (.int i):=by
  have hl:=log2_le h
  refine ⟨?_,?_,?_,Nat.le_refl _,rfl⟩
  · simp only [PyData.showable,decide_eq_true_eq]; omega
  · have e:=int_text_length_le10 (k:=41) (by decide) h
    have e':(PyData.shown (.int i)).length=(toString i).length:=ofString_length _
    simp only [PyData.leavesShort,decide_eq_true_eq,e']; omega
  · simp only [PyData.weight]
    split <;> omega
noncomputable def cpsOk (x:Str):Prop:=(x.cps.toList.all fun c=>decide (c < 16 ^ 8))=true
theorem itm_str {x:Str}(h:cpsOk x) (hl:x.length ≤ 140):Itm 140 0 (.str x):=⟨rfl,h,hl,Nat.le_refl _,rfl⟩
noncomputable def pr (p:Int×Int):PyData:=.tuple [.int p.1,.int p.2]
noncomputable def okP:Int→Int→List (Int×Int)→Prop
  | _,_,[]=>True
  | l,f,(a,b) :: r=>l < a∧a ≤ 1000000000∧f ≤ b∧b ≤ 1000000∧okP a b r
structure HOK (hs:List (Int×Int)):Prop where
  len1:1 ≤ hs.length
  len2:hs.length ≤ 60
  ok:okP (-1) 0 hs
  zero:∃ a r,hs=(a,0) :: r
end Mt
namespace L2
open PySem
theorem sub_not {N N':List Addr}(h:∀ b ∈ N',b ∈ N) {a:Addr}(n:a ∉ N):a ∉ N':=fun z=>n (h a z)
mutual
theorem Dt.weaken {K:PySem.W.Frag}{N N':List Addr}{H:Hp}(h:∀ b ∈ N',b ∈ N):∀ {v:V}{d:PyData},Dt K N H v d→Dt K N' H v d
  | _,_,.non=>.non
  | _,_,.bl b=>.bl b
  | _,_,.int i=>.int i
  | _,_,.str x=>.str x
  | _,_,.tup q n r=>.tup q (sub_not h n) (DtAll.weaken h r)
  | _,_,.lst q n r=>.lst q (sub_not h n) (DtAll.weaken h r)
  | _,_,.dk0 q n=>.dk0 q (sub_not h n)
  | _,_,.dk1 q n r=>.dk1 q (sub_not h n) (Dt.weaken h r)
theorem DtAll.weaken {K:PySem.W.Frag}{N N':List Addr}{H:Hp}(h:∀ b ∈ N',b ∈ N):∀ {vs:List V}{ds:List PyData},DtAll K N H vs ds→DtAll K N' H vs ds
  | _,_,.nil=>.nil
  | _,_,.cons q r=>.cons (Dt.weaken h q) (DtAll.weaken h r)
end
theorem DtAll.snoc {K:PySem.W.Frag}{N:List Addr}{H:Hp}:∀ {ds:List PyData}{d:PyData}{vs:List V},DtAll K N H vs (ds ++ [d])→∃ ws v,vs=ws ++ [v]∧DtAll K N H ws ds∧Dt K N H v d
  | [],d,_,.cons h .nil=>⟨[],_,rfl,.nil,h⟩
  | _ :: ds,d,_,.cons h r=>by
    obtain ⟨ws,v,rfl,h1,h2⟩:=DtAll.snoc r
    exact ⟨_ :: ws,v,rfl,.cons h h1,h2⟩
theorem rd_seqK {t u:TS}{D:Ends}{σ:St}{H:Hp}(P:St→Hp→Prop) (hu:∀ σ' H',P σ' H'→u D σ' H') (h:(∀ σ' H',P σ' H'→u D σ' H')→t { D with nx:=u D } σ H):tSeq t u D σ H:=h hu
noncomputable def tTupA (t:TA):TE:=fun σ H Q=>t σ H fun xs H1=>xs.length ≤ sizeLine∧∀ p H',H1 p=none→Same H1 H'→H' p=some (.tup xs)→Q (.ref p) H'
noncomputable def tLstA (t:TA):TE:=fun σ H Q=>t σ H fun xs H1=>xs.length ≤ sizeLine∧∀ p H',H1 p=none→Same H1 H'→H' p=some (.lst xs)→Q (.ref p) H'
noncomputable def rCatA:R2:=fun x y H Q=>∃ l b xs zs,x = .ref l∧y = .ref b∧H l=some (.lst xs)∧H b=some (.lst zs)∧xs.length + zs.length ≤ sizeLine∧∀ p H',H p=none→Same H H'→H' p=some (.lst (xs ++ zs))→Q (.ref p) H'
noncomputable def rTupleA (K:PySem.W.Frag):TR:=fun xs H Q=>∃ p ys,xs = [.ref p]∧(SqL K H p ys∨SqT K H p ys)∧∀ l H',(l=p∨H l=none)→Same H H'→SqT K H' l ys→Q (.ref l) H'
section
open PyProof.Rows
variable {X:Cx}{es:List Expr}{t:TA}{pos:Pos}{K:PySem.W.Frag}
theorem pe_tupA {x1}(h:PA X es t):PE X (.Tuple es x1 pos) (tTupA t):=by
  intro pins s σ H Q I hq
  refine wpAny_Tuple_spliced (thn (h pos pins s σ H _ I hq) fun us s1 ⟨xs,H1,I1,r,z,q⟩=>⟨by rw [← r.length]; exact z,?_⟩)
  have hf:H1 s1.heap.objs.size=none:=I1.hok.fresh (Nat.le_refl _)
  exact ⟨.ref s1.heap.objs.size,upd H1 s1.heap.objs.size (.tup xs),I1.laid (t':=s1.toks) (fun b u e=>Heap.get?_push_of_some _ e) (Nat.le_refl _) ⟨z,us,r,⟨_,Heap.get?_push_size _ rfl,rfl,_,rfl⟩⟩,rfl,q _ _ hf (Same.upd hf) upd_same⟩
theorem pe_lstA (h:PA X es t):PE X (.List es pos) (tLstA t):=by
  intro pins s σ H Q I hq
  refine wpAny_List_spliced (thn (h pos pins s σ H _ I hq) fun us s1 ⟨xs,H1,I1,r,z,q⟩=>⟨by rw [← r.length]; exact z,?_⟩)
  have hf:H1 s1.heap.objs.size=none:=I1.hok.fresh (Nat.le_refl _)
  exact ⟨.ref s1.heap.objs.size,upd H1 s1.heap.objs.size (.lst xs),I1.laid (t':=s1.toks) (fun b u e=>Heap.get?_push_of_some _ e) (Nat.le_refl _) ⟨z,us,0,r,Heap.get?_push_size _ rfl⟩,rfl,q _ _ hf (Same.upd hf) upd_same⟩
theorem op_catA:OpR X (binaryOp .Add) rCatA:=fun pins s σ H x y v u Q I rx ry ⟨l,b,xs,zs,h1,h2,h3,h4,h5,h6⟩=>op_cat pins s σ H x y v u Q I rx ry ⟨l,b,xs,zs,h1,h2,h3,h4,h5,fun p hp=>h6 p _ hp (Same.upd hp) upd_same⟩
theorem cn_tupleA (hK:X.K=K):CallR X (.type "tuple") (rTupleA K):=fun pins s σ H xs us Q I r ⟨p,ys,h1,h2,h3⟩=>cn_tuple pins s σ H xs us Q I r ⟨p,ys,h1,by
  rw [hK]
  rcases h2 with h2 | h2
  · exact .inl ⟨h2,fun l hl=>h3 l _ (.inr hl) (Same.upd hl) (SqT.of upd_same)⟩
  · exact .inr ⟨h2,h3 p H (.inl rfl) (Same.refl H) h2⟩⟩
end
section
variable {σ:St}{H:Hp}{Q:VK}{K:PySem.W.Frag}{ta:TA}{p q:Addr}{xs ys:List V}
theorem rd_tupA (h:ta σ H fun xs H1=>xs.length ≤ sizeLine∧∀ p H',H1 p=none→Same H1 H'→H' p=some (.tup xs)→Q (.ref p) H'):tTupA ta σ H Q:=h
theorem rd_lstA (h:ta σ H fun xs H1=>xs.length ≤ sizeLine∧∀ p H',H1 p=none→Same H1 H'→H' p=some (.lst xs)→Q (.ref p) H'):tLstA ta σ H Q:=h
theorem rd_catA (h1:H p=some (.lst xs)) (h2:H q=some (.lst ys)) (hz:xs.length + ys.length ≤ sizeLine) (h:∀ r H',H r=none→Same H H'→H' r=some (.lst (xs ++ ys))→Q (.ref r) H'):rCatA (.ref p) (.ref q) H Q:=⟨p,q,xs,ys,rfl,rfl,h1,h2,hz,h⟩
theorem rd_tupleAL (hq:SqL K H p xs) (h:∀ l H',(l=p∨H l=none)→Same H H'→SqT K H' l xs→Q (.ref l) H'):rTupleA K [.ref p] H Q:=⟨p,xs,rfl,.inl hq,h⟩
end
structure Trk (K:PySem.W.Frag) (N:List Addr) (H:Hp) (st:Addr):Prop where
  so:StOk K H st
  mem:st ∈ N
  tr:∀ b ∈ N,H b ≠ none
mutual
theorem Dt.fresh {K:PySem.W.Frag}{N:List Addr}{H:Hp}{p:Addr}(h:H p=none) (k:K.lookup p=none):∀ {v:V}{d:PyData},Dt K N H v d→Dt K (p :: N) H v d
  | _,_,.non=>.non
  | _,_,.bl b=>.bl b
  | _,_,.int i=>.int i
  | _,_,.str x=>.str x
  | _,_,.tup q n r=>.tup q (by
      rw [List.mem_cons,not_or]
      refine ⟨?_,n⟩
      rintro rfl
      rcases q with (q | ⟨o,q⟩) | ⟨o,its,m,q,_⟩
      · rw [h] at q; cases q
      · rw [h] at q; cases q
      · rw [k] at q; cases q) (DtAll.fresh h k r)
  | _,_,.lst q n r=>.lst q (by
      rw [List.mem_cons,not_or]
      refine ⟨?_,n⟩
      rintro rfl
      rcases q with (q | ⟨o,q⟩) | ⟨o,its,m,q,_⟩
      · rw [h] at q; cases q
      · rw [h] at q; cases q
      · rw [k] at q; cases q) (DtAll.fresh h k r)
  | _,_,.dk0 q n=>.dk0 q (by
      rw [List.mem_cons,not_or]
      refine ⟨?_,n⟩
      rintro rfl
      rw [h] at q; cases q)
  | _,_,.dk1 q n r=>.dk1 q (by
      rw [List.mem_cons,not_or]
      refine ⟨?_,n⟩
      rintro rfl
      rw [h] at q; cases q) (Dt.fresh h k r)
theorem DtAll.fresh {K:PySem.W.Frag}{N:List Addr}{H:Hp}{p:Addr}(h:H p=none) (k:K.lookup p=none):∀ {vs:List V}{ds:List PyData},DtAll K N H vs ds→DtAll K (p :: N) H vs ds
  | _,_,.nil=>.nil
  | _,_,.cons q r=>.cons (Dt.fresh h k q) (DtAll.fresh h k r)
end
theorem Ext.mono {N N':List Addr}{H H':Hp}(e:Ext N H H') (h:∀ b ∈ N,b ∈ N'):Ext N' H H':=fun b u q n=>e b u q fun z=>n (h b z)
theorem Ext.up {N:List Addr}{st:Addr}{H H':Hp}(e:Ext [st] H H') (h:st ∈ N):Ext N H H':=e.mono fun b hb=>by
  have:b=st:=by simpa using hb
  rw [this]; exact h
theorem StOk.acc {K:PySem.W.Frag}{H:Hp}{st acc:Addr}{vs:List V}{o:HO}(S:StOk K H st) (n:acc ≠ st) (ha:H acc=some (.lst vs)) (hr:∀ v ∈ vs,∃ q,v = .ref q):StOk K (upd H acc o) st:=by
  obtain ⟨c,cs,p,q,r,h1,h2,h3,h4,h5⟩:=S.ex
  refine ⟨c,cs,p,q,r,by rw [upd_ne (Ne.symm n)]; exact h1,?_,h3,h4,h5⟩
  have ncf:c ≠ acc:=fun z=>by
    subst z
    rw [ha] at h2
    have e:vs=cs.map V.int:=by injection h2 with h2; injection h2
    cases cs with
    | nil=>simp at h4
    | cons i cs =>
      obtain ⟨q,hq⟩:=hr (.int i) (by rw [e]; simp)
      cases hq
  rw [upd_ne ncf]; exact h2
end L2
namespace L2
open PySem PySem.Spec PyProof.Rows
noncomputable def notStar:Expr→Bool
  | .Starred ..=>false
  | _=>true
noncomputable def noStars:List Expr→Bool
  | []=>true
  | e :: r=>notStar e && noStars r
theorem star_ne {e:Expr}{r:List Expr}{env:Env}(h:notStar e=true):starEach (e :: r) env=(false,eval e env) :: starEach r env:=by
  cases e <;> first | rfl | cases h
theorem stars_any {pos:Pos}{env:Env}:∀ {es:List Expr},noStars es=true→(backTo pos (starEach es env)).any (·.1)=false
  | [],_=>rfl
  | e :: r,h=>by
    simp only [noStars,Bool.and_eq_true] at h
    rw [star_ne h.1]
    show (false || (backTo pos (starEach r env)).any (·.1))=false
    rw [stars_any h.2]; rfl
section
variable {X:Cx}{e:Expr}{es:List Expr}{te:TE}{t:TA}{pos p:Pos}{CX:CXT}{k:Nat}{f:Addr}{fd:FuncData}{ps:List Str}{sp:Sp}{dvs:List V}{ds:List Value}{E:XK}{x:Str}{id Ty:String}{r:List V→Hp→VK→Prop}
theorem paN (ha:PE X e te) (hr:PA X es t) (h:notStar e=true:=by rfl):PA X (e :: es) (tCons te t):=pa_cons ha hr (star_ne h)
theorem peN_call (F:FnOk X.prog X.w X.K X.mg X.base CX k f fd ps sp) (hr:Room k X.A) (hg:Gl X x) (hm:X.mg x=some (.ref f)) (hk:PySem.W.keepIn X.K (.ref f)=true) (hb:Binds X.K fd ps ds) (hd:Vals dvs ds) (hx:Passes CX X E)
    (ha:PA X (e :: es) t) (hdb:(x == ("__debug__":Str))=false:=by decide) (h1:notStar e=true:=by rfl) (h2:noStars es=true:=by rfl):PE X (.Call (.Name x p) (e :: es) [] pos) (tCall sp dvs E t) :=
  pe_call F hr hg hm hk hb hd hx ha hdb (star_ne h1) (stars_any h2)
theorem peN_callB (hc:CallR X (.builtin id) r) (hg:Gl X x) (hm:X.mg x=none) (hv:bootBuiltins x=some (.builtin id)) (ha:PA X (e :: es) t) (hn:x ≠ "__name__":=by decide) (hdb:(x == ("__debug__":Str))=false:=by decide)
    (h1:notStar e=true:=by rfl) (h2:noStars es=true:=by rfl):PE X (.Call (.Name x p) (e :: es) [] pos) (tCB r t):=pe_callB hc hg hm hv ha hn hdb (star_ne h1) (stars_any h2)
theorem peN_callTy (hc:CallR X (.type Ty) r) (hg:Gl X x) (hm:X.mg x=none) (hv:bootBuiltins x=some (.type Ty)) (ha:PA X (e :: es) t) (hn:x ≠ "__name__":=by decide) (hdb:(x == ("__debug__":Str))=false:=by decide)
    (h1:notStar e=true:=by rfl) (h2:noStars es=true:=by rfl):PE X (.Call (.Name x p) (e :: es) [] pos) (tCB r t):=pe_callTy hc hg hm hv ha hn hdb (star_ne h1) (stars_any h2)
end
structure PAs (X:Cx) (es:List Expr) (t:TA):Prop where
  run:PA X es t
section
variable {X:Cx}{e o:Expr}{es:List Expr}{te to:TE}{t:TA}{pos p apos cpos:Pos}{CX:CXT}{k:Nat}{f:Addr}{fd:FuncData}{ps:List Str}{sp:Sp}{dvs:List V}{ds:List Value}{E:XK}{x name:Str}{id Ty T:String}{r:List V→Hp→VK→Prop}{rm:V→List V→Hp→VK→Prop}
theorem qa_nil:PAs X [] tNil:=⟨pa_nil⟩
theorem qa (ha:PE X e te) (hr:PAs X es t) (h:notStar e=true):PAs X (e :: es) (tCons te t):=⟨paN ha hr.run h⟩
theorem qe_tup {x1}(h:PAs X es t):PE X (.Tuple es x1 pos) (tTup t):=pe_tup h.run
theorem qe_lst (h:PAs X es t):PE X (.List es pos) (tLst t):=pe_lst h.run
theorem qe_tupA {x1}(h:PAs X es t):PE X (.Tuple es x1 pos) (tTupA t):=pe_tupA h.run
theorem qe_lstA (h:PAs X es t):PE X (.List es pos) (tLstA t):=pe_lstA h.run
theorem qe_call (F:FnOk X.prog X.w X.K X.mg X.base CX k f fd ps sp) (hr:Room k X.A) (hg:Gl X x) (hm:X.mg x=some (.ref f)) (hk:PySem.W.keepIn X.K (.ref f)=true) (hb:Binds X.K fd ps ds) (hd:Vals dvs ds) (hx:Passes CX X E)
    (ha:PAs X (e :: es) t) (hdb:(x == ("__debug__":Str))=false) (h1:notStar e=true) (h2:noStars es=true):PE X (.Call (.Name x p) (e :: es) [] pos) (tCall sp dvs E t):=peN_call F hr hg hm hk hb hd hx ha.run hdb h1 h2
theorem qe_callB (hc:CallR X (.builtin id) r) (hg:Gl X x) (hm:X.mg x=none) (hv:bootBuiltins x=some (.builtin id)) (ha:PAs X (e :: es) t) (hn:x ≠ "__name__") (hdb:(x == ("__debug__":Str))=false)
    (h1:notStar e=true) (h2:noStars es=true):PE X (.Call (.Name x p) (e :: es) [] pos) (tCB r t):=peN_callB hc hg hm hv ha.run hn hdb h1 h2
theorem qe_callTy (hc:CallR X (.type Ty) r) (hg:Gl X x) (hm:X.mg x=none) (hv:bootBuiltins x=some (.type Ty)) (ha:PAs X (e :: es) t) (hn:x ≠ "__name__") (hdb:(x == ("__debug__":Str))=false)
    (h1:notStar e=true) (h2:noStars es=true):PE X (.Call (.Name x p) (e :: es) [] pos) (tCB r t):=peN_callTy hc hg hm hv ha.run hn hdb h1 h2
variable {tg a b:Expr}{ta:TA}
theorem qi_range1 (hg:Gl X "range") (hm:X.mg "range" = none) (ha:PAs X [a] ta) (h1:notStar a=true):PI X tg (.Call (.Name "range" p) [a] [] pos) (iRng1 ta):=pi_range1 hg hm ha.run (star_ne h1)
end
structure PSw (X:Cx) (st:Stmt) (t:TS):Prop where
  run:PS X st t
structure PSsw (X:Cx) (sts:List Stmt) (t:TS):Prop where
  run:PSs X sts t
section
variable {X:Cx}{st:Stmt}{rest body a b:List Stmt}{t u tb:TS}{e tg c iter elt target:Expr}{es ifs:List Expr}{te:TE}{tc tt:TT}{g:TG}{ta:TA}{wi:TI}{pos pos' spos:Pos}{i:Nat}{x:Str}
theorem qss_nil:PSsw X [] tNext:=⟨pss_nil⟩
theorem qss_one (h:PSw X st t):PSsw X [st] t:=⟨pss_one h.run⟩
theorem qss_cons (h1:PSw X st t) (h2:PSsw X rest u):PSsw X (st :: rest) (tSeq t u):=⟨pss_cons h1.run h2.run⟩
theorem qs_ret (he:PE X e te):PSw X (.Return (some e) pos) (tRet te):=⟨ps_ret he⟩
theorem qs_if (hc:PT X c tc) (ha:PSsw X a t) (hb:PSsw X b u):PSw X (.If c a b pos) (tIfS tc t u):=⟨ps_if hc ha.run hb.run⟩
theorem qs_expr (he:PE X e te) (hs:swapsWith e none pos.line X.env=pure false):PSw X (.Expr e pos) (tDrop te):=⟨ps_expr he hs⟩
theorem qs_set (hN:X.N.Nodup) (hi:X.N[i]? = some x) (hx:Loc X.env.scope x) (he:PE X e te) (hs:swapsWith e (some (.Name x pos')) pos.line X.env=pure false) (hf:X.fn x=true∨X.env.scope.names.lookup x=some .local) :
    PSw X (.Assign [.Name x pos'] e pos) (tAsg te (gName i)):=⟨ps_set hN hi hx he hs hf⟩
theorem qs_setLA (hN:X.N.Nodup) (hi:X.N[i]? = some x) (hx:Loc X.env.scope x) (h:PAs X es ta) (hf:X.fn x=true∨X.env.scope.names.lookup x=some .local) :
    PSw X (.Assign [.Name x pos'] (.List es spos) pos) (tAsg (tLstA ta) (gName i)):=⟨ps_set hN hi hx (pe_lstA h.run) rfl hf⟩
theorem qs_asg (he:PE X e te) (hg:PG X tg g) (hs:swapsWithSole [tg] e pos.line X.env=pure false) (hw:swappedStores [tg] e X.env=pure none) (h1:(assignEach [tg] X.env).map (·.2) = [assign tg X.env]):PSw X (.Assign [tg] e pos) (tAsg te g):=⟨ps_asg he hg hs hw h1⟩
theorem qs_for (hp:PassesOwn (model X.prog X.w) X.A X.env X.xe) (hc:X.calm=true) (hi:PI X tg iter wi) (hg:PG X tg g) (hb:PSsw X body tb) (hs:∀ x,foldedSetIterable iter X.env x=pure x):PSw X (.For tg iter body [] pos) (tFor wi g tb):=⟨ps_for hp hc hi hg hb.run hs⟩
theorem qs_setComp {sc:Scope}{cl:List (Str×Addr)}{NC:List Str}{fr:List (Option Nat)}(hN:X.N.Nodup) (hi':X.N[i]? = some x) (hx:Loc X.env.scope x) (B:Blk X sc cl NC fr) (hc:X.calm=true) (hi:PI X target iter wi) (hg:∀ fp s H,PG (cxC X sc cl NC fp s H) target g) (ht:∀ fp s H,PF (cxC X sc cl NC fp s H) ifs tt) (he:∀ fp s H,PE (cxC X sc cl NC fp s H) elt te)
    (hsw:swapsWith (.ListComp elt [⟨target,iter,ifs,0⟩] sc pos) (some (.Name x pos')) spos.line X.env=pure true) (hs:∀ x,foldedSetIterable iter X.env x=pure x) (hf:X.fn x=true∨X.env.scope.names.lookup x=some .local) :
    PSw X (.Assign [.Name x pos'] (.ListComp elt [⟨target,iter,ifs,0⟩] sc pos) spos) (tAsg (tComp X.K fr wi g tt te) (gName i)):=⟨ps_setComp hN hi' hx B hc hi hg ht he hsw hs hf⟩
end
end L2
namespace L2
open PySem
theorem exW {X:Cx}{sts:List Stmt}{P:TS→Prop}(h:∃ t,PSsw X sts t∧P t):∃ t,PSs X sts t∧P t:=let ⟨t,h1,h2⟩:=h; ⟨t,h1.run,h2⟩
end L2
namespace HT
open PySem PyProof.Rows
section
open PySem.SeqAt
open PySem.AutoSeq1 (wpAny_loadPart')
open PySem.MeetsSeq PySem.MeetsSeq2 PySem.MeetsSeq3
end
section
variable {prog:Program}{w:World}{A:Around}{E:Value→Shared→Prop}{s:Shared}
end
end HT
namespace L2
open PySem PySem.Spec PyProof.Rows
noncomputable def rIsnB:R2:=fun x y H Q=>∃ a b,x = .bl a∧y = .bl b∧Q (.bl (a != b)) H
section
variable {X:Cx}
theorem on_isnB:OpR X (compareOp .IsNot) rIsnB:=by
  intro pins s σ H x y v u Q I rx ry h
  obtain ⟨a,b,rfl,rfl,q⟩:=h
  cases rx
  cases ry
  exact isnot_bool (fin_bl I q rfl)
end
section
variable {H:Hp}{Q:VK}{K:PySem.W.Frag}{p q:Addr}{ns ms:List Int}
theorem rd_isnB {a b:Bool}(h:Q (.bl (a != b)) H):rIsnB (.bl a) (.bl b) H Q:=⟨a,b,rfl,rfl,h⟩
end
theorem for_zipW {K:PySem.W.Frag}{a b:Addr}{xs ys:List V}{g:TG}{tb:TS}{D:Ends}{σ:St}{H:Hp}(hxy:xs.length=ys.length) (Pv:Nat→St→Hp→Prop) (h0:Pv 0 σ H) (hl:∀ i σ H,i ≤ xs.length→Pv i σ H→SqT K H a xs∧SqT K H b ys)
    (hs:∀ i x y p σ H,xs[i]? = some x→ys[i]? = some y→H p=none→Pv i σ H→g (.ref p) σ (upd H p (.tup [x,y])) fun σ2 H2=>tb { D with nx:=Pv (i + 1),ct:=Pv (i + 1),bk:=D.nx } σ2 H2) (hd:∀ σ H,Pv xs.length σ H→D.nx σ H):ForW (Itz K a b) g tb D σ H:=by
  refine ⟨fun i m σ H=>m=xs.length - i∧i ≤ xs.length∧Pv i σ H,⟨xs.length,by simp,Nat.zero_le _,h0⟩,?_⟩
  rintro i m σ H ⟨rfl,hi,p⟩
  obtain ⟨q1,q2⟩:=hl i σ H hi p
  by_cases hlt:i < xs.length
  · refine .inr ⟨⟨xs,ys,xs[i],ys[i],q1,q2,by simp [hlt],by simp⟩,Pv (i + 1),fun σ' H' p'=>⟨xs.length - (i + 1),by omega,rfl,hlt,p'⟩,?_⟩
    rintro x H' ⟨r,x1,y1,hn,hx,hy,rfl,rfl⟩
    exact hs i x1 y1 r σ _ (hx xs q1) (hy ys q2) hn p
  · have e:i=xs.length:=by omega
    subst e
    exact .inl ⟨⟨xs,ys,q1,q2,.inl (Nat.le_refl _)⟩,hd σ H p⟩
theorem Inv.nk {X:Cx}{pins:List (Addr×Obj)}{σ:St}{H:Hp}{s:Shared}(I:Inv X pins σ H s):X.K.lookup s.heap.objs.size=none:=by
  cases q:X.K.lookup s.heap.objs.size with
  | none=>rfl
  | some o=>exact absurd (Heap.lt_size (I.kIn _ o q)) (Nat.lt_irrefl _)
end L2
namespace L2
theorem rd_iteG {c A B:Prop}{i:Decidable c}(h:@ite Prop c i A B):@ite Prop c i A B:=h
end L2
namespace Mt
open PySem L2
mutual
noncomputable def tupOnly:PyData→Bool
  | .none=>true
  | .int _=>true
  | .str _=>true
  | .tuple es=>tupOnlyAll es
  | _=>false
noncomputable def tupOnlyAll:List PyData→Bool
  | []=>true
  | e :: es=>tupOnly e && tupOnlyAll es
end
noncomputable def isNoneD:PyData→Bool
  | .none=>true
  | _=>false
noncomputable def intEq (j:Int):PyData→Bool
  | .int i=>decide (i=j)
  | _=>false
noncomputable def strEq (t:Str):PyData→Bool
  | .str u=>decide (u=t)
  | _=>false
noncomputable def subs:PyData→Option (List PyData)
  | .tuple ds=>some ds
  | _=>none
mutual
noncomputable def alikeD:PyData→PyData→Bool
  | .none,d=>isNoneD d
  | .int j,d=>intEq j d
  | .str t,d=>strEq t d
  | .tuple es,d=>match subs d with
    | some ds=>alikeAll es ds
    | none=>false
  | _,_=>false
noncomputable def alikeAll:List PyData→List PyData→Bool
  | [],ds=>ds.isEmpty
  | e :: es,ds=>match ds with
    | []=>false
    | d :: ds=>alikeD e d && alikeAll es ds
end
theorem depth_at:∀ {es:List PyData}{e:PyData}{n:Nat},PyData.depthAll es ≤ n→e ∈ es→e.depth ≤ n
  | x :: es,e,n,h,m=>by
    simp only [PyData.depthAll] at h
    rcases List.mem_cons.mp m with rfl | m
    · exact Nat.le_trans (Nat.le_max_left _ _) h
    · exact depth_at (Nat.le_trans (Nat.le_max_right _ _) h) m
end Mt
namespace L2
open PySem PySem.Spec PyProof.Rows
noncomputable def Aloft (N:Addr→Prop) (h:Heap) (e:Addr) (C:Value) (dx:Option Addr) (fl:Value):Prop :=
  ∃ oe vs,h.get? e=some oe∧oe.cls=C∧oe.dict=dx∧oe.data = .fields vs∧1 < vs.size ∧
    (vs[1]? = some .none∧fl = .none∨∃ T oT ts,vs[1]? = some (.ref T)∧N T∧T ≠ e∧h.get? T=some oT∧oT.data = .fields ts∧ts[3]? = some fl)
theorem dict_mapF (o:Obj) (f:Array Value→Array Value):(o.mapFields f).dict=o.dict:=by
  obtain ⟨c,d,dt,sl⟩:=o
  cases dt <;> rfl
noncomputable def Stn (N:Addr→Prop) (fs:List Addr) (e:Addr) (h h':Heap):Prop :=
  ∀ b o,b ≠ e→¬ N b→h.get? b=some o→(∃ sl,h'.get? b=some { o with slots:=sl })∧(b ∉ fs→h'.get? b=some o)
theorem Stn.refl {N:Addr→Prop}{fs:List Addr}{e:Addr}{h:Heap}:Stn N fs e h h:=fun b o _ _ q=>⟨⟨o.slots,q⟩,fun _=>q⟩
theorem Stn.trans {N:Addr→Prop}{fs:List Addr}{e:Addr}{h h1 h2:Heap}(a:Stn N fs e h h1) (b:Stn N fs e h1 h2):Stn N fs e h h2:=fun c o n1 n2 q=>by
  obtain ⟨⟨sl,q1⟩,k1⟩:=a c o n1 n2 q
  obtain ⟨⟨sl2,q2⟩,_⟩:=b c _ n1 n2 q1
  exact ⟨⟨sl2,q2⟩,fun hc=>(b c o n1 n2 (k1 hc)).2 hc⟩
section
variable {M:Model}{A:Around}{E:Value→Shared→Prop}{s:Shared}{N:Addr→Prop}{base:Heap}{env:Env}{outer:List Env}{L e:Addr}{C:Value}{dx:Option Addr}
theorem stn_turn {T:Addr}{f:Obj→Obj}{h:Heap}(hN:N T):Stn N fs e h (h.update T f):=fun b o n1 n2 q=>by
  have:T ≠ b:=fun z=>n2 (z ▸ hN)
  exact ⟨⟨o.slots,(Heap.get?_update_other _ _ this).trans q⟩,fun _=>(Heap.get?_update_other _ _ this).trans q⟩
theorem mark_on {head:Value}{hadNext:Bool}{oe:Obj}{vs:Array Value}{Q:Unit→Shared→Prop}(hA:A.frames=some (env :: outer)) (hF:s.heap.FunFrames base (env :: outer)) (hL:env.frame=some L)
    (new:∀ b,s.heap.objs.size ≤ b→N b) (nf:∀ b ∈ frs (env :: outer),b ≠ e∧¬ N b) (q0:s.heap.get? e=some oe) (q1:oe.cls=C) (q2:oe.dict=dx) (q3:oe.data = .fields vs) (q4:1 < vs.size)
    (k:∀ h',Aloft N h' e C dx (rawInt L)→Stn N (frs (env :: outer)) e s.heap h'→h'.FunFrames base (env :: outer)→Q () { s with heap:=h' }) :
    wpAny M A (do setField (.ref e) 1 (← EntryCells.newEntry head (← frameOf env) .none (rawInt L) .none (← entryPlaceOf L hadNext))) Q E s:=by
  refine wpAny_bind (wpAny_frameOf_fun hA hF hL fun g x=>?_)
  refine wpAny_bind (wpAny_entryPlaceOf fun pl p=>?_)
  have k1:g.get? e=some oe:=(x.2.1 e fun z=>(nf e z).1 rfl).trans q0
  have z1:g.objs.size=s.heap.objs.size:=x.1
  unfold EntryCells.newEntry newFields
  refine wpAny_bind (wpAny_newObj_type ?_ (p.sizeOk5 _ _ _ _ _))
  generalize hob:({ cls:=.type "traceback",dict:=none,data:=.fields ([head,.ref L,.none,rawInt L,.none] ++ (if pl.isEmpty then List.replicate 6 Value.none else pl)).toArray }:Obj)=ob
  have k2:=Heap.get?_push_of_some (h:=g) ob k1
  have eT:g.objs.size ≠ e:=Nat.ne_of_gt (Heap.lt_size k1)
  have obf:ob.isFreed=false:=by rw [← hob]; rfl
  have t2:(g.push ob).get? g.objs.size=some ob:=Heap.get?_push_size g obf
  refine wpAny_setField k2 q3 q4 (k _ ?_ ?_ ?_)
  · have d3:=Obj.data_mapFields q3 (·.setIfInBounds 1 (Value.ref g.objs.size))
    refine ⟨_,_,Heap.get?_update_self _ k2 (Obj.isFreed_of_fields d3),(Obj.cls_mapFields _ _).trans q1,(dict_mapF _ _).trans q2,d3,by simpa using q4,.inr ⟨g.objs.size,ob,_,by simp [q4],new _ (by omega),eT,(Heap.get?_update_other _ _ (Ne.symm eT)).trans t2,by rw [← hob],?_⟩⟩
    first | (simp; done) | (rcases p with rfl | ⟨_,_,_,_,_,_,_,rfl⟩ <;> simp)
  · intro b o n1 n2 q
    have nT:g.objs.size ≠ b:=by rw [z1]; exact Nat.ne_of_gt (Heap.lt_size q)
    obtain ⟨sl,r⟩:=x.2.2 b o q
    exact ⟨⟨sl,(Heap.get?_update_other _ _ (Ne.symm n1)).trans (Heap.get?_push_of_some _ r)⟩,fun nb=>(Heap.get?_update_other _ _ (Ne.symm n1)).trans (Heap.get?_push_of_some _ ((x.2.1 b nb).trans q))⟩
  · have hg:=hF.of_slotsOnly x
    refine hg.of_keeps fun b o q nd=>?_
    by_cases hb:b=e
    · subst hb
      rw [k1] at q; cases q
      exact absurd q3 (nd vs)
    · exact ⟨o,(Heap.get?_update_other _ _ (Ne.symm hb)).trans (Heap.get?_push_of_some _ q),rfl⟩
theorem frames_turn {T:Addr}{oT:Obj}{ts:Array Value}{f:Obj→Obj}{h:Heap}(q:h.get? T=some oT) (hd:oT.data = .fields ts) (hF:h.FunFrames base l):(h.update T f).FunFrames base l :=
  hF.of_keeps fun b o r nd=>by
    have:T ≠ b:=fun z=>by subst z; rw [q] at r; cases r; exact nd ts hd
    exact ⟨o,(Heap.get?_update_other _ _ this).trans r,rfl⟩
theorem land {l:List Env}{fl:Value}{Q:Unit→Shared→Prop}(hF:s.heap.FunFrames base l) (a:Aloft N s.heap e C dx fl)
    (k:∀ h',Aloft N h' e C dx .none→Stn N fs e s.heap h'→h'.FunFrames base l→Q () { s with heap:=h' }):wpAny M A (setFlight (.ref e) none) Q E s:=by
  obtain ⟨oe,vs,q0,q1,q2,q3,q4,r⟩:=a
  unfold setFlight
  rcases r with ⟨r,_⟩ | ⟨T,oT,ts,r1,r2,r3,r4,r5,r6⟩
  · refine wpAny_bind (wpAny_field q0 q3 r ?_)
    rw [if_neg (by decide)]
    exact wpAny_pure (k s.heap ⟨oe,vs,q0,q1,q2,q3,q4,.inl ⟨r,rfl⟩⟩ Stn.refl hF)
  · refine wpAny_bind (wpAny_field q0 q3 r1 ?_)
    rw [if_pos (by simp)]
    have h3:3 < ts.size:=(Array.getElem?_eq_some_iff.mp r6).1
    refine wpAny_setField r4 r5 h3 (k _ ⟨oe,vs,(Heap.get?_update_other _ _ r3).trans q0,q1,q2,q3,q4,.inr ⟨T,_,_,r1,r2,r3,Heap.get?_update_self _ r4 (Obj.isFreed_of_fields (Obj.data_mapFields r5 _)),Obj.data_mapFields r5 _,by simp [h3]⟩⟩ (stn_turn r2) (frames_turn r4 r5 hF))
theorem note_on {Q:Unit→Shared→Prop}(hA:A.frames=some (env :: outer)) (hF:s.heap.FunFrames base (env :: outer)) (hL:env.frame=some L)
    (new:∀ b,s.heap.objs.size ≤ b→N b) (nf:∀ b ∈ frs (env :: outer),b ≠ e∧¬ N b) (a:Aloft N s.heap e C dx .none)
    (k:∀ h',Aloft N h' e C dx (rawInt L)→Stn N (frs (env :: outer)) e s.heap h'→h'.FunFrames base (env :: outer)→Q () { s with heap:=h' }):wpAny M A (noteFrame (.ref e) env) Q E s:=by
  obtain ⟨oe,vs,q0,q1,q2,q3,q4,r⟩:=a
  unfold noteFrame
  simp only [hL]
  rcases r with ⟨r,_⟩ | ⟨T,oT,ts,r1,r2,r3,r4,r5,r6⟩
  · refine wpAny_bind (wpAny_field q0 q3 r ?_)
    rw [if_neg (by decide)]
    exact mark_on hA hF hL new nf q0 q1 q2 q3 q4 k
  · refine wpAny_bind (wpAny_field q0 q3 r1 ?_)
    rw [if_pos (by simp)]
    refine wpAny_bind (wpAny_field r4 r5 r6 ?_)
    rw [if_neg (by simp [rawInt])]
    have h3:3 < ts.size:=(Array.getElem?_eq_some_iff.mp r6).1
    refine wpAny_bind (wpAny_setField r4 r5 h3 ?_)
    refine mark_on (s:={ s with heap:=s.heap.update T (Obj.mapFields (·.setIfInBounds 3 Value.none)) }) hA (frames_turn r4 r5 hF) hL (fun b z=>new b ?_) nf ((Heap.get?_update_other _ _ r3).trans q0) q1 q2 q3 q4 fun h' a1 a2 a3=>k h' a1 ((stn_turn r2).trans a2) a3
    simpa using z
theorem leave_on {Q:Unit→Shared→Prop}(hA:A.frames=some (env :: outer)) (hF:s.heap.FunFrames base (env :: outer)) (hL:env.frame=some L)
    (new:∀ b,s.heap.objs.size ≤ b→N b) (nf:∀ b ∈ frs (env :: outer),b ≠ e∧¬ N b) (a:Aloft N s.heap e C dx .none)
    (k:∀ h',Aloft N h' e C dx .none→Stn N (frs (env :: outer)) e s.heap h'→Q () { s with heap:=h' }):wpAny M A (leaving env (.ref e)) Q E s:=by
  unfold leaving
  refine wpAny_bind (note_on hA hF hL new nf a fun h1 a1 a2 a3=>?_)
  exact land (s:={ s with heap:=h1 }) a3 a1 fun h2 b1 b2 _=>k h2 b1 (a2.trans b2)
end
noncomputable def Since (h₀:Heap) (H:Hp) (b:Addr):Prop:=h₀.get? b=none∧H b=none
noncomputable def CX1 (P:Program) (w:World):CXT:=fun outer H s E e s' =>
  ∃ (a:Addr) (C:Value) (dx:Option Addr) (H':Hp),e = .ref a∧s'.os=s.os∧AllBare s'.gens∧Un (frs outer) [] H H' s.heap s'.heap∧HOk P w H' s'.heap∧Since s.heap H' a∧Aloft (Since s.heap H') s'.heap a C dx .none∧E C dx H'
theorem Aloft.mono {N N':Addr→Prop}{h:Heap}{e:Addr}{C:Value}{dx:Option Addr}{fl:Value}(a:Aloft N h e C dx fl) (k:∀ b,N b→N' b):Aloft N' h e C dx fl:=by
  obtain ⟨oe,vs,q0,q1,q2,q3,q4,r⟩:=a
  refine ⟨oe,vs,q0,q1,q2,q3,q4,?_⟩
  rcases r with r | ⟨T,oT,ts,r1,r2,r⟩
  · exact .inl r
  · exact .inr ⟨T,oT,ts,r1,k _ r2,r⟩
theorem since_of {P:Program}{w:World}{H H':Hp}{h h':Heap}{fs:List Addr}(u:Un fs [] H H' h h') (hok:HOk P w H' h'):∀ b,h'.objs.size ≤ b→Since h H' b:=fun b z=>by
  refine ⟨?_,hok.fresh z⟩
  cases q:h.get? b with
  | none=>rfl
  | some o =>
    obtain ⟨o',q'⟩:=u.there b o q (by simp)
    exact absurd (Nat.lt_of_lt_of_le (Heap.lt_size q') z) (Nat.lt_irrefl _)
theorem hok_stn {P:Program}{w:World}{H:Hp}{h h':Heap}{N:Addr→Prop}{fs:List Addr}{e:Addr}(hok:HOk P w H h) (st:Stn N fs e h h') (hN:∀ b,N b→H b=none) (he:H e=none) (hf:∀ b ∈ fs,H b=none):HOk P w H h':=fun a o q =>
  (hok a o q).stay (fun b u hb r=>by
    have nb:H b ≠ none:=by
      rcases hb with rfl | hb
      · rw [q]; simp
      · rw [hb]; simp
    exact (st b u (fun z=>nb (z ▸ he)) (fun z=>nb (hN b z)) r).2 fun z=>nb (hf b z)) (fun _ q=>q) fun _ _ q=>q
section
variable {P:Program}{w:World}{X:Cx}{pins:List (Addr×Obj)}{σ:St}{H H':Hp}{s s':Shared}{e:Addr}{C:Value}{dx:Option Addr}
theorem Inv.stn {h':Heap}(I:Inv X pins σ H s) (st:Stn N (frs X.stack) e s.heap h') (hN:∀ b,N b→H b=none∧s₁.heap.get? b=none) (he:H e=none∧s₁.heap.get? e=none)
    (I₁:Inv X pins σ H₁ s₁) (un:Un (frs X.stack) [] H₁ H s₁.heap s.heap):Inv X pins σ H { s with heap:=h' }:=by
  have k:∀ b o,s₁.heap.get? b=some o→∀ o',s.heap.get? b=some o'→(∃ sl,h'.get? b=some { o' with slots:=sl })∧(b ∉ frs X.stack→h'.get? b=some o'):=fun b o q o' q' =>
    st b o' (fun z=>by rw [z,he.2] at q; cases q) (fun z=>by rw [(hN b z).2] at q; cases q) q'
  have hu:Un (frs X.stack) [] H₁ H s₁.heap h':=by
    refine ⟨fun b o q n hb hx=>?_,fun b o q n hb hx=>?_,un.free,fun b o q hx=>?_,un.tups,un.frzs,un.tbls⟩
    · exact (k b o q o (un.keep b o q n hb hx)).2 hb
    · obtain ⟨sl,r⟩:=un.slot b o q n hb hx
      exact (k b o q _ r).1
    · obtain ⟨o',r⟩:=un.there b o q hx
      obtain ⟨sl,r2⟩:=(k b o q o' r).1
      exact ⟨_,r2⟩
  have ok:HOk X.prog X.w H h':=hok_stn I.hok st (fun b z=>(hN b z).1) he.1 I.stkFree
  obtain ⟨hh,g,d,t,os⟩:=s
  have e1:os=s₁.os:=I.os.trans I₁.os.symm
  subst e1
  have fin:=Inv.call (s:=s₁) (h':=h') (g':=g) (t':=t) (d':=d) (ch:=[]) I₁ hu ok I.bare (fun b z=>absurd z (by simp))
  exact fin
theorem Inv.cx1 (I:Inv X pins σ H s) (h:Un (frs X.stack) [] H H' s.heap s'.heap) (ho:s'.os=s.os) (hb:AllBare s'.gens) (hk:HOk X.prog X.w H' s'.heap):Inv X pins σ H' s':=by
  obtain ⟨hh,g,d,t,os'⟩:=s'
  obtain rfl:os'=s.os:=ho
  exact I.call (h':=hh) (g':=g) (d':=d) (t':=t) (ch:=[]) h hk hb (fun b z=>absurd z (by simp))
theorem Inv.nfr (I:Inv X pins σ H s) (he:s.heap.get? e=none):∀ b ∈ frs X.stack,b ≠ e∧¬ Since s.heap H' b:=fun b hb=>by
  obtain ⟨_,o,q,_⟩:=I.stack.mem hb
  exact ⟨fun z=>(by rw [z,he] at q; cases q),fun z=>(by rw [z.1] at q; cases q)⟩
end
theorem pass1 {P:Program}{w:World}{K:PySem.W.Frag}{mg:Str→Option Value}{base:Heap}{N:List Str}{qual:Str}{scope:Scope}{f:Addr}{cd:Value}{A:Around}{outer:List Env}{s₀:Shared}{H₀:Hp}{E:XK} :
    Passes (CX1 P w) (cxOf (CX1 P w) P w K mg base N qual scope f cd A outer s₀ H₀ E) E:=by
  intro pins σ H s e s' I h
  obtain ⟨a,C,dx,H',rfl,o1,b1,un,hok,na,al,q⟩:=h
  have J:=I.cx1 un o1 b1 hok
  refine leave_on (N:=Since s.heap H') (base:=base) (outer:=outer) (L:=s₀.heap.objs.size) I.ok.frames J.stack rfl (since_of un hok) (I.nfr na.1) al fun h' al' st=>?_
  have J2:Inv (cxOf (CX1 P w) P w K mg base N qual scope f cd A outer s₀ H₀ E) pins σ H' { s' with heap:=h' }:=J.stn (s₁:=s) (H₁:=H) st (fun b z=>⟨z.2,z.1⟩) ⟨na.2,na.1⟩ I un
  have old:∀ b,s.heap.get? b=none→s₀.heap.get? b=none:=fun b z=>by
    cases r:s₀.heap.get? b with
    | none=>rfl
    | some o =>
      obtain ⟨o',r'⟩:=I.base.there b o r (by show b ∉ ([]:List Addr); simp)
      rw [z] at r'; cases r'
  exact ⟨a,C,dx,H',rfl,J2.os,J2.bare,J2.base,J2.hok,⟨old a na.1,na.2⟩,al'.mono fun b z=>⟨old b z.1,z.2⟩,q⟩
noncomputable def Px (X:Cx) (XR:St→XK):Prop:=∀ (pins:List (Addr×Obj)) (σ:St) (H:Hp) (s:Shared) (e:Value) (s':Shared),Inv X pins σ H s→CX1 X.prog X.w X.stack H s (XR σ) e s'→X.xe e s'
theorem px1 {P:Program}{w:World}{K:PySem.W.Frag}{mg:Str→Option Value}{base:Heap}{N:List Str}{qual:Str}{scope:Scope}{f:Addr}{cd:Value}{A:Around}{outer:List Env}{s₀:Shared}{H₀:Hp}{E:XK} :
    Px (cxOf (CX1 P w) P w K mg base N qual scope f cd A outer s₀ H₀ E) (fun _=>E):=fun pins σ H s e s' I h=>pass1 pins σ H s e s' I h
noncomputable def tCallX (sp:Sp) (dvs:List V) (XR:St→XK) (t:TA):TE:=fun σ H Q=>t σ H fun vs H1=>sp (vs ++ dvs) H1 Q (XR σ)
section
variable {X:Cx}{e:Expr}{es:List Expr}{t:TA}{pos p:Pos}{k:Nat}{f:Addr}{fd:FuncData}{ps:List Str}{sp:Sp}{dvs:List V}{ds:List Value}{XR:St→XK}{x:Str}
theorem run_fnX {pins:List (Addr×Obj)}{σ:St}{H:Hp}{s:Shared}{Q:VK}{us:List Value}{vs:List V}(F:FnOk X.prog X.w X.K X.mg X.base (CX1 X.prog X.w) k f fd ps sp) (hr:Room k X.A) (hb:Binds X.K fd ps ds) (hd:Vals dvs ds) (hx:Px X XR)
    (I:Inv X pins σ H s) (r:Vals vs us) (h:sp (vs ++ dvs) H Q (XR σ)):wpAny (model X.prog X.w) X.A (call (.ref f) us) (EP X pins σ Q) X.xe s:=by
  have r2:Vals (vs ++ dvs) (us ++ ds):=r.append hd
  have hl:(us ++ ds).length=ps.length:=by rw [← r2.length]; exact F.len _ _ _ _ h
  refine wpAny_call (codeAny_mono (F.run X.A X.stack s H ⟨us,[]⟩ (us ++ ds) (vs ++ dvs) Q (XR σ) hr I.env0 (hb s us I.kIn hl) r2 h) fun r s' hq=>?_)
  cases r with
  | error e=>exact hx pins σ H s e s' I hq
  | ok fl =>
    cases fl with
    | ret u=>exact I.after hq
    | next=>exact False.elim hq
    | brk=>exact False.elim hq
    | cont=>exact False.elim hq
theorem qe_callX (F:FnOk X.prog X.w X.K X.mg X.base (CX1 X.prog X.w) k f fd ps sp) (hr:Room k X.A) (hg:Gl X x) (hm:X.mg x=some (.ref f)) (hk:PySem.W.keepIn X.K (.ref f)=true) (hb:Binds X.K fd ps ds) (hd:Vals dvs ds) (hx:Px X XR)
    (ha:PAs X (e :: es) t) (hdb:(x == ("__debug__":Str))=false) (h1:notStar e=true) (h2:noStars es=true):PE X (.Call (.Name x p) (e :: es) [] pos) (tCallX sp dvs XR t):=by
  intro pins s σ H Q I h
  refine wpAny_Call_Name_kw (ld_glob I hg hm ?_ hdb)
  refine PySem.W.callWith_K (h₀:=X.base) I.ok.mod.kin hk (thn (ha.run pos pins s σ H _ I h) fun us s1 ⟨vs,H1,I1,r,q⟩=>⟨I1.kIn,?_⟩) (star_ne h1) (stars_any h2)
  exact run_fnX F hr hb hd hx I1 r q
end
theorem Fun.okX {P:Program}{w:World}{K:PySem.W.Frag}{mg:Str→Option Value}{base:Heap}{x qual:Str}{st:Stmt}{f:Addr}{fd:FuncData}{N ps:List Str}{k:Nat}{sp:Sp}(F:Fun K x qual st f fd) (S:FnScope N ps (defScope st)) (len:∀ vs H Q E,sp vs H Q E→vs.length=ps.length)
    (hbody:∀ (cdv:Value) (A:Around) (outer:List Env) (s:Shared) (H:Hp) (vs:List V) (Q:VK) (E:XK),Room k (A.deeper (envOfC qual (defScope st) s.heap.objs.size f cdv))→sp vs H Q E →
      ∃ t,PSs (cxOf (CX1 P w) P w K mg base N qual (defScope st) f cdv A outer s H E) (defBody st) t∧t { nx:=fun _ H'=>Q .non H',rt:=Q } (start N vs) H):FnOk P w K mg base (CX1 P w) (k + 1) f fd ps sp:=by
  obtain ⟨oc,od,kV,doc,pm,an,cdv,ct,osl,rfl,lk,hcd⟩:=F.ex
  exact fn_of lk hcd S len fun A outer s H vs Q E hr hsp=>hbody cdv A outer s H vs Q E hr hsp
noncomputable def Cx.tr (X:Cx) (xe':Value→Shared→Prop) (pn':List (Addr×Obj)):Cx:={ X with xe:=xe',pn:=X.pn ++ pn' }
noncomputable def Cx.su (X:Cx) (e:Addr):Cx:={ X with A:=X.A.mark (some (.ref e)),calm:=false,xe:=fun _ _=>False }
section
variable {X:Cx}{pins pins' pn':List (Addr×Obj)}{σ:St}{H:Hp}{s:Shared}{xe':Value→Shared→Prop}{e:Addr}
theorem Cx.Ok.tr (ok:X.Ok):(X.tr xe' pn').Ok:=⟨ok.mod,ok.kind,ok.glob,ok.blt,ok.above,ok.inj,ok.has,ok.cab,ok.hd,ok.frames,ok.stk,ok.exf,ok.bs,ok.bsz,ok.noex,ok.exfs,ok.funs,ok.frf⟩
theorem Cx.Ok.su (ok:X.Ok):(X.su e).Ok:=⟨ok.mod,ok.kind,ok.glob,ok.blt,ok.above,ok.inj,ok.has,ok.cab,fun z=>(by cases z),ok.frames,ok.stk,ok.exf,ok.bs,ok.bsz,ok.noex,ok.exfs,ok.funs,ok.frf⟩
theorem Inv.tr (I:Inv X pins σ H s):Inv (X.tr xe' pins) [] σ H s:=⟨I.ok.tr,I.os,I.bare,I.base,I.loc,I.cell,I.free,I.freeC,fun p hp=>I.pin p (by simpa [Cx.tr] using hp),I.hok,I.len⟩
theorem Inv.untr (ok:X.Ok) (I:Inv (X.tr xe' pins) pins' σ H s):Inv X pins σ H s:=⟨ok,I.os,I.bare,I.base,I.loc,I.cell,I.free,I.freeC,fun p hp=>I.pin p (List.mem_append_left _ hp),I.hok,I.len⟩
theorem Inv.su (I:Inv X pins σ H s):Inv (X.su e) pins σ H s:=⟨I.ok.su,I.os,I.bare,I.base,I.loc,I.cell,I.free,I.freeC,I.pin,I.hok,I.len⟩
theorem Inv.unsu (ok:X.Ok) (I:Inv (X.su e) pins σ H s):Inv X pins σ H s:=⟨ok,I.os,I.bare,I.base,I.loc,I.cell,I.free,I.freeC,I.pin,I.hok,I.len⟩
theorem Inv.gone {h':Heap}{m:Str→Option Value}{v:Option Value}{i:Nat}{x:Str}{t':Nat}(I:Inv X pins σ H s) (hN:X.N.Nodup) (hi:X.N[i]? = some x) (hn:s.heap.Ns X.env.locals m) (hm:∀ (i:Nat) (y:Str) (v:V),X.N[i]? = some y→σ[i]? = some (some v)→Vis X.env.scope y→∃ u,RelV v u∧Look X.env s.heap m y u)
    (hn':h'.Ns X.env.locals (fun y=>if y=x then v else m y)) (sb:Heap.SameBut X.env.locals s.heap h'):Inv X pins (σ.set i none) H { s with heap:=h',toks:=t' }:=by
  have hL:∃ o,s.heap.get? X.env.locals=some o∧H X.env.locals=none:=by
    obtain ⟨o,_,_,ho,_⟩:=id hn
    exact ⟨o,ho,I.free⟩
  have old:∀ b o,X.s₀.heap.get? b=some o→b ≠ X.env.locals:=fun b o z=>Nat.ne_of_lt (Nat.lt_of_lt_of_le (Heap.lt_size z) I.ok.above)
  refine ⟨I.ok,I.os,I.bare,⟨fun b o z n hb hx=>(sb.2 b (old b o z)).trans (I.base.keep b o z n hb hx),fun b o z n hb hx=>?_,I.base.free,fun b o z hx=>?_,I.base.tups,I.base.frzs,I.base.tbls⟩,⟨_,hn',fun j y v' e1 e2 e3=>?_⟩,fun y c z=>?_,I.free,I.freeC,fun p hp=>?_,fun b ob z=>?_,by simpa using I.len⟩
  · obtain ⟨sl,q⟩:=I.base.slot b o z n hb hx
    exact ⟨sl,(sb.2 b (old b o z)).trans q⟩
  · obtain ⟨o',q⟩:=I.base.there b o z hx
    exact ⟨o',(sb.2 b (old b o z)).trans q⟩
  · by_cases hj:j=i
    · subst hj
      have hlt:j < σ.length:=by rw [I.len]; exact (List.getElem?_eq_some_iff.mp hi).1
      rw [List.getElem?_set_self hlt] at e2
      cases e2
    · rw [List.getElem?_set_ne (Ne.symm hj)] at e2
      obtain ⟨u,r,l⟩:=hm j y v' e1 e2 e3
      refine ⟨u,r,?_⟩
      rcases l with ⟨k,q⟩ | ⟨k,c,q,z⟩
      · have:y ≠ x:=fun z=>hj (nodup_ix hN e1 (z ▸ hi))
        exact .inl ⟨k,by simp [this,q]⟩
      · exact .inr ⟨k,c,q,z.sameBut sb (I.cne y c q)⟩
  · obtain ⟨w',q⟩:=I.cell y c z
    exact ⟨w',q.sameBut sb (I.cne y c z)⟩
  · obtain ⟨q,n,ne,nf,d⟩:=I.pin p hp
    exact ⟨(sb.2 p.1 ne).trans q,n,ne,nf,d⟩
  · refine (I.hok b ob z).stay (fun c w' hc q=>(sb.2 c ?_).trans q) (fun _ q=>q) fun _ _ q=>q
    rintro rfl
    rcases hc with rfl | hc
    · rw [I.free] at z; cases z
    · rw [I.free] at hc; cases hc
end
noncomputable def ExcIs (a:Addr) (C:Value) (dx:Option Addr) (h:Heap):Prop:=∃ oe vs,h.get? a=some oe∧oe.cls=C∧oe.dict=dx∧oe.data = .fields vs
theorem ExcIs.ok {P:Program}{w:World}{H:Hp}{h:Heap}{a:Addr}{C:Value}{dx:Option Addr}(x:ExcIs a C dx h):ObjOk P w H h a (.ext (ExcIs a C dx)):=by
  obtain ⟨oe,vs,q,r⟩:=id x
  refine ⟨x,⟨oe,q⟩,fun h1 h2 ⟨oe',vs',q',r'⟩ k=>⟨oe',vs',k _ q',r'⟩⟩
noncomputable def Ends.un (D:Ends) (i:Nat):Ends:={ nx:=fun σ2 H2=>D.nx (σ2.set i none) H2,rt:=D.rt,bk:=fun σ2 H2=>D.bk (σ2.set i none) H2,ct:=fun σ2 H2=>D.ct (σ2.set i none) H2 }
noncomputable def tTry (K:PySem.W.Frag) (B:Addr) (i:Nat) (tb:(St→XK)→TS) (ts:TS):TS:=fun D σ H =>
  tb (fun σ' C dx H'=>PySem.W.exmOne K C (.ref B)=some true∧∀ a,H' a=none→ts (D.un i) (σ'.set i (some (.ref a))) (upd H' a (.ext (ExcIs a C dx)))) D σ H
theorem looks_cls {M:Model}{h:Heap}{e:Addr}{oe:Obj}(q:h.get? e=some oe):PySem.W.Looks M h (typeOf (.ref e)) oe.cls:=by
  intro A Q E s k z
  unfold typeOf
  exact wpAny_bind (wpAny_loadPart (k _ _ q) (wpAny_pure z))
theorem aloft_is {N:Addr→Prop}{h:Heap}{e:Addr}{C:Value}{dx:Option Addr}{fl:Value}(a:Aloft N h e C dx fl):ExcIs e C dx h:=by
  obtain ⟨oe,vs,q0,q1,q2,q3,_⟩:=a
  exact ⟨oe,vs,q0,q1,q2,q3⟩
theorem Inv.trackE {X:Cx}{pins:List (Addr×Obj)}{σ:St}{H:Hp}{s:Shared}{a:Addr}{o:HO}(I:Inv X pins σ H s) (hn:H a=none) (n0:X.s₀.heap.get? a=none) (n1:a ≠ X.env.locals) (n2:∀ x c,X.env.cells.lookup x=some c→c ≠ a) (n3:∀ p ∈ X.pn ++ pins,p.1 ≠ a)
    (new:ObjOk X.prog X.w (upd H a o) s.heap a o):Inv X pins σ (upd H a o) s:=by
  have ne:∀ b u,H b=some u→b ≠ a:=fun b u q z=>by rw [z,hn] at q; cases q
  refine ⟨I.ok,I.os,I.bare,⟨I.base.keep,I.base.slot,fun b u q n hx=>?_,I.base.there,fun b xs q=>?_,fun b u xs q=>?_,fun b ps q=>?_⟩,I.loc,I.cell,?_,fun y c q=>?_,fun p hp=>?_,fun b u q=>?_,I.len⟩
  · rw [upd_ne (fun z=>by rw [z,n0] at q; cases q)]; exact I.base.free b u q n hx
  · rw [upd_ne (ne _ _ (I.base.tups b xs q))]; exact I.base.tups b xs q
  · rw [upd_ne (ne _ _ (I.base.frzs b u xs q))]; exact I.base.frzs b u xs q
  · obtain ⟨m,r⟩:=I.base.tbls b ps q
    exact ⟨m,by rw [upd_ne (ne _ _ r)]; exact r⟩
  · rw [upd_ne (Ne.symm n1)]; exact I.free
  · rw [upd_ne (n2 y c q)]; exact I.freeC y c q
  · obtain ⟨q,n,r⟩:=I.pin p hp
    exact ⟨q,by rw [upd_ne (n3 p hp)]; exact n,r⟩
  · by_cases hb:b=a
    · subst hb; rw [upd_same] at q; cases q; exact new
    · rw [upd_ne hb] at q
      exact (I.hok b u q).stay (fun c v _ r=>r) (fun c r=>by rw [upd_ne (ne _ _ r)]; exact r) fun c xs r=>by rw [upd_ne (ne _ _ r)]; exact r
section
variable {X:Cx}{b₀:Stmt}{body suite:List Stmt}{c x:Str}{p hp pos:Pos}{B:Addr}{i:Nat}{tb:(St→XK)→TS}{ts:TS}
theorem ps_try (hN:X.N.Nodup) (hi:X.N[i]? = some x) (hx:X.env.scope.names.lookup x=some .local) (hg:Gl X c) (hm:X.mg c=some (.ref B)) (hst:X.stack=X.env :: X.outer) (hfr:X.env.frame=some X.env.locals) (hex:X.ex = [])
    (hb:∀ (xe':Value→Shared→Prop) (pn':List (Addr×Obj)) (XR:St→XK),Px (X.tr xe' pn') XR→PSs (X.tr xe' pn') body (tb XR)) (hs:∀ e:Addr,PSs (X.su e) (b₀ :: suite) ts) (hdb:(c == ("__debug__":Str))=false) :
    PS X (.Try body [.ExceptHandler (some (.Name c p)) (some x) (b₀ :: suite) hp] [] [] pos) (tTry X.K B i tb ts):=by
  intro pins s σ H D I h
  refine wpAny_Try_except ?_
  refine wpAny_mono (hb _ pins _ ?_ [] s σ H D I.tr h) (fun f s1 q=>?_) (fun e s1 q=>q)
  · intro pins' σ1 H1 s1 ev s2 I1 hq
    obtain ⟨a,C,dx,H2,rfl,o1,b1,un,hok,na,al,hm1,hk⟩:=hq
    have J:=I1.cx1 un o1 b1 hok
    have un':Un (frs X.stack) [] H1 H2 s1.heap s2.heap:=un
    show wpAny (model X.prog X.w) X.A (noteFrame (.ref a) X.env) (fun _ s₂=>wpAny (model X.prog X.w) X.A (setFlight (.ref a) none) (fun _ s₃=>wpAny (model X.prog X.w) X.A (handleBy (.ref a) X.env [.ExceptHandler (some (.Name c p)) (some x) (b₀ :: suite) hp]) (SP X pins D) X.xe s₃) X.xe s₂) X.xe s2
    have Jst:s2.heap.FunFrames X.base (X.env :: X.outer):=by rw [← hst]; exact J.stack
    have nf:∀ b ∈ frs (X.env :: X.outer),b ≠ a∧¬ Since s1.heap H2 b:=by rw [← hst]; exact I1.nfr na.1
    refine note_on (N:=Since s1.heap H2) (base:=X.base) (outer:=X.outer) (L:=X.env.locals) (by rw [← hst]; exact I.ok.frames) Jst hfr (since_of un hok) nf al fun h3 al3 st3 ff3=>?_
    refine land (s:={ s2 with heap:=h3 }) (fs:=frs (X.env :: X.outer)) ff3 al3 fun h4 al4 st4 ff4=>?_
    have st34:=st3.trans st4
    -- the state ahead of the handler
    have mk:∀ {h5:Heap}{t5:Nat},Stn (Since s1.heap H2) (frs (X.env :: X.outer)) a s2.heap h5→Inv (X.tr (X.tr X.xe []).xe pins) pins' σ1 H2 { s2 with heap:=h5,toks:=t5 }:=fun {h5 t5} st=>by
      have st':Stn (Since s1.heap H2) (frs X.stack) a s2.heap h5:=by rw [hst]; exact st
      have z:=J.stn (s₁:=s1) (H₁:=H1) (N:=Since s1.heap H2) st' (fun b z=>⟨z.2,z.1⟩) ⟨na.2,na.1⟩ I1 un
      have z2:=z.tok t5
      exact ⟨I.ok.tr,z2.os,z2.bare,z2.base,z2.loc,z2.cell,z2.free,z2.freeC,z2.pin,z2.hok,z2.len⟩
    have I4:Inv X pins σ1 H2 { s2 with heap:=h4 }:=(mk (t5:=s2.toks) st34).untr I.ok
    refine wpAny_handleBy_cons (codeAny_handlers_test ?_) (by intro q; cases q)
    refine ld_glob (I4.su (e:=a)) hg hm ?_ hdb
    obtain ⟨oe,vs,q0,q1,q2,q3,_⟩:=id al4
    refine (PySem.W.exm_one (K:=X.K) I4.kIn (by rw [← q1]; exact looks_cls q0) hm1).here ?_
    show codeAny _ _ _ _ _
    refine codeAny_handlers_suite_as ?_
    refine land (s:={ s2 with heap:=h4 }) (fs:=frs (X.env :: X.outer)) ff4 al4 fun h5 al5 st5 ff5=>?_
    have I5:Inv X pins σ1 H2 { s2 with heap:=h5 }:=(mk (t5:=s2.toks) (st34.trans st5)).untr I.ok
    have n1:a ≠ X.env.locals:=fun z=>by
      obtain ⟨m,⟨o,_,_,ho,_⟩,_⟩:=I1.loc
      have ho':s1.heap.get? X.env.locals=some o:=ho
      rw [← z,na.1] at ho'; cases ho'
    have I6:Inv X pins σ1 (upd H2 a (.ext (ExcIs a C dx))) { s2 with heap:=h5 }:=by
      refine I5.trackE na.2 ?_ n1 (fun y e hc z=>?_) (fun q hq z=>?_) (aloft_is al5).ok
      · cases r:X.s₀.heap.get? a with
        | none=>rfl
        | some o =>
          obtain ⟨o',r'⟩:=I1.base.there a o r (by show a ∉ X.ex; rw [hex]; simp)
          rw [na.1] at r'; cases r'
      · obtain ⟨v,o,ho,_⟩:=I1.cell y e hc
        rw [z,na.1] at ho; cases ho
      · have r:=(I1.pin q (List.mem_append_left _ hq)).1
        rw [z,na.1] at r; cases r
    refine store_ok (X:=X.su a) (s:={ s2 with heap:=h5 }) (I6.su (e:=a)) hN hi (.inl hx) (v:=.ref a) rfl (fun s7 I7=>?_) (.inr hx)
    refine wpAny_mono (hs a pins s7 _ _ (D.un i) I7 (hk a na.2)) (fun f s8 q8=>?_) (fun _ _ z=>z.elim)
    have fin:∀ {σ8:St}{H8:Hp}{Q:Unit→Shared→Prop},Inv (X.su a) pins σ8 H8 s8→(∀ s9,Inv X pins (σ8.set i none) H8 s9→Q () s9)→wpAny (model X.prog X.w) X.A (do bindName X.env x .none; unbindBehindTheSuite X.env x hp) Q X.xe s8:=fun {σ8 H8 Q} I8 k=>by
      obtain ⟨m,hn,hl⟩:=id I8.loc
      refine wpAny_nameGoes_keeps hx hn (by rw [I.ok.kind]; rfl) fun h' v hn' sb=>k _ ?_
      exact (I8.unsu I.ok).gone hN hi hn hl hn' sb
    cases f with
    | next=>obtain ⟨σ8,H8,I8,q⟩:=q8; exact fin I8 fun s9 I9=>⟨_,_,I9,q⟩
    | brk=>obtain ⟨σ8,H8,I8,q⟩:=q8; exact fin I8 fun s9 I9=>⟨_,_,I9,q⟩
    | cont=>obtain ⟨σ8,H8,I8,q⟩:=q8; exact fin I8 fun s9 I9=>⟨_,_,I9,q⟩
    | ret u=>obtain ⟨v,σ8,H8,I8,r,q⟩:=q8; exact fin I8 fun s9 I9=>⟨v,_,_,I9,r,q⟩
  · cases f with
    | next =>
      obtain ⟨σ',H',I',q⟩:=q
      exact wpAny_execs_nil ⟨σ',H',I'.untr I.ok,q⟩
    | brk=>obtain ⟨σ',H',I',q⟩:=q; exact ⟨σ',H',I'.untr I.ok,q⟩
    | cont=>obtain ⟨σ',H',I',q⟩:=q; exact ⟨σ',H',I'.untr I.ok,q⟩
    | ret u=>obtain ⟨v,σ',H',I',r,q⟩:=q; exact ⟨v,σ',H',I'.untr I.ok,r,q⟩
end
noncomputable abbrev bmV:List Value:=[.type "ValueError",.type "Exception",.type "BaseException",.type "object"]
noncomputable def xcIn (K:PySem.W.Frag) (C:Addr) (init:Option Value):Bool:=match K.lookup C with
  | some ⟨.type "type",_,.cls cd,sl⟩=>(match cd.mro,sl.toList with
    | .ref C' :: bm,[_,_,_,_,some (.builtin n),_]=>C' == C && (n == "ValueError.__new__" && (!cd.hasDel && (cd.hasDict && (PySem.W.tailIn K bmV bm && (PySem.W.nsOkIn K cd.ns && PySem.W.nsIn K cd.ns "__init__" == some init)))))
    | _,_=>false)
  | _=>false
structure XAt (h:Heap) (C:Addr) (init:Option Value):Prop where
  out:∃ nm q N bs bm sn sub ab col dd k0 k1 k2 k3 k5 mN,h.get? C=some (excClassObj nm q C N bs bm true sn sub ab col dd k0 k1 k2 k3 k5 "ValueError.__new__")∧h.Ns N mN∧mN "__init__" = init∧OwnTail h bmV bm
theorem ns_of_in {K:PySem.W.Frag}{h:Heap}{N:Addr}{mg:Str→Option Value}{n:Str}{r:Option Value}(X:K.In h) (G:h.Ns N mg) (e:PySem.W.nsIn K N n=some r):mg n=r:=by
  obtain ⟨o,es,ep,ho,hd,_,hf⟩:=G
  unfold PySem.W.nsIn at e
  split at e
  · rename_i c d es' n' sl q
    have z:=X _ _ q
    rw [ho] at z
    cases z
    cases hd
    rw [← hf]
    unfold nsFind findBy
    rw [← Array.find?_toList]
    split at e
    · rename_i he
      rw [he]
      cases e
      rfl
    · rename_i he
      rw [he]
      split at e
      · cases e
      · cases e
        rfl
  · cases e
theorem xc_at {K:PySem.W.Frag}{h:Heap}{C:Addr}{init:Option Value}(X:K.In h) (q:xcIn K C init=true):XAt h C init:=by
  unfold xcIn at q
  split at q
  · rename_i dd cd sl ho
    split at q
    · rename_i C' bm k0 k1 k2 k3 n k5 hm hs
      simp only [Bool.and_eq_true,beq_iff_eq,Bool.not_eq_true'] at q
      obtain ⟨rfl,rfl,d,hd',t,o,i⟩:=q
      obtain ⟨nm,bs,mro,ns,qn,hd,sn,sub,ab,col,del⟩:=cd
      dsimp only at hm d o i hd'
      subst hm d hd'
      obtain ⟨l⟩:=sl
      simp only at hs
      subst hs
      have G:h.Ns ns (h.nsMap ns):=.of_isNs (PySem.W.isNs_of_in X o)
      exact ⟨_,_,_,_,_,_,_,_,_,_,_,_,_,_,_,_,X _ _ ho,G,ns_of_in X G i,PySem.W.tail_of_in X t⟩
    · cases q
  · cases q
section
variable {M:Model}{A:Around}{E:Value→Shared→Prop}{s:Shared}{env:Env}{C:Addr}{init:Option Value}
theorem raise_made {x:Sem Value}{Q:Flow→Shared→Prop}(hh:A.handled=none)
    (h:wpAny M A x (fun v s₁=>∃ e oe vs,v = .ref e∧XAt s₁.heap C init∧s₁.heap.get? e=some oe∧oe.cls = .ref C∧oe.data = .fields vs∧vs[1]? = some .none∧E (.ref e) s₁) E s) :
    wpAny M A (raiseStmt env (some x) none) Q E s:=by
  unfold raiseStmt
  refine wpAny_bind (wpAny_mono h (fun v s₁ h₁=>?_) fun _ _ x=>x)
  obtain ⟨e,oe,vs,rfl,⟨nm,q,N,bs,bm,sn,sub,ab,col,dd,k0,k1,k2,k3,k5,mN,hC,_,_,T⟩,he,hc,hd,h1,hE⟩:=h₁
  have hbm:(Value.ref C :: bm).contains (.type "BaseException")=true:=by rw [List.contains_cons,T.hasType (X:="BaseException") (b:=true) (by decide +kernel),Bool.or_true]
  obtain ⟨hp,g,d,tk,os⟩:=s₁
  obtain ⟨oc,od,odt,osl⟩:=oe
  dsimp only at hc hd
  subst hc hd
  have hfld:∀ {Q':Value→Shared→Prop}{A':Around},Q' .none ⟨hp,g,d,tk,os⟩→wpAny M A' (field (.ref e) 1) Q' E ⟨hp,g,d,tk,os⟩:=fun z=>wpAny_field (s:=⟨hp,g,d,tk,os⟩) he rfl h1 z
  repeat (first | with_reducible refine wpAny_loadPart_at he ?_ | with_reducible refine wpAny_loadPart_at hC ?_ | (with_reducible refine wpAny_isSubtype_exc hC ?_; rw [hbm]) | with_reducible refine hfld ?_ | wp_step)
  exact wpAny_raiseNew_none hh hE
end
theorem XAt.keeps {h h':Heap}{C:Addr}{init:Option Value}(x:XAt h C init) (k:∀ b o,h.get? b=some o→h'.get? b=some o):XAt h' C init:=by
  obtain ⟨nm,q,N,bs,bm,sn,sub,ab,col,dd,k0,k1,k2,k3,k5,mN,hC,hN,hi,T⟩:=x.out
  exact ⟨nm,q,N,bs,bm,sn,sub,ab,col,dd,k0,k1,k2,k3,k5,mN,k _ _ hC,hN.keeps k,hi,T.keeps k⟩
theorem ObjOk.there {P:Program}{w:World}{H:Hp}{h:Heap}{a:Addr}{o:HO}(x:ObjOk P w H h a o):∃ ob,h.get? a=some ob:=by
  induction o with
  | lst xs=>obtain ⟨_,_,_,_,e⟩:=x; exact ⟨_,e⟩
  | tup xs=>obtain ⟨_,_,_,ob,e,_⟩:=x; exact ⟨_,e⟩
  | dK kvs=>obtain ⟨_,_,_,_,o,_,_,e,_⟩:=x; exact ⟨_,e⟩
  | dT kvs=>obtain ⟨_,_,_,_,o,_,_,e,_⟩:=x; exact ⟨_,e⟩
  | set S n=>obtain ⟨o,_,_,_,e,_⟩:=x; exact ⟨_,e⟩
  | ins C dx fs=>obtain ⟨_,_,_,e,_⟩:=x; exact ⟨_,e⟩
  | own y=>exact x
  | xd fs=>obtain ⟨_,⟨_,_,_,e,_⟩,_⟩:=x; exact ⟨_,e⟩
  | rng lo hi=>obtain ⟨_,_,_,e⟩:=x; exact ⟨_,e⟩
  | frz ob u ih=>exact ⟨ob,x.1⟩
  | tbl ps=>exact ⟨_,x⟩
  | met f y=>exact ⟨_,x⟩
  | ext φ=>exact x.2.1
theorem HOk.none {P:Program}{w:World}{H:Hp}{h:Heap}{a:Addr}(x:HOk P w H h) (e:h.get? a=none):H a=none:=by
  cases r:H a with
  | none=>rfl
  | some o =>
    obtain ⟨ob,q⟩:=(x a o r).there
    rw [e] at q; cases q
section
variable {X:Cx}{C:Addr}{XR:St→XK}{x:Str}{np cpos pos:Pos}
end
end L2
namespace L2
open PySem PySem.Spec PyProof.Rows PySem.W
theorem slot_wget:Slot "wrapper_descriptor" "__get__" "wrapper_descriptor.__get__":=.of (owner:="wrapper_descriptor") (n:="__get__") (by rw [typeLookup_type,builtinLookup_eq_fast]; kernel_rfl) (by decide +kernel) (by decide +kernel) (by decide +kernel)
  (by first | exact .inl (by decide +kernel) | exact .inr (by decide +kernel)) (by rw [isSubtype_type]; kernel_rfl)
theorem entry_wget:entryFor table "wrapper_descriptor.__get__" = some Builtin.«wrapper_descriptor.__get__»:=entryFor_of_tree (by kernel_rfl)
theorem args_wget (a b c:Value):argsOk "wrapper_descriptor.__get__" ⟨[a,b,c],[]⟩:=by unfold argsOk; kernel_rfl
theorem type_vinit:typeOf (.builtin "ValueError.__init__")=pure (.type "wrapper_descriptor"):=by kernel_rfl
section
variable {prog:Program}{w:World}{A:Around}{E:Value→Shared→Prop}{h:Heap}{g:Array GenState}{d:Drawn}{t:Nat}{os:OsState}
theorem run_wget {x C:Addr}{Q:Fin→Shared→Prop}(hi:Looks (model prog w) h (isInstance (.ref x) (.type "ValueError")) true)
    (hq:Q (.done (.ret (.ref h.objs.size))) ⟨h.push { cls:=.type "method-wrapper",data:=.fields #[.builtin "ValueError.__init__",.ref x] },g,d,t,os⟩) :
    wpAny (model prog w) A (Builtin.«wrapper_descriptor.__get__» ⟨[.builtin "ValueError.__init__",.ref x,.ref C],[]⟩) Q E ⟨h,g,d,t,os⟩:=by
  unfold Builtin.«wrapper_descriptor.__get__»
  refine wpAny_bind (wpAny_of_eq (a:=(.builtin "ValueError.__init__",some (.ref x),some (.ref C))) rfl ?_)
  dsimp only
  refine wpAny_bind ?_
  refine wpAny_bind (wpAny_of_eq (a:=(("__init__":Str),Value.type "ValueError")) (by kernel_rfl) ?_)
  dsimp only
  refine wpAny_bind (hi.here ?_)
  rw [if_neg (by decide)]
  refine wpAny_pure ?_
  exact wpAny_bind (wpAny_newObj_type (wpAny_pure hq))
theorem xs_ga {so D x C:Addr}{l₀ l:List Value}{K:Frag}{tk:Tok}{Q:Fin→Shared→Prop}
    (hso:h.get? so=some { cls:=.type "super",dict:=none,data:=.fields #[.ref D,.ref x,.ref C],slots:=#[] }) (hno:Looks (model prog w) h (opaqueClassAbove (.ref C)) none)
    (hC:Looks (model prog w) h (mroOf (.ref C)) l₀) (hl:(l₀.dropWhile (· != .ref D)).drop 1=l) (X:K.In h) (hf:alongIn K "__init__" l=some (some (.builtin "ValueError.__init__")))
    (hxC:x ≠ C) (hi:Looks (model prog w) h (isInstance (.ref x) (.type "ValueError")) true)
    (hq:Q (.done (.ret (.ref h.objs.size))) ⟨h.push { cls:=.type "method-wrapper",data:=.fields #[.builtin "ValueError.__init__",.ref x] },g,d,t,os⟩) :
    wpAny (model prog w) A (Builtin.«super.__getattribute__» ⟨[.ref so,.str "__init__" tk],[]⟩) Q E ⟨h,g,d,t,os⟩:=by
  have lk:=slot_wget.lookup
  have ne:(Value.ref x == Value.ref C)=false:=by simp [hxC]
  have dt:({ cls:=.type "super",dict:=none,data:=.fields #[.ref D,.ref x,.ref C],slots:=#[] }:Obj).data = .fields #[.ref D,.ref x,.ref C]:=rfl
  have z0:(#[.ref D,.ref x,.ref C]:Array Value)[0]? = some (.ref D):=rfl
  have z1:(#[.ref D,.ref x,.ref C]:Array Value)[1]? = some (.ref x):=rfl
  have z2:(#[.ref D,.ref x,.ref C]:Array Value)[2]? = some (.ref C):=rfl
  have tv:(⟨h,g,d,t,os⟩:Shared).TypeIs (.builtin "ValueError.__init__") "wrapper_descriptor":=type_vinit
  have nc:(("__init__":Str) == ("__class__":Str))=false:=by decide +kernel
  unfold Builtin.«super.__getattribute__»
  repeat (first
    | (with_reducible refine wpAny_field hso dt z0 ?_) | (with_reducible refine wpAny_field hso dt z1 ?_) | (with_reducible refine wpAny_field hso dt z2 ?_)
    | (with_reducible refine ks_wpAny_notOpaque hno ?_)
    | (with_reducible refine Looks.at hC ?_; rw [hl])
    | (refine ks_forIn_along X (fun _ _=>rfl) rfl ?_ hf)
    | (with_reducible refine wpAny_of_eq type_vinit ?_)
    | (with_reducible refine wpAny_call_entry slot_wget tv entry_wget ?_ (args_wget _ _ _))
    | (with_reducible refine run_wget hi ?_)
    | (with_reducible refine ⟨_,rfl,?_⟩)
    | (simp only [nc,ne,Bool.or_false,Bool.false_eq_true,if_false])
    | wp_step
    | dsimp only)
  all_goals exact hq
theorem xs_getm {so D x C:Addr}{l₀ l:List Value}{K:Frag}{pl:Sem Bool}{Q:Value×List Value→Shared→Prop}
    (hso:h.get? so=some { cls:=.type "super",dict:=none,data:=.fields #[.ref D,.ref x,.ref C],slots:=#[] }) (hno:Looks (model prog w) h (opaqueClassAbove (.ref C)) none)
    (hC:Looks (model prog w) h (mroOf (.ref C)) l₀) (hl:(l₀.dropWhile (· != .ref D)).drop 1=l) (X:K.In h) (hf:alongIn K "__init__" l=some (some (.builtin "ValueError.__init__")))
    (hxC:x ≠ C) (hi:Looks (model prog w) h (isInstance (.ref x) (.type "ValueError")) true)
    (hq:Q (.ref h.objs.size,[]) ⟨h.push { cls:=.type "method-wrapper",data:=.fields #[.builtin "ValueError.__init__",.ref x] },g,d,t + 1,os⟩) :
    wpAny (model prog w) A (getMethod (.ref so) "__init__" pl) Q E ⟨h,g,d,t,os⟩:=by
  have lk:=F.ks_slot_super_ga.lookup
  have ty:∀ t',(⟨h,g,d,t',os⟩:Shared).TypeIs (.ref so) "super":=fun _=>⟨_,hso,rfl⟩
  unfold getMethod
  refine wpAny_bind (wpAny_specialOf (ty _) lk ?_)
  show wpAny _ _ (if (Manifest.canonical "super.__getattribute__" != "object.__getattribute__")=true then _ else _) _ _ _
  rw [if_pos F.ks_canon_super_ga]
  unfold getAttr getAttrBy
  refine wpAny_bind (wpAny_bind (wpAny_mkText (wpAny_holding (wpAny_bind (wpAny_typeOf (ty _) (wpAny_bind (wpAny_of_eq lk ?_)))))))
  show wpAny _ _ (getAttrByItsOwn (.ref so) (.str "__init__" t) (.type "super") (.builtin "super.__getattribute__") true false) _ _ _
  unfold getAttrByItsOwn hookBefore callGetattribute boundAndCalled
  refine wpAny_bind (wpAny_of_eq (a:=none) rfl ?_)
  refine wpAny_bind (wpAny_attempt (wpAny_holding ?_))
  refine wpAny_bind (wpAny_of_eq (F.ks_slot_super_ga.bind _) ?_)
  refine wpAny_mono (E:=fun _ _=>False) (wpAny_call_entry F.ks_slot_super_ga (ty _) F.ks_entry_super_ga (xs_ga (Q:=fun fin s'=>∃ v,fin = .done (.ret v)∧(v = .ref h.objs.size∧s' = ⟨h.push { cls:=.type "method-wrapper",data:=.fields #[.builtin "ValueError.__init__",.ref x] },g,d,t + 1,os⟩)) hso hno hC hl X hf hxC hi ⟨_,rfl,rfl,rfl⟩) (F.ks_gaArgs_super _ _)) (fun v s' hv=>?_) fun _ _ z=>z.elim
  obtain ⟨rfl,rfl⟩:=hv
  exact wpAny_pure (wpAny_pure hq)
end
section
variable {prog:Program}{w:World}{A:Around}{E:Value→Shared→Prop}{h:Heap}{g:Array GenState}{d:Drawn}{t:Nat}{os:OsState}
theorem check_vi {M:Model}{nm q:Str}{C N:Addr}{bs bm:List Value}{hdct:Bool}{sn:List Str}{sub:List Value}{ab:Bool}{col:Option Bool}{dd:Option Addr}{k0 k1 k2 k3 k5:Option Value}{newId:String}{x:Addr}{oe:Obj}{a:Str}{tk:Tok}{Q:Unit→Shared→Prop}
    (hC:h.get? C=some (excClassObj nm q C N bs bm hdct sn sub ab col dd k0 k1 k2 k3 k5 newId)) (he:h.get? x=some oe) (hc:oe.cls = .ref C) (hq:Q () ⟨h,g,d,t,os⟩) :
    wpAny M A (checkBoundCall "ValueError.__init__" ⟨[.ref x,.str a tk],[]⟩) Q E ⟨h,g,d,t,os⟩:=by
  have F:=PySem.F.excBase_ValueError
  have hshort:=F.noStar
  simp only [checkBoundCall,F.initKind,F.initRow]
  rw [if_pos (by decide)]
  repeat (first | (with_reducible refine wpAny_loadPart_at he ?_; rw [hc]) | with_reducible refine wpAny_loadPart_at hC ?_ | wp_step)
  exact hq
theorem fld_at {M:Model}{e:Addr}{o:Obj}{vs:Array Value}{i:Nat}{v:Value}{Q:Value→Shared→Prop}(ho:h.get? e=some o) (hd:o.data = .fields vs) (hi:vs[i]? = some v) (hq:Q v ⟨h,g,d,t,os⟩):wpAny M A (field (.ref e) i) Q E ⟨h,g,d,t,os⟩:=wpAny_field ho hd hi hq
theorem sfl_at {M:Model}{e:Addr}{o:Obj}{vs:Array Value}{i:Nat}{v:Value}{Q:Unit→Shared→Prop}(ho:h.get? e=some o) (hd:o.data = .fields vs) (hi:i < vs.size) (hq:Q () ⟨h.update e (Obj.mapFields (·.setIfInBounds i v)),g,d,t,os⟩):wpAny M A (setField (.ref e) i v) Q E ⟨h,g,d,t,os⟩:=wpAny_setField (s:=⟨h,g,d,t,os⟩) ho hd hi hq
theorem xs_run {mw x t0:Addr}{a:Str}{tk:Tok}{oe:Obj}{vs:Array Value}{Q:Value→Shared→Prop}(hmw:h.get? mw=some { cls:=.type "method-wrapper",data:=.fields #[.builtin "ValueError.__init__",.ref x] })
    {C:Addr}{init:Option Value}(xa:XAt h C init) (hc:oe.cls = .ref C) (hx:h.get? x=some oe) (hd:oe.data = .fields vs) (h0:vs[0]? = some (.ref t0))
    (hq:∀ h' T,h.objs.size ≤ T→h'.get? x=some (oe.mapFields (·.setIfInBounds 0 (.ref T)))→(∀ b o,b ≠ x→h.get? b=some o→h'.get? b=some o)→Q .none ⟨h',g,d,t,os⟩) :
    wpAny (model prog w) A (call (.ref mw) [.str a tk]) Q E ⟨h,g,d,t,os⟩:=by
  refine wpAny_call (codeAny_of_tree ?_)
  show wpAny _ _ (callAny (.ref mw) _) _ _ _
  unfold callAny
  refine wpAny_bind (wpAny_load hmw ?_)
  dsimp only
  rw [if_pos (by decide)]
  simp only [show (#[Value.builtin "ValueError.__init__",Value.ref x]:Array Value)[0]? = some (.builtin "ValueError.__init__") from rfl,show (#[Value.builtin "ValueError.__init__",Value.ref x]:Array Value)[1]? = some (.ref x) from rfl]
  rw [if_pos (by decide)]
  obtain ⟨nm,qn,N,bs,bm,sn,sub,ab,col,dd,k0,k1,k2,k3,k5,mN,hC,_,_,_⟩:=xa.out
  refine wpAny_bind (check_vi hC hx hc ?_)
  refine wpAny_pure ?_
  refine ⟨Code.quiet_builtin _ (by decide +kernel),codeAny_builtin PySem.F.excBase_ValueError.initEntry ?_⟩
  have h1:=Heap.get?_push_of_some { cls:=Value.type "tuple",data:=Data.seq #[Value.str a tk] } hx
  have z0:0 < vs.size:=(Array.getElem?_eq_some_iff.mp h0).1
  unfold Builtin.«BaseException.__init__» Builtin.BaseException.bexcPut
  repeat (first | (with_reducible refine fld_at h1 hd h0 ?_) | (with_reducible refine sfl_at h1 hd z0 ?_) | wp_step)
  exact hq _ h.objs.size (Nat.le_refl _) (Heap.get?_update_self _ h1 (Obj.isFreed_of_fields (Obj.data_mapFields hd _))) fun b o nb q=>(Heap.get?_update_other _ _ (Ne.symm nb)).trans (Heap.get?_push_of_some _ q)
end
open Builtin Builtin.ObjectAttr
section
variable {prog:Program}{w:World}{A:Around}{E:Value→Shared→Prop}{h:Heap}{g:Array GenState}{d:Drawn}{t:Nat}{os:OsState}
variable {x C LE:Addr}{o:Obj}{name:Str}{v:Value}{vs:Array Value}
structure StoreAt (M:Model) (h:Heap) (C LE:Addr) (name:Str):Prop where
  mro:Looks M h (mroOf (.ref C)) (.ref C :: .ref LE :: bmV)
  no:Looks M h (typeLookup (.ref C) name) none
  sa:Looks M h (typeLookup (.ref C) "__setattr__") (some (.builtin "object.__setattr__"))
  ob:Looks M h (isSubtype (.ref C) (.type "object")) true
  at_:∃ init,XAt h C init
theorem xs_sa {tk:Tok}{Q:Fin→Shared→Prop}(S:StoreAt (model prog w) h C LE name) (hx:h.get? x=some o) (hc:o.cls = .ref C) (hn:o.dict=none) (hd:o.data = .fields vs)
    (hq:∀ h' tk' dx,h.objs.size ≤ dx→h'.get? x=some { o with dict:=some dx }→h'.Ns1 dx (fun y=>if y=name then some v else none)→(∀ b u,b ≠ x→h.get? b=some u→h'.get? b=some u)→Q (.done (.ret .none)) ⟨h',g,d,tk',os⟩) :
    wpAny (model prog w) A (Builtin.«object.__setattr__» ⟨[.ref x,.str name tk,v],[]⟩) Q E ⟨h,g,d,t,os⟩:=by
  have ps:=PySem.F.store_ValueError.passes (.ref x)
  obtain ⟨init,xa⟩:=S.at_
  obtain ⟨nm,qn,N,bs,bm,sn,sub,ab,col,dd,k0,k1,k2,k3,k5,mN,hC,_,_,_⟩:=xa.out
  unfold Builtin.«object.__setattr__»
  repeat (first | rw [refuse_eq] | (with_reducible refine wpAny_loadPart_at hx ?_; rw [hc]) | (with_reducible refine Looks.at S.mro ?_; rw [refuseLoop_ref,refuseLoop_ref,ps]) | (with_reducible refine Looks.at S.no ?_) | (with_reducible refine wpAny_loadPart_at hC ?_) | wp_step)
  rw [hn,hd]
  dsimp only
  rw [if_neg (by simp [typeHasDict])]
  have x1:(h.push { cls:=.type "dict",data:=.dict #[] }).get? x=some o:=Heap.get?_push_of_some _ hx
  have nx:x ≠ h.objs.size:=Nat.ne_of_lt (Heap.lt_size hx)
  have fr:({ cls:=o.cls,dict:=some h.objs.size,data:=o.data,slots:=o.slots }:Obj).isFreed=false:=by
    obtain ⟨oc,od,odt,osl⟩:=o
    dsimp only at hd
    subst hd
    rfl
  refine wpAny_bind (wpAny_alloc' (wpAny_bind (wpAny_update' x1 (wpAny_pure ?_))))
  have x2:=Heap.get?_update_self (fun o=>{ cls:=o.cls,dict:=some h.objs.size,data:=o.data,slots:=o.slots }) x1 fr
  have d2:((h.push { cls:=.type "dict",data:=.dict #[] }).update x fun o=>{ cls:=o.cls,dict:=some h.objs.size,data:=o.data,slots:=o.slots }).get? h.objs.size=some { cls:=.type "dict",data:=.dict #[] } :=
    (Heap.get?_update_other _ _ nx).trans (Heap.get?_push_at rfl rfl)
  generalize hg:((h.push { cls:=.type "dict",data:=.dict #[] }).update x fun o=>{ cls:=o.cls,dict:=some h.objs.size,data:=o.data,slots:=o.slots })=h2 at x2 d2 ⊢
  have old:∀ b u,b ≠ x→h.get? b=some u→h2.get? b=some u:=fun b u nb q=>by
    rw [← hg]
    exact (Heap.get?_update_other _ _ (Ne.symm nb)).trans (Heap.get?_push_of_some _ q)
  have n2:h2.Ns h.objs.size (fun _=>none):=⟨_,#[],_,d2,rfl,fun e z=>absurd z (by simp),fun _=>rfl⟩
  show wpAny _ _ (storeInDict h.objs.size (.str name tk) name v) _ _ _
  unfold storeInDict newKeyGuard
  refine wpAny_bind (wpAny_pure (wpAny_bind (wpAny_nsSet1 (Heap.Ns1.of_empty n2) fun h3 n3 s3=>?_)))
  obtain ⟨oD,eD,pD,q1,q2,q3⟩:=n3.count (Within.cons name v Within.nil)
  refine wpAny_bind (wpAny_lookBehind q1 (by rw [q2]; exact pastItsLine_dict (Nat.le_trans q3 (by rw [List.length_cons,List.length_nil,sizeLine_eq]; omega))) ?_)
  wp_walk
  exact hq h3 _ h.objs.size (Nat.le_refl _) ((s3.2 x nx).trans x2) n3 fun b u nb q=>(s3.2 b (Nat.ne_of_lt (Heap.lt_size q))).trans (old b u nb q)
theorem xs_chk {M:Model}{n:Value}{Q:Unit→Shared→Prop}(ob:Looks M h (isSubtype (.ref C) (.type "object")) true) (hx:h.get? x=some o) (hc:o.cls = .ref C) (hq:Q () ⟨h,g,d,t,os⟩) :
    wpAny M A (checkBuiltinCall "object.__setattr__" ⟨[.ref x,n,v],[]⟩) Q E ⟨h,g,d,t,os⟩:=by
  have SF:=PySem.F.store_ValueError
  simp only [checkBuiltinCall,SF.kind,SF.split]
  refine wpAny_bind ?_
  unfold isInstance
  repeat (first | (with_reducible refine wpAny_loadPart_at hx ?_; rw [hc]) | (with_reducible refine Looks.at ob ?_) | wp_step)
  exact hq
theorem xs_set {Q:Unit→Shared→Prop}(S:StoreAt (model prog w) h C LE name) (hx:h.get? x=some o) (hc:o.cls = .ref C) (hn:o.dict=none) (hd:o.data = .fields vs)
    (hq:∀ h' tk' dx,h.objs.size ≤ dx→h'.get? x=some { o with dict:=some dx }→h'.Ns1 dx (fun y=>if y=name then some v else none)→(∀ b u,b ≠ x→h.get? b=some u→h'.get? b=some u)→Q () ⟨h',g,d,tk',os⟩) :
    wpAny (model prog w) A (setAttr (.ref x) name v) Q E ⟨h,g,d,t,os⟩:=by
  have SF:=PySem.F.store_ValueError
  have bd:=SF.slot.bind (.ref x)
  unfold setAttr callSpecial? specialOf
  repeat (any_goals (first | assumption | (with_reducible refine wpAny_loadPart_at hx ?_; rw [hc]) | (with_reducible refine Looks.at S.sa ?_) | wp_step))
  refine codeAny_call_builtin SF.slot.plain SF.entry (xs_chk (S.ob) hx hc ?_)
  refine xs_sa (t:=t + 1) S hx hc hn hd fun h' tk' dx z1 z2 z3 z4=>?_
  repeat (any_goals (first | assumption | wp_step))
  exact hq h' tk' dx z1 z2 z3 z4
end
structure XK1 (K:Frag) (C LE:Addr) (fld:Str):Prop where
  mro:(clsIn K C).map (·.mro)=some (.ref C :: .ref LE :: bmV)
  no:findIn K (.ref C) fld=some none
  sa:findIn K (.ref C) "__setattr__" = some (some (.builtin "object.__setattr__"))
  ini:alongIn K "__init__" (.ref LE :: bmV)=some (some (.builtin "ValueError.__init__"))
  opq:nsIn K cStatics "thirdparty.any" = some none
theorem XK1.subs {K:Frag}{C LE:Addr}{fld:Str}{M:Model}{h:Heap}{b:Value}(x:XK1 K C LE fld) (X:K.In h) (hb:(Value.ref C :: .ref LE :: bmV).contains b=true):Looks M h (isSubtype (.ref C) b) true:=by
  obtain ⟨cd,e,z⟩:=Option.map_eq_some_iff.mp x.mro
  refine looks_mroIn X ?_
  unfold mroIn
  rw [e]
  show (if cd.mro.isEmpty=true then none else some (cd.mro.contains b))=some true
  rw [z,hb]; rfl
theorem XK1.mroL {K:Frag}{C LE:Addr}{fld:Str}{M:Model}{h:Heap}(x:XK1 K C LE fld) (X:K.In h):Looks M h (mroOf (.ref C)) (.ref C :: .ref LE :: bmV):=by
  obtain ⟨cd,e,z⟩:=Option.map_eq_some_iff.mp x.mro
  rw [← z]
  exact (looks_clsIn X e).andThen .now
theorem XK1.store {K:Frag}{C LE:Addr}{fld:Str}{M:Model}{h:Heap}{init:Option Value}(x:XK1 K C LE fld) (X:K.In h) (q:xcIn K C init=true):StoreAt M h C LE fld :=
  ⟨x.mroL X,looks_findIn X x.no,looks_findIn X x.sa,x.subs X (by simp [bmV]),init,xc_at X q⟩
section
variable {prog:Program}{w:World}{A:Around}{E:Value→Shared→Prop}{s:Shared}
theorem callWith_mw {pos:Pos}{env:Env}{mw:Addr}{fn x:Value}{msg:Str}{kd:Nat}{p4:Pos}{Q:Value→Shared→Prop}(hmw:s.heap.get? mw=some { cls:=.type "method-wrapper",data:=.fields #[fn,x] })
    (k:∀ tk,wpAny (model prog w) A (call (.ref mw) [.str msg tk]) Q E { s with toks:=s.toks + 1 }) :
    wpAny (model prog w) A (callWith pos (.ref mw) [] (backTo pos (starEach [.Constant (.str msg) kd p4] env)) []) Q E s:=by
  unfold callWith
  refine wpAny_bind (wpAny_holding (wpAny_mono (Q:=fun (a:Args) s₁=>∃ tk,a = ⟨[.str msg tk],[]⟩∧s₁ = { s with toks:=s.toks + 1 }) ?_ (fun a s₁ ⟨tk,ha,hs⟩=>wpAny_bind (wpAny_standAt ?_)) fun _ _ z=>z))
  · show wpAny (model prog w) A (evalArgs (.ref mw) true ((false,eval (.Constant (.str msg) kd p4) env) :: []) []) _ _ _
    refine Calls.evalArgs_plain (Calls.spliced_cons (Calls.Constant_str (k:=kd) (pos:=p4) ?_))
    exact Calls.spliced_nil ⟨_,rfl,rfl⟩
  · subst ha hs
    simp only [stars_any (es:=[.Constant (.str msg) kd p4]) rfl,List.any_nil,Bool.or_false]
    refine wpAny_bind (m:=keeperOf (.ref mw)) ?_
    unfold keeperOf
    refine wpAny_bind (wpAny_load hmw ?_)
    dsimp only
    rw [if_pos (by decide)]
    refine wpAny_pure ?_
    rw [if_pos (by decide)]
    exact wpAny_bind (wpAny_mono (k tk) (fun r s₂ z=>wpAny_bind (wpAny_holding (wpAny_point (wpAny_pure z)))) fun _ _ z=>z)
end
structure ISc (sc:Scope) (par:Str):Prop where
  su:sc.names.lookup ("super":Str)=some .globalImplicit
  cl:sc.names.lookup ("__class__":Str)=some .free
  se:sc.names.lookup ("self":Str)=some .local
  pa:sc.names.lookup par=some .local
  nc:∀ x ∈ sc.names,x.2 ≠ .cell
  co:sc.isCoroutine=false
  ge:sc.isGenerator=false
  ki:sc.kind = .function
  ns:(("self":Str) == par)=false
  db:(par == ("__debug__":Str))=false
section
variable {prog:Program}{w:World}{A:Around}{R:Result→Shared→Prop}{h:Heap}{g:Array GenState}{d:Drawn}{t:Nat}{os:OsState}
variable {K:Frag}{mg:Str→Option Value}{base:Heap}{f C LE e cda cc:Addr}{fld par nm qual msg file:Str}{ps:Arguments}{body:List Stmt}{sc:Scope}{kV doc pm ct oc ccl cl u:Value}{an od cdd cld:Option Addr}{osl ccs csl:Array (Option Value)}{cvs vs:Array Value}{tf:Tok}{init:Option Value}{oe:Obj}{t0:Addr}{ar:Arg}
  {a1 a2 a3 a4 a5 a6 b1 b2 b3 b4:Pos}{kd:Nat}{pl:Env→Sem Bool}
theorem xs_init (B:Mod K mg base) (kb:∀ b o,base.get? b=some o→h.get? b=some o) (nb:base.get? e=none) (x1:XK1 K C LE fld) (q:xcIn K C init=true) (hroom:A.depth < recursionLimit)
    (lk:K.lookup f=some ⟨oc,od,.func (ksFn nm qual ps body sc .none kV doc pm an (.ref cda) ct cc),osl⟩) (hcd:codeIn K (.ref cda) qual=true) (hcode:K.lookup cda=some ⟨ccl,cdd,.fields cvs,ccs⟩) (hvs:cvs[2]? = some (.str file tf)) (hfile:((prog.main.file:Str) == file)=true)
    (hcell:K.lookup cc=some ⟨cl,cld,.cell (some (.ref C)),csl⟩) (hsu:mg "super" = none) (htop:(prog.main.scope.names.lookup ("super":Str)).isSome=false) (hboot:bootBuiltins "super" = some (.type "super"))
    (S:ISc sc par) (hp:(ps.posonlyargs ++ ps.args).head? = some ar) (har:ar.arg = "self") (hbind:bindArgs (ksFn nm qual ps body sc .none kV doc pm an (.ref cda) ct cc) ⟨[.ref e,u],[]⟩ = pure [(("self":Str),.ref e),(par,u)])
    (hb:body = [.Expr (.Call (.Attribute (.Call (.Name "super" a1) [] [] a2) "__init__" a3) [.Constant (.str msg) kd a4] [] a5) a6,.Assign [.Attribute (.Name "self" b1) fld b2] (.Name par b3) b4])
    (hev:∀ env,eval (.Call (.Attribute (.Call (.Name "super" a1) [] [] a2) "__init__" a3) [.Constant (.str msg) kd a4] [] a5) env=(do
      let ov ← attributeBase (.Call (.Name "super" a1) [] [] a2) "__init__" env (eval (.Call (.Name "super" a1) [] [] a2) env)
      standAt a3.atName
      let (f,first) ← holding [ov] (getMethod ov "__init__" (pl env))
      callWith a5 f first (backTo a5 (starEach [.Constant (.str msg) kd a4] env)) []))
    (he:h.get? e=some oe) (hec:oe.cls = .ref C) (hed:oe.dict=none) (hef:oe.data = .fields vs) (h0:vs[0]? = some (.ref t0))
    (hq:∀ h' t' dx T,h'.get? e=some { cls:=.ref C,dict:=some dx,data:=.fields (vs.setIfInBounds 0 (.ref T)),slots:=oe.slots }→h.objs.size ≤ dx→h'.Ns1 dx (fun y=>if y=fld then some u else none)→(∀ b o,b ≠ e→h.get? b=some o→h'.get? b=some o)→R (.ok (.ret .none)) ⟨h',g,d,t',os⟩) :
    codeAny (model prog w) A (.call (.ref f) ⟨[.ref e,u],[]⟩) R ⟨h,g,d,t,os⟩:=by
  have X:K.In h:=B.kin.keeps kb
  refine ks_codeAny_call_defAt (s:=⟨h,g,d,t,os⟩) (binds:=[(("self":Str),.ref e),(par,u)]) hroom (X _ _ lk) rfl (B.nolimit.keeps kb) (codeRec_of X hcd) rfl (.of_eq hbind) S.nc (fun y hy=>?_) (fun h₀ hn k0=>?_) S.co S.ge S.ki
  · simp only [List.mem_cons,List.mem_nil_iff,or_false] at hy
    rcases hy with rfl | rfl
    · exact S.se
    · exact S.pa
  have kb0:∀ b o,base.get? b=some o→h₀.get? b=some o:=fun b o z=>k0 _ _ (kb _ _ z)
  have X0:K.In h₀:=B.kin.keeps kb0
  have e0:=k0 _ _ he
  have ms:(fun x=>([("self",.ref e),(par,u)]:List (Str×Value)).reverse.lookup x) ("self":Str)=some (.ref e):=by
    show ([(par,u),("self",.ref e)]:List (Str×Value)).lookup ("self":Str)=_
    rw [List.lookup_cons,S.ns]; rfl
  have mp:(fun x=>([("self",.ref e),(par,u)]:List (Str×Value)).reverse.lookup x) par=some u:=by
    show ([(par,u),("self",.ref e)]:List (Str×Value)).lookup par=_
    rw [List.lookup_cons,beq_self_eq_true]
  obtain ⟨mb,hb1,hb2⟩:=B.blt
  obtain ⟨nmC,qnC,NC,bsC,bmC,snC,subC,abC,colC,ddC,k0C,k1C,k2C,k3C,k5C,mNC,hC,_,_,_⟩:=(xc_at X0 q).out
  have nfe:∀ c,oe.data ≠ .cls c:=fun c z=>by rw [hef] at z; cases z
  have neC:e ≠ C:=fun z=>by
    subst z
    rw [e0] at hC; cases hC
    cases hef
  subst hb
  dsimp only
  generalize hE:(fun (e:Value) (s':Shared)=>wpAny (model prog w) _ (leaving _ e) (fun _ s''=>R (Except.error e) s'') (fun e' s''=>R (Except.error e') s'') s')=EX
  refine ks_wpAt_execs_cons ?_
  refine ks_wpAt_Expr_any ?_ (by show (sc.kind == .module && _)=false; rw [S.ki]; rfl) rfl
  refine ks_wpAt_MethodCall ?_ (hev _)
  refine ks_wpAt_super_base (env:=ksEnv qual sc h.objs.size f (.ref cda) cc) (file:=file) (tf:=tf) S.su S.cl (by decide +kernel) rfl (X0 _ _ lk) rfl hp rfl (X0 _ _ hcode) rfl hvs hfile htop ?_
  refine ks_loadName_global S.ki S.su (Calls.loadGlobal_builtin (B.glob.keeps kb0) hsu (hb1.keeps kb0) ((hb2 _ (by decide +kernel)).trans hboot) ⟨rfl,?_⟩)
  refine wpAny_loadName_free S.ki S.cl rfl ⟨_,X0 _ _ hcell,rfl⟩ ?_
  rw [har]
  refine wpAny_loadName_local S.ki S.se hn ms ?_
  refine ks_wpAny_isType_cls hC rfl ⟨rfl,?_⟩
  refine ks_wpAny_call_super hC rfl e0 hec nfe (x1.subs X0 (by simp)) (fun h1 hso k1=>?_)
  have kb1:∀ b o,base.get? b=some o→h1.get? b=some o:=fun b o z=>k1 _ _ (kb0 _ _ z)
  have X1:K.In h1:=B.kin.keeps kb1
  have e1:=k1 _ _ e0
  have inst:Looks (model prog w) h1 (isInstance (.ref e) (.type "ValueError")) true:=by
    unfold isInstance
    refine (looks_cls e1).andThen ?_
    rw [hec]
    exact x1.subs X1 (by simp [bmV])
  refine xs_getm (l:=.ref LE :: bmV) hso (looks_opaque X1 x1.opq) (x1.mroL X1) (by simp [List.dropWhile]) X1 x1.ini neC inst ?_
  generalize hmo:({ cls:=.type "method-wrapper",data:=.fields #[.builtin "ValueError.__init__",.ref e] }:Obj)=mo
  have m2:(h1.push mo).get? h1.objs.size=some mo:=Heap.get?_push_size _ (by rw [← hmo]; rfl)
  have k2:∀ b o,h.get? b=some o→(h1.push mo).get? b=some o:=fun b o z=>Heap.get?_push_of_some _ (k1 _ _ (k0 _ _ z))
  have e2:=k2 _ _ he
  have X2:K.In (h1.push mo):=B.kin.keeps fun b o z=>Heap.get?_push_of_some _ (kb1 _ _ z)
  refine callWith_mw (mw:=h1.objs.size) (fn:=.builtin "ValueError.__init__") (x:=.ref e) (by rw [hmo]; exact m2) fun tk=>?_
  refine xs_run (by rw [hmo]; exact m2) (xc_at X2 q) hec e2 hef h0 fun h3 T zT z1 z2=>?_
  have kb3:∀ b o,base.get? b=some o→h3.get? b=some o:=fun b o z=>z2 _ _ (fun y=>by rw [y,nb] at z; cases z) (Heap.get?_push_of_some _ (kb1 _ _ z))
  have X3:K.In h3:=B.kin.keeps kb3
  have hn3:h3.Ns h.objs.size (fun x=>([("self",.ref e),(par,u)]:List (Str×Value)).reverse.lookup x):=by
    obtain ⟨o,es,ep,ho,r⟩:=hn
    refine ⟨o,es,ep,z2 _ _ (fun y=>?_) (Heap.get?_push_of_some _ (k1 _ _ ho)),r⟩
    have z:=Heap.lt_size he
    rw [← y] at z
    exact absurd z (Nat.lt_irrefl _)
  show PySem.wpAt _ _ _ (execs [.Assign [.Attribute (.Name "self" b1) fld b2] (.Name par b3) b4] _) _ _ _
  refine ks_wpAt_execs_cons (ks_wpAt_Assign_Attr (wpAt_of_wpAny (wpAny_Name (wpAny_loadName_local S.ki S.pa hn3 mp ?_) S.db)) rfl)
  refine wpAny_Name (wpAny_loadName_local S.ki S.se hn3 ms ?_) (by decide +kernel)
  have dm:=Obj.data_mapFields hef (·.setIfInBounds 0 (Value.ref T))
  refine xs_set (x1.store X3 q) z1 ((Obj.cls_mapFields _ _).trans hec) ((dict_mapF _ _).trans hed) dm fun h4 t4 dx y1 y2 y3 y4=>?_
  refine wpAt_of_wpAny (wpAny_execs_nil ?_)
  have y2':h4.get? e=some { cls:=.ref C,dict:=some dx,data:=.fields (vs.setIfInBounds 0 (.ref T)),slots:=oe.slots }:=by
    rw [y2,Obj.cls_mapFields,hec,dm]
    obtain ⟨oc',od',odt',osl'⟩:=oe
    cases odt' <;> rfl
  exact hq h4 t4 dx T y2' (Nat.le_trans (Nat.le_of_lt hn3.lt) y1) y3 fun b o nb' z=>y4 _ _ nb' (z2 _ _ nb' (k2 _ _ z))
end
section
variable {prog:Program}{w:World}{A:Around}{E:Value→Shared→Prop}{h:Heap}{g:Array GenState}{d:Drawn}{t:Nat}{os:OsState}{C fI:Addr}{oI:Obj}{u:Value}
theorem xs_tcall {Q:Fin→Shared→Prop}(xa:XAt h C (some (.ref fI))) (hf:h.get? fI=some oI) (hfc:oI.cls = .type "function")
    (hq:∀ h' e,Heap.MadeExcOf h h' e (.ref C) [u]→wpAny (model prog w) A (call (.ref fI) [.ref e,u]) (fun r s'=>r = .none∧Q (.done (.ret (.ref e))) s') E ⟨h',g,d,t,os⟩) :
    wpAny (model prog w) A (Builtin.«type.__call__» ⟨[.ref C,u],[]⟩) Q E ⟨h,g,d,t,os⟩:=by
  obtain ⟨nm,qn,N,bs,bm,sn,sub,ab,col,dd,k0,k1,k2,k3,k5,mN,hC,hN,hi,T⟩:=xa.out
  have F:=PySem.F.excBase_ValueError
  repeat (first | with_reducible refine wpAny_loadPart_at hC ?_ | with_reducible refine wpAny_madeBy_exc hC ?_ | wp_step)
  refine codeAny_call_builtin_code (Code.quiet_builtin _ F.quiet) (wpAny_check_new_subU F (by decide +kernel) T hC ?_)
  refine codeAny_exc_new_subU (rest:=[u]) F (by decide +kernel) F T hC ?_ (by show 1 ≤ sizeLine; decide)
  show wpAny _ _ _ _ _ _
  generalize hh:(h.push { cls:=.type "tuple",data:=.seq [u].toArray }).push { cls:=.ref C,data:=.fields #[.ref h.objs.size,.none,.none,.none,.bool false,.none] } = h2
  have up:∀ b o,h.get? b=some o→h2.get? b=some o:=fun b o z=>by rw [← hh]; exact Heap.get?_push_of_some _ (Heap.get?_push_of_some _ z)
  have ge:h2.get? (h.objs.size + 1)=some { cls:=.ref C,data:=.fields #[.ref h.objs.size,.none,.none,.none,.bool false,.none] }:=by rw [← hh]; heap_get
  have gt:h2.get? h.objs.size=some { cls:=.type "tuple",data:=.seq [u].toArray }:=by rw [← hh]; exact Heap.get?_push_of_some _ (Heap.get?_push_at rfl rfl)
  have cC:(Value.ref C :: bm).contains (.ref C)=true:=by simp
  have C2:=up _ _ hC
  unfold isInstance
  repeat (first | with_reducible refine wpAny_loadPart_at ge ?_ | (with_reducible refine wpAny_isSubtype_exc C2 ?_; rw [cC]) | wp_step)
  show wpAny _ _ (typeLookup (.ref C) _) _ _ _
  refine wpAny_typeLookup_tail C2 (hN.keeps up) (T.keeps up) F.mroIs F.init.lookup ?_
  rw [hi]
  refine wpAny_holding (wpAny_bind ?_)
  unfold bindSpecial
  refine wpAny_bind (wpAny_typeOf (T:="function") ⟨_,up _ _ hf,hfc⟩ ?_)
  rw [if_pos (by decide)]
  refine wpAny_pure (wpAny_bind (wpAny_mono (hq h2 (h.objs.size + 1) ⟨up,Heap.get?_none_of_le (Nat.le_succ _),h.objs.size,ge,Heap.get?_none_of_le (Nat.le_refl _),gt⟩) (fun r s' z=>?_) fun _ _ z=>z))
  obtain ⟨rfl,z⟩:=z
  wp_walk
  exact z
theorem xs_call {Q:Value→Shared→Prop}(xa:XAt h C (some (.ref fI))) (hf:h.get? fI=some oI) (hfc:oI.cls = .type "function")
    (hq:∀ h' e,Heap.MadeExcOf h h' e (.ref C) [u]→wpAny (model prog w) (A.under (.builtin "type.__call__" ⟨[.ref C,u],[]⟩)) (call (.ref fI) [.ref e,u]) (fun r s'=>r = .none∧Q (.ref e) s') E ⟨h',g,d,t,os⟩) :
    wpAny (model prog w) A (call (.ref C) [u]) Q E ⟨h,g,d,t,os⟩:=by
  obtain ⟨nm,qn,N,bs,bm,sn,sub,ab,col,dd,k0,k1,k2,k3,k5,mN,hC,_,_,_⟩:=xa.out
  have f1:=tc_lookup
  have f2:=tc_bind (.ref C)
  have ty:(⟨h,g,d,t,os⟩:Shared).TypeIs (.ref C) "type":=⟨_,hC,rfl⟩
  refine wpAny_call (codeAny_of_tree ?_)
  show wpAny _ _ (callAny (.ref C) _) _ _ _
  repeat (any_goals (first | assumption | with_reducible refine wpAny_loadPart_at hC ?_ | wp_step))
  refine ⟨rfl,?_⟩
  exact codeAny_call_builtin_at (Code.quiet_builtin _ (by decide +kernel)) entry_typeCall (wpAny_check_type_call_sub hC (xs_tcall xa hf hfc fun h' e me=>hq h' e me))
end
structure XIni (prog:Program) (K:Frag) (C LE fI:Addr) (fld:Str):Prop where
  x1:XK1 K C LE fld
  xc:xcIn K C (some (.ref fI))=true
  kp:keepIn K (.ref C)=true
  su:nsIn K mainGlobals "super" = some none
  top:(prog.main.scope.names.lookup ("super":Str)).isSome=false
  ex:∃ (nm qual par msg file:Str) (ps:Arguments) (body:List Stmt) (sc:Scope) (kV doc pm ct ccl cl:Value) (an od cdd cld:Option Addr) (osl ccs csl:Array (Option Value)) (cvs:Array Value) (tf:Tok) (ar:Arg) (cda cc:Addr)
    (a1 a2 a3 a4 a5 a6 b1 b2 b3 b4:Pos) (kd:Nat) (pl:Env→Sem Bool),
    K.lookup fI=some ⟨.type "function",od,.func (ksFn nm qual ps body sc .none kV doc pm an (.ref cda) ct cc),osl⟩∧codeIn K (.ref cda) qual=true∧K.lookup cda=some ⟨ccl,cdd,.fields cvs,ccs⟩∧cvs[2]? = some (.str file tf)∧((prog.main.file:Str) == file)=true ∧
    K.lookup cc=some ⟨cl,cld,.cell (some (.ref C)),csl⟩∧ISc sc par∧(ps.posonlyargs ++ ps.args).head? = some ar∧ar.arg = "self"∧(∀ e u:Value,bindArgs (ksFn nm qual ps body sc .none kV doc pm an (.ref cda) ct cc) ⟨[e,u],[]⟩ = pure [(("self":Str),e),(par,u)]) ∧
    body = [.Expr (.Call (.Attribute (.Call (.Name "super" a1) [] [] a2) "__init__" a3) [.Constant (.str msg) kd a4] [] a5) a6,.Assign [.Attribute (.Name "self" b1) fld b2] (.Name par b3) b4] ∧
    ∀ env,eval (.Call (.Attribute (.Call (.Name "super" a1) [] [] a2) "__init__" a3) [.Constant (.str msg) kd a4] [] a5) env=(do
      let ov ← attributeBase (.Call (.Name "super" a1) [] [] a2) "__init__" env (eval (.Call (.Name "super" a1) [] [] a2) env)
      standAt a3.atName
      let (f,first) ← holding [ov] (getMethod ov "__init__" (pl env))
      callWith a5 f first (backTo a5 (starEach [.Constant (.str msg) kd a4] env)) [])
noncomputable def tRaise1 (C:Addr) (fld:Str) (XR:St→XK) (t:TA):TS:=fun _ σ H=>t σ H fun vs H1=>∃ v,vs = [v]∧∀ dx,H1 dx=none→XR σ (.ref C) (some dx) (upd H1 dx (.xd [(fld,v)]))
section
variable {X:Cx}{C LE fI:Addr}{fld x:Str}{XR:St→XK}{np cpos pos:Pos}{e:Expr}{t:TA}
theorem qs_raise1 (hx:Px X XR) (hc:X.calm=true) (hr:Room 2 X.A) (hg:Gl X x) (hm:X.mg x=some (.ref C)) (Z:XIni X.prog X.K C LE fI fld) (ha:PAs X [e] t) (hst:notStar e=true) (hdb:(x == ("__debug__":Str))=false) :
    PSw X (.Raise (some (.Call (.Name x np) [e] [] cpos)) none pos) (tRaise1 C fld XR t):=by
  refine ⟨fun pins s σ H D I h=>?_⟩
  rw [arm_exec_Raise]
  simp only [evalOpt,Option.map]
  refine wpAny_bind (wpAny_standAt (raise_made (C:=C) (init:=some (.ref fI)) (I.ok.hd hc) ?_))
  refine wpAny_bind (wpAny_mono (Q:=fun v s₁=>∃ e oe vs,v = .ref e∧XAt s₁.heap C (some (.ref fI))∧s₁.heap.get? e=some oe∧oe.cls = .ref C∧oe.data = .fields vs∧vs[1]? = some .none∧X.xe (.ref e) s₁) ?_ (fun v s₃ h₃=>wpAny_bind (wpAny_standAt (wpAny_pure h₃))) fun _ _ z=>z)
  refine wpAny_Call_Name_kw (ld_glob I hg hm ?_ hdb)
  refine callWith_K (h₀:=X.base) I.ok.mod.kin Z.kp (thn (ha.run cpos pins s σ H _ I h) fun us s1 ⟨vs,H1,I1,r,v,hv,q⟩=>⟨I1.kIn,?_⟩) (star_ne hst) rfl
  subst hv
  obtain ⟨u,rfl,rv⟩:∃ u,us = [u]∧RelV v u:=by
    cases r with
    | cons a b=>cases b; exact ⟨_,rfl,a⟩
  obtain ⟨nm,qual,par,msg,file,ps,body,sc,kV,doc,pm,ct,ccl,cl,an,od,cdd,cld,osl,ccs,csl,cvs,tf,ar,cda,cc,a1,a2,a3,a4,a5,a6,b1,b2,b3,b4,kd,pl,z1,z2,z3,z4,z5,z6,z7,z8,z9,z10,z11,z12⟩:=Z.ex
  obtain ⟨hh,g,d,t1,os⟩:=s1
  have hk:∀ b o,X.base.get? b=some o→hh.get? b=some o:=I1.bk
  refine xs_call (xc_at I1.kIn Z.xc) (I1.kIn _ _ z1) rfl fun h1 e1 me=>?_
  obtain ⟨tp,q1,q2,q3⟩:=me.there
  have nb:X.base.get? e1=none:=by
    cases zz:X.base.get? e1 with
    | none=>rfl
    | some o=>have:=hk _ _ zz; rw [me.new] at this; cases this
  have hsu:X.mg "super" = none:=mg_none_of I1.ok.mod.kin I1.ok.mod.glob Z.su
  refine wpAny_call (codeAny_mono (R:=fun r s'=>r = .ok (.ret .none)∧∃ e oe vs,Value.ref e1 = .ref e∧XAt s'.heap C (some (.ref fI))∧s'.heap.get? e=some oe∧oe.cls = .ref C∧oe.data = .fields vs∧vs[1]? = some .none∧X.xe (.ref e) s') (xs_init (base:=X.base) (par:=par) (fld:=fld) (LE:=LE) (C:=C) I1.ok.mod (fun b o z=>me.keeps _ _ (hk _ _ z)) nb Z.x1 Z.xc (hr.make C [u] []).depth z1 z2 z3 z4 z5 z6 hsu Z.top (by decide +kernel) z7 z8 z9 (z10 _ _) z11 z12 q1 rfl rfl rfl rfl fun h2 t2 dx T y1 y2 y3 y4=>⟨rfl,e1,_,_,rfl,?_,y1,rfl,rfl,rfl,?_⟩) ?_)
  · exact (xc_at I1.kIn Z.xc).keeps fun b o z=>y4 _ _ (fun y=>by rw [y] at z; rw [me.new] at z; cases z) (me.keeps _ _ z)
  · have kk:∀ b o,hh.get? b=some o→h2.get? b=some o:=fun b o z=>y4 _ _ (fun y=>by rw [y,me.new] at z; cases z) (me.keeps _ _ z)
    have d1:h1.get? dx=none:=Heap.get?_none_of_le y2
    have d0:hh.get? dx=none:=by
      cases zz:hh.get? dx with
      | none=>rfl
      | some o=>have:=me.keeps _ _ zz; rw [d1] at this; cases this
    have Hd:H1 dx=none:=I1.hok.none d0
    have He:H1 e1=none:=I1.hok.none me.new
    have ed:e1 ≠ dx:=fun y=>by rw [← y,q1] at d1; cases d1
    have ne:∀ b o,H1 b=some o→b ≠ dx:=fun b o z y=>by rw [y,Hd] at z; cases z
    have hun:Un (frs X.stack) [] H1 (upd H1 dx (.xd [(fld,v)])) hh h2:=by
      refine ⟨fun b o z _ _ _=>kk b o z,fun b o z _ _ _=>⟨o.slots,kk b o z⟩,fun b o z n _=>?_,fun b o z _=>⟨o,kk b o z⟩,fun b xs z=>?_,fun b o xs z=>?_,fun b ps z=>⟨#[],?_⟩⟩
      · rw [upd_ne (fun y=>by rw [y,d0] at z; cases z)]; exact n
      · rw [upd_ne (ne _ _ z)]; exact z
      · rw [upd_ne (ne _ _ z)]; exact z
      · rw [upd_ne (ne _ _ z),z]; simp
    have hho:HOk X.prog X.w (upd H1 dx (.xd [(fld,v)])) h2:=fun b o z=>by
      by_cases hb:b=dx
      · subst hb
        rw [upd_same] at z
        cases z
        refine ⟨_,y3,fun f=>?_⟩
        show RelO (([(fld,v)]:List (Str×V)).lookup f) _
        rw [List.lookup_cons]
        by_cases hf:f=fld
        · subst hf; simp only [beq_self_eq_true,if_true]; exact rv
        · have:(f == fld)=false:=by simpa using hf
          rw [this,if_neg hf]; exact trivial
      · rw [upd_ne hb] at z
        exact (I1.hok b o z).stay (fun c w' _ y=>kk c w' y) (fun c y=>by rw [upd_ne (ne _ _ y)]; exact y) fun c xs y=>by rw [upd_ne (ne _ _ y)]; exact y
    exact hx pins σ H1 ⟨hh,g,d,t1,os⟩ (.ref e1) ⟨h2,g,d,t2,os⟩ I1 ⟨e1,.ref C,some dx,_,rfl,rfl,I1.bare,hun,hho,⟨me.new,by rw [upd_ne ed]; exact He⟩,⟨_,_,y1,rfl,rfl,rfl,by simp,.inl ⟨rfl,rfl⟩⟩,q dx Hd⟩
  · rintro _ s' ⟨rfl,z⟩
    exact ⟨rfl,z⟩
end
section
variable {prog:Program}{w:World}{A:Around}{E:Value→Shared→Prop}{h:Heap}{g:Array GenState}{d:Drawn}{t:Nat}{os:OsState}{a C LE dx:Addr}{o:Obj}{vs:Array Value}{name:Str}{v:Value}{mA:Str→Option Value}
theorem ld_at {M:Model}{Q:Obj→Shared→Prop}(ho:h.get? a=some o) (hq:Q o ⟨h,g,d,t,os⟩):wpAny M A (load a) Q E ⟨h,g,d,t,os⟩:=wpAny_load ho hq
theorem nsg_at {M:Model}{Q:Option Value→Shared→Prop}(hn:h.Ns1 dx mA) (hm:mA name=some v) (hq:Q (some v) ⟨h,g,d,t,os⟩):wpAny M A (nsGet dx name) Q E ⟨h,g,d,t,os⟩:=wpAny_nsGet hn.ns (by rw [hm]; exact hq)
theorem xa_entry {init:Option Value}{tk:Tok}{Q:Fin→Shared→Prop}(xa:XAt h C init) (no:Looks (model prog w) h (typeLookup (.ref C) name) none) (hx:h.get? a=some o) (hc:o.cls = .ref C) (hd:o.data = .fields vs) (hdx:o.dict=some dx) (hn:h.Ns1 dx mA) (hm:mA name=some v)
    (hq:Q (.done (.ret v)) ⟨h,g,d,t,os⟩):wpAny (model prog w) A (Builtin.«object.__getattribute__» ⟨[.ref a,.str name tk],[]⟩) Q E ⟨h,g,d,t,os⟩:=by
  obtain ⟨oc,od,odt,osl⟩:=o
  dsimp only at hc hd hdx
  subst hc hd hdx
  obtain ⟨nm,qn,N,bs,bm,sn,sub,ab,col,dd,k0,k1,k2,k3,k5,mN,hC,_,_,_⟩:=xa.out
  repeat (any_goals (first | assumption | (with_reducible refine wpAny_loadPart_at hx ?_) | (with_reducible refine ld_at hC ?_) | (with_reducible refine nsg_at hn hm ?_) | (with_reducible refine Looks.at no ?_) | wp_step))
structure GetAt (M:Model) (h:Heap) (C:Addr):Prop where
  ga:Looks M h (typeLookup (.ref C) "__getattribute__") (some (.builtin "BaseException.__getattribute__"))
  gn:Looks M h (typeLookup (.ref C) "__getattr__") none
  be:Looks M h (isSubtype (.ref C) (.type "BaseException")) true
  ob:Looks M h (isSubtype (.ref C) (.type "object")) true
  kc:Looks M h (typeLookup (.ref C) "__class__") (some (.builtin "object.__class__"))
theorem xa_chk {M:Model}{n:Value}{Q:Unit→Shared→Prop}(G:GetAt M h C) (hx:h.get? a=some o) (hc:o.cls = .ref C) (hq:Q () ⟨h,g,d,t,os⟩):wpAny M A (checkBuiltinCall "BaseException.__getattribute__" ⟨[.ref a,n],[]⟩) Q E ⟨h,g,d,t,os⟩:=by
  have kd:builtinKind "BaseException.__getattribute__" = some .slot:=by decide +kernel
  have sp:splitId "BaseException.__getattribute__" = some ("BaseException","__getattribute__"):=by decide +kernel
  have be:=G.be
  simp only [checkBuiltinCall,kd,sp]
  refine wpAny_bind ?_
  unfold isInstance
  repeat (first | (with_reducible refine wpAny_loadPart_at hx ?_; rw [hc]) | (with_reducible refine Looks.at be ?_) | wp_step)
  exact hq
theorem xa_by {tk:Tok}{fill expr:Bool}{Q:Value→Shared→Prop}(hv:handedOut v=pure v) (G:GetAt (model prog w) h C) (hx:h.get? a=some o) (hc:o.cls = .ref C)
    (hq:∀ A',codeAny (model prog w) A' (.call (.builtin "BaseException.__getattribute__") ⟨[.ref a,.str name tk],[]⟩) (fun r s'=>r = .ok (.ret v)∧Q v s') ⟨h,g,d,t,os⟩) :
    wpAny (model prog w) A (getAttrBy (.ref a) (.str name tk) fill expr) Q E ⟨h,g,d,t,os⟩:=by
  have FB:=PySem.F.attr_ValueError
  have f3:=FB.ga.bind (.ref a)
  have z0:(expr && onTheHeap (Value.builtin "BaseException.__getattribute__"))=false:=by cases expr <;> rfl
  have z2:(Value.builtin "BaseException.__getattribute__" == Value.builtin "object.__getattribute__")=false:=by decide +kernel
  have z1:(onTheHeap (Value.ref C) && Value.builtin "BaseException.__getattribute__" == Value.builtin "object.__getattribute__")=false:=by rw [z2]; rfl
  have ga:=G.ga
  have gn:=G.gn
  repeat (any_goals (first | assumption | (with_reducible refine wpAny_loadPart_at hx ?_; rw [hc]) | (with_reducible refine Looks.at ga ?_) | (with_reducible refine Looks.at gn ?_) | wp_step))
  refine codeAny_mono (hq _) fun r s' ⟨z,q⟩=>?_
  subst z
  show wpAny _ _ (handedOut v) _ _ _
  rw [hv]
  exact wpAny_pure q
theorem xa_fld {init:Option Value}{expr:Bool}{Q:Value→Shared→Prop}(hv:handedOut v=pure v) (G:GetAt (model prog w) h C) (xa:XAt h C init) (no:Looks (model prog w) h (typeLookup (.ref C) name) none) (hx:h.get? a=some o) (hc:o.cls = .ref C) (hd:o.data = .fields vs) (hdx:o.dict=some dx) (hn:h.Ns1 dx mA) (hm:mA name=some v)
    (hq:Q v ⟨h,g,d,t + 1,os⟩):wpAny (model prog w) A (getAttr (.ref a) name expr) Q E ⟨h,g,d,t,os⟩:=by
  unfold getAttr
  refine wpAny_bind (wpAny_mkText ?_)
  refine xa_by (v:=v) hv G hx hc fun A'=>?_
  exact codeAny_call_builtin PySem.F.attr_ValueError.ga.plain PySem.F.entry_bexc_ga (xa_chk G hx hc (xa_entry xa no hx hc hd hdx hn hm ⟨rfl,hq⟩))
theorem xa_ce {tk:Tok}{Q:Fin→Shared→Prop}(G:GetAt (model prog w) h C) (hx:h.get? a=some o) (hc:o.cls = .ref C) (hd:o.data = .fields vs)
    (hq:Q (.done (.ret (.ref C))) ⟨h,g,d,t,os⟩):wpAny (model prog w) A (Builtin.«object.__getattribute__» ⟨[.ref a,.str "__class__" tk],[]⟩) Q E ⟨h,g,d,t,os⟩:=by
  have ty:(⟨h,g,d,t,os⟩:Shared).TypeIs (.builtin "object.__class__") "getset_descriptor":=PySem.F.typeOf_object_class
  have f5:=PySem.F.typeOf_object_class
  have f6:=PySem.F.slot_gs_get.lookup
  have f7:=PySem.F.slot_gs_set.lookup
  have kc:=G.kc
  repeat (any_goals (first | assumption | (with_reducible refine wpAny_loadPart_at hx ?_; rw [hc]) | (with_reducible refine Looks.at kc ?_) | wp_step))
  have ow:(".".intercalate ("object.__class__".cutAt '.').dropLast) = "object":=by kernel_rfl
  have ob:=G.ob
  rw [← ow] at ob
  refine codeAny_call_builtin PySem.F.slot_gs_get.plain PySem.F.entry_gs_get (PySem.F.slot_gs_get.check _ _ _ _ _ _ _ _ ty (PySem.F.args_gs_get _ _ _) ?_)
  repeat (any_goals (first | assumption | (with_reducible refine wpAny_loadPart_at hx ?_; rw [hc]) | (with_reducible refine Looks.at ob ?_) | wp_step))
  refine ⟨Code.quiet_builtin _ (by decide +kernel),codeAny_builtin PySem.F.entry_object_class ?_⟩
  unfold Builtin.«object.__class__»
  repeat (any_goals (first | assumption | (with_reducible refine wpAny_loadPart_at hx ?_; rw [hc]) | wp_step))
theorem xa_cls {Q:Option Value→Shared→Prop}(G:GetAt (model prog w) h C) (hx:h.get? a=some o) (hc:o.cls = .ref C) (hd:o.data = .fields vs) (hq:Q (some (.ref C)) ⟨h,g,d,t + 1,os⟩) :
    wpAny (model prog w) A (getAttr? (.ref a) "__class__") Q E ⟨h,g,d,t,os⟩:=by
  unfold getAttr? getAttrBy?
  refine wpAny_bind (wpAny_mkText (wpAny_bind (wpAny_attempt ?_)))
  refine xa_by (v:=.ref C) rfl G hx hc fun A'=>?_
  exact codeAny_call_builtin PySem.F.attr_ValueError.ga.plain PySem.F.entry_bexc_ga (xa_chk G hx hc (xa_ce G hx hc hd ⟨rfl,wpAny_pure hq⟩))
end
structure XG (K:Frag) (C:Addr):Prop where
  cl:∃ cd,clsIn K C=some cd
  ga:findIn K (.ref C) "__getattribute__" = some (some (.builtin "BaseException.__getattribute__"))
  gn:findIn K (.ref C) "__getattr__" = some none
  kc:findIn K (.ref C) "__class__" = some (some (.builtin "object.__class__"))
  be:mroIn K C (.type "BaseException")=some true
  ob:mroIn K C (.type "object")=some true
theorem XG.at_ {K:Frag}{C:Addr}{M:Model}{h:Heap}(x:XG K C) (X:K.In h):GetAt M h C:=⟨looks_findIn X x.ga,looks_findIn X x.gn,looks_mroIn X x.be,looks_mroIn X x.ob,looks_findIn X x.kc⟩
theorem kitx_exc {K:Frag}{a C:Addr}{dx:Option Addr}(x:XG K C):KitX K (.ref a) (.ref C) (ExcIs a (.ref C) dx) where
  ty:=fun M h X ⟨oe,vs,q,c,_⟩=>by rw [← c]; exact looks_cls q
  it:=fun M h X _=>by
    obtain ⟨cd,e⟩:=x.cl
    unfold clsIn at e
    split at e
    · rename_i ho
      intro A' Q' E' s' k q
      unfold isType loadHead
      exact wpAny_bind (wpAny_loadPart (k _ _ (X _ _ ho)) (wpAny_pure q))
    · cases e
  ne:=fun h tp dd its n sl X htp=>by
    obtain ⟨cd,e⟩:=x.cl
    refine Bool.eq_false_iff.mpr fun q=>?_
    have z:C=tp:=Value.ref.inj (beq_iff_eq.mp q)
    subst z
    unfold clsIn at e
    split at e
    · rename_i ho
      have z:=(X _ _ ho).symm.trans htp
      cases z
    · cases e
  ca:=fun {_ _ _ _ _ s} X ⟨oe,vs,q,c,_,f⟩ k=>by
    obtain ⟨h,g,d,t,os⟩:=s
    exact xa_cls (x.at_ X) q c f k
inductive TyX (K:Frag) (H:Hp):V→Value→Prop
  | std {x:V}{T:String}(h:TyS K H x T):TyX K H x (.type T)
  | exc {a C:Addr}{dx:Option Addr}(h:H a=some (.ext (ExcIs a (.ref C) dx))) (g:XG K C):TyX K H (.ref a) (.ref C)
noncomputable def cV:V→Option Value
  | .ty n=>some (.type n)
  | .ref C=>some (.ref C)
  | _=>none
noncomputable def rIsiX (K:Frag):List V→Hp→VK→Prop:=fun xs H Q=>∃ x c tv cv b,xs = [x,c]∧TyX K H x tv∧cV c=some cv∧kitOne K tv cv=some b∧Q (.bl b) H
section
variable {X:Cx}
theorem cn_isiX:CallR X (.builtin "isinstance") (rIsiX X.K):=by
  intro pins s σ H xs us Q I r h
  obtain ⟨x,c,tv,cv,b,rfl,ty,hc,e,q⟩:=h
  obtain ⟨u,w,rfl,ru,rw_⟩:=vals2 r
  obtain rfl:w=cv:=by
    cases c with
    | ty n=>cases hc; exact rw_
    | ref C=>cases hc; exact rw_
    | _=>cases hc
  have fin:∀ tk,EP X pins σ Q (.bool b) { s with toks:=tk }:=fun tk=>⟨.bl b,H,I.tok tk,rfl,q⟩
  cases ty with
  | std ty =>
    cases ty with
    | non=>cases ru; exact kia_one kitx_none I.kIn True.intro e (fun z=>nomatch z) fin
    | bl y=>cases ru; exact kia_one kitx_bool I.kIn True.intro e (fun z=>nomatch z) fin
    | int i=>obtain ⟨t,rfl⟩:=ru; exact kia_one kitx_int I.kIn True.intro e (fun z=>nomatch z) fin
    | str y=>obtain ⟨t,rfl⟩:=ru; exact kia_one kitx_str I.kIn True.intro e (fun z=>nomatch z) fin
    | lst hq =>
      cases ru
      obtain ⟨its,_,⟨o,nn,e1,e2,_⟩,_⟩:=I.list hq
      exact kia_one kitx_list I.kIn ⟨o,e1,e2⟩ e (fun z=>nomatch z) fin
    | tup hq =>
      cases ru
      obtain ⟨its,_,⟨o,e1,e2,_⟩,_⟩:=I.tuple hq
      exact kia_one kitx_tuple I.kIn ⟨o,e1,e2⟩ e (fun z=>nomatch z) fin
    | @dk a kvs hq =>
      cases ru
      obtain ⟨_,_,vs,_,o,es,ep,h1,h2,_⟩:=(show ObjOk X.prog X.w H s.heap a (.dK kvs) from I.hok a _ hq)
      exact kia_one kitx_dict I.kIn ⟨o,h1,h2.1⟩ e (fun z=>nomatch z) fin
  | @exc a C dx hq g =>
    cases ru
    have z:ExcIs a (.ref C) dx s.heap:=(I.hok a _ hq).1
    exact kia_one (kitx_exc g) I.kIn z e (fun z=>nomatch z) fin
noncomputable def tXAt (K:Frag) (ta:TE) (f:Str):TE:=fun σ H Q=>ta σ H fun x H1=>∃ a C dx fs v init,x = .ref a∧H1 a=some (.ext (ExcIs a (.ref C) (some dx)))∧XG K C∧xcIn K C init=true∧findIn K (.ref C) f=some none∧H1 dx=some (.xd fs)∧fs.lookup f=some v∧Q v H1
variable {e:Expr}{ta:TE}{f:Str}{pos:Pos}
theorem handed_rel {v:V}{u:Value}(r:RelV v u):handedOut u=pure u:=by
  cases v with
  | non=>cases r; rfl
  | bl b=>cases r; rfl
  | int i=>obtain ⟨t,rfl⟩:=r; rfl
  | str x=>obtain ⟨t,rfl⟩:=r; rfl
  | byt b=>obtain ⟨t,rfl⟩:=r; rfl
  | flt b=>obtain ⟨t,rfl⟩:=r; rfl
  | ref a=>cases r; rfl
  | ty n=>cases r; rfl
theorem pe_xat (he:PE X e ta) (hb:attributeBase e f X.env (eval e X.env)=eval e X.env):PE X (.Attribute e f pos) (tXAt X.K ta f):=by
  intro pins s σ H Q I h
  refine attr_of hb (thn (he pins s σ H _ I h) fun u s1 ⟨x,H1,I1,rx,a,C,dx,fs,v,init,ex,ea,g,xc,nf,ed,l,q⟩=>?_)
  subst ex
  obtain rfl:u=Value.ref a:=rx
  obtain ⟨oe,vs,q0,q1,q2,q3⟩:=(I1.hok a _ ea).1
  obtain ⟨mA,n1,rel⟩:∃ mA,s1.heap.Ns1 dx mA∧∀ f,RelO (fs.lookup f) (mA f):=I1.hok dx _ ed
  have rf:=rel f
  rw [l] at rf
  cases hm:mA f with
  | none=>rw [hm] at rf; exact rf.elim
  | some uv =>
    rw [hm] at rf
    have rf':RelV v uv:=rf
    obtain ⟨hh,gg,d,t,os⟩:=s1
    exact xa_fld (handed_rel rf') (g.at_ I1.kIn) (xc_at I1.kIn xc) (looks_findIn I1.kIn nf) q0 q1 q3 q2 n1 hm ⟨v,H1,I1.tok _,rf',q⟩
end
noncomputable def xgIn (K:Frag) (C:Addr):Bool:=(clsIn K C).isSome && (findIn K (.ref C) "__getattribute__" == some (some (.builtin "BaseException.__getattribute__")) && (findIn K (.ref C) "__getattr__" == some none && (findIn K (.ref C) "__class__" == some (some (.builtin "object.__class__")) && (mroIn K C (.type "BaseException") == some true && mroIn K C (.type "object") == some true))))
theorem xg_of {K:Frag}{C:Addr}(h:xgIn K C=true):XG K C:=by
  unfold xgIn at h
  simp only [Bool.and_eq_true,beq_iff_eq] at h
  obtain ⟨a,b,c,d,e,f⟩:=h
  exact ⟨Option.isSome_iff_exists.mp a,b,c,d,e,f⟩
noncomputable def xk1In (K:Frag) (C LE:Addr) (fld:Str):Bool:=(clsIn K C).map (·.mro) == some (.ref C :: .ref LE :: bmV) && (findIn K (.ref C) fld == some none && (findIn K (.ref C) "__setattr__" == some (some (.builtin "object.__setattr__")) && (alongIn K "__init__" (.ref LE :: bmV) == some (some (.builtin "ValueError.__init__")) && nsIn K cStatics "thirdparty.any" == some none)))
theorem xk1_of {K:Frag}{C LE:Addr}{fld:Str}(h:xk1In K C LE fld=true):XK1 K C LE fld:=by
  unfold xk1In at h
  simp only [Bool.and_eq_true,beq_iff_eq] at h
  obtain ⟨a,b,c,d,e⟩:=h
  exact ⟨a,b,c,d,e⟩
structure IBody (st:Stmt) (fld par:Str):Prop where
  sc:ISc (defScope st) par
  se:∃ ar,((defArgs st).posonlyargs ++ (defArgs st).args).head? = some ar∧ar.arg = "self"
  bd:∀ (nm qual:Str) (kV doc pm:Value) (an:Option Addr) (cda:Value) (ct:Value) (cc:Addr) (e u:Value),bindArgs (ksFn nm qual (defArgs st) (defBody st) (defScope st) .none kV doc pm an cda ct cc) ⟨[e,u],[]⟩ = pure [(("self":Str),e),(par,u)]
  tx:∃ (msg:Str) (a1 a2 a3 a4 a5 a6 b1 b2 b3 b4:Pos) (kd:Nat) (pl:Env→Sem Bool),defBody st = [.Expr (.Call (.Attribute (.Call (.Name "super" a1) [] [] a2) "__init__" a3) [.Constant (.str msg) kd a4] [] a5) a6,.Assign [.Attribute (.Name "self" b1) fld b2] (.Name par b3) b4] ∧
    ∀ env,eval (.Call (.Attribute (.Call (.Name "super" a1) [] [] a2) "__init__" a3) [.Constant (.str msg) kd a4] [] a5) env=(do
      let ov ← attributeBase (.Call (.Name "super" a1) [] [] a2) "__init__" env (eval (.Call (.Name "super" a1) [] [] a2) env)
      standAt a3.atName
      let (f,first) ← holding [ov] (getMethod ov "__init__" (pl env))
      callWith a5 f first (backTo a5 (starEach [.Constant (.str msg) kd a4] env)) [])
theorem xini_mk {prog:Program}{K:Frag}{C LE fI cda cc:Addr}{fld par nm qual file:Str}{st:Stmt}{kV doc pm ct ccl cl:Value}{an od cdd cld:Option Addr}{osl ccs csl:Array (Option Value)}{cvs:Array Value}{tf:Tok}
    (T:IBody st fld par) (x1:xk1In K C LE fld=true) (xc:xcIn K C (some (.ref fI))=true) (kp:keepIn K (.ref C)=true) (su:nsIn K mainGlobals "super" = some none) (top:(prog.main.scope.names.lookup ("super":Str)).isSome=false)
    (lk:K.lookup fI=some ⟨.type "function",od,.func (ksFn nm qual (defArgs st) (defBody st) (defScope st) .none kV doc pm an (.ref cda) ct cc),osl⟩) (cd:codeIn K (.ref cda) qual=true) (hcode:K.lookup cda=some ⟨ccl,cdd,.fields cvs,ccs⟩) (hvs:cvs[2]? = some (.str file tf)) (hfile:((prog.main.file:Str) == file)=true)
    (hcell:K.lookup cc=some ⟨cl,cld,.cell (some (.ref C)),csl⟩):XIni prog K C LE fI fld:=by
  obtain ⟨ar,s1,s2⟩:=T.se
  obtain ⟨msg,a1,a2,a3,a4,a5,a6,b1,b2,b3,b4,kd,pl,t1,t2⟩:=T.tx
  exact ⟨xk1_of x1,xc,kp,su,top,nm,qual,par,msg,file,_,_,_,kV,doc,pm,ct,ccl,cl,an,od,cdd,cld,osl,ccs,csl,cvs,tf,ar,cda,cc,a1,a2,a3,a4,a5,a6,b1,b2,b3,b4,kd,pl,lk,cd,hcode,hvs,hfile,hcell,T.sc,s1,s2,T.bd nm qual kV doc pm an (.ref cda) ct cc,t1,t2⟩
theorem px0 {X:Cx}:Px X (fun _=>E0):=fun _ _ _ _ _ _ _ h=>by
  obtain ⟨a,C,dx,H',_,_,_,_,_,_,_,q⟩:=h
  exact q.elim
section
variable {X:Cx}{b₀:Stmt}{body suite:List Stmt}{c x:Str}{p hp pos:Pos}{B:Addr}{i:Nat}{tb:(St→XK)→TS}{ts:TS}
theorem qs_try (hN:X.N.Nodup) (hi:X.N[i]? = some x) (hx:X.env.scope.names.lookup x=some .local) (hg:Gl X c) (hm:X.mg c=some (.ref B)) (hst:X.stack=X.env :: X.outer) (hfr:X.env.frame=some X.env.locals) (hex:X.ex = [])
    (hb:∀ (xe':Value→Shared→Prop) (pn':List (Addr×Obj)) (XR:St→XK),Px (X.tr xe' pn') XR→PSsw (X.tr xe' pn') body (tb XR)) (hs:∀ e:Addr,PSsw (X.su e) (b₀ :: suite) ts) (hdb:(c == ("__debug__":Str))=false) :
    PSw X (.Try body [.ExceptHandler (some (.Name c p)) (some x) (b₀ :: suite) hp] [] [] pos) (tTry X.K B i tb ts):=⟨ps_try hN hi hx hg hm hst hfr hex (fun xe' pn' XR h=>(hb xe' pn' XR h).run) (fun e=>(hs e).run) hdb⟩
end
section
variable {σ:St}{H:Hp}{D:Ends}{Q:VK}
theorem rd_callX {sp:Sp}{dvs:List V}{XR:St→XK}{t:TA}(h:t σ H fun vs H1=>sp (vs ++ dvs) H1 Q (XR σ)):tCallX sp dvs XR t σ H Q:=h
theorem rd_raise1 {C:Addr}{fld:Str}{XR:St→XK}{t:TA}(h:t σ H fun vs H1=>∃ v,vs = [v]∧∀ dx,H1 dx=none→XR σ (.ref C) (some dx) (upd H1 dx (.xd [(fld,v)]))):tRaise1 C fld XR t D σ H:=h
theorem rd_try {K:Frag}{B:Addr}{i:Nat}{tb:(St→XK)→TS}{ts:TS}
    (h:tb (fun σ' C dx H'=>exmOne K C (.ref B)=some true∧∀ a,H' a=none→ts (D.un i) (σ'.set i (some (.ref a))) (upd H' a (.ext (ExcIs a C dx)))) D σ H):tTry K B i tb ts D σ H:=h
theorem rd_unx {i:Nat}(h:D.nx (σ.set i none) H):(D.un i).nx σ H:=h
theorem rd_xat {K:Frag}{ta:TE}{f:Str}(h:ta σ H fun x H1=>∃ a C dx fs v init,x = .ref a∧H1 a=some (.ext (ExcIs a (.ref C) (some dx)))∧XG K C∧xcIn K C init=true∧findIn K (.ref C) f=some none∧H1 dx=some (.xd fs)∧fs.lookup f=some v∧Q v H1):tXAt K ta f σ H Q:=h
theorem rd_isiX {K:Frag}{x c:V}{tv cv:Value}{b:Bool}(ty:TyX K H x tv) (hc:cV c=some cv) (e:kitOne K tv cv=some b) (h:Q (.bl b) H):rIsiX K [x,c] H Q:=⟨x,c,tv,cv,b,rfl,ty,hc,e,h⟩
end
structure ISc0 (sc:Scope):Prop where
  su:sc.names.lookup ("super":Str)=some .globalImplicit
  cl:sc.names.lookup ("__class__":Str)=some .free
  se:sc.names.lookup ("self":Str)=some .local
  nc:∀ x ∈ sc.names,x.2 ≠ .cell
  co:sc.isCoroutine=false
  ge:sc.isGenerator=false
  ki:sc.kind = .function
section
variable {prog:Program}{w:World}{A:Around}{R:Result→Shared→Prop}{h:Heap}{g:Array GenState}{d:Drawn}{t:Nat}{os:OsState}
variable {K:Frag}{mg:Str→Option Value}{base:Heap}{f C LE e cda cc:Addr}{fld nm qual msg file:Str}{ps:Arguments}{body:List Stmt}{sc:Scope}{kV doc pm ct oc ccl cl:Value}{an od cdd cld:Option Addr}{osl ccs csl:Array (Option Value)}{cvs vs:Array Value}{tf:Tok}{init:Option Value}{oe:Obj}{t0:Addr}{ar:Arg}
  {a1 a2 a3 a4 a5 a6:Pos}{kd:Nat}{pl:Env→Sem Bool}
end
section
variable {prog:Program}{w:World}{A:Around}{E:Value→Shared→Prop}{h:Heap}{g:Array GenState}{d:Drawn}{t:Nat}{os:OsState}{C fI:Addr}{oI:Obj}
end
structure XIni0 (prog:Program) (K:Frag) (C LE fI:Addr) (fld:Str):Prop where
  x1:XK1 K C LE fld
  xc:xcIn K C (some (.ref fI))=true
  kp:keepIn K (.ref C)=true
  su:nsIn K mainGlobals "super" = some none
  top:(prog.main.scope.names.lookup ("super":Str)).isSome=false
  ex:∃ (nm qual msg file:Str) (ps:Arguments) (body:List Stmt) (sc:Scope) (kV doc pm ct ccl cl:Value) (an od cdd cld:Option Addr) (osl ccs csl:Array (Option Value)) (cvs:Array Value) (tf:Tok) (ar:Arg) (cda cc:Addr)
    (a1 a2 a3 a4 a5 a6:Pos) (kd:Nat) (pl:Env→Sem Bool),
    K.lookup fI=some ⟨.type "function",od,.func (ksFn nm qual ps body sc .none kV doc pm an (.ref cda) ct cc),osl⟩∧codeIn K (.ref cda) qual=true∧K.lookup cda=some ⟨ccl,cdd,.fields cvs,ccs⟩∧cvs[2]? = some (.str file tf)∧((prog.main.file:Str) == file)=true ∧
    K.lookup cc=some ⟨cl,cld,.cell (some (.ref C)),csl⟩∧ISc0 sc∧(ps.posonlyargs ++ ps.args).head? = some ar∧ar.arg = "self"∧(∀ e:Value,bindArgs (ksFn nm qual ps body sc .none kV doc pm an (.ref cda) ct cc) ⟨[e],[]⟩ = pure [(("self":Str),e)]) ∧
    body = [.Expr (.Call (.Attribute (.Call (.Name "super" a1) [] [] a2) "__init__" a3) [.Constant (.str msg) kd a4] [] a5) a6] ∧
    ∀ env,eval (.Call (.Attribute (.Call (.Name "super" a1) [] [] a2) "__init__" a3) [.Constant (.str msg) kd a4] [] a5) env=(do
      let ov ← attributeBase (.Call (.Name "super" a1) [] [] a2) "__init__" env (eval (.Call (.Name "super" a1) [] [] a2) env)
      standAt a3.atName
      let (f,first) ← holding [ov] (getMethod ov "__init__" (pl env))
      callWith a5 f first (backTo a5 (starEach [.Constant (.str msg) kd a4] env)) [])
section
variable {X:Cx}{C LE fI:Addr}{fld x:Str}{XR:St→XK}{np cpos pos:Pos}
end
structure IBody0 (st:Stmt):Prop where
  sc:ISc0 (defScope st)
  se:∃ ar,((defArgs st).posonlyargs ++ (defArgs st).args).head? = some ar∧ar.arg = "self"
  bd:∀ (nm qual:Str) (kV doc pm:Value) (an:Option Addr) (cda:Value) (ct:Value) (cc:Addr) (e:Value),bindArgs (ksFn nm qual (defArgs st) (defBody st) (defScope st) .none kV doc pm an cda ct cc) ⟨[e],[]⟩ = pure [(("self":Str),e)]
  tx:∃ (msg:Str) (a1 a2 a3 a4 a5 a6:Pos) (kd:Nat) (pl:Env→Sem Bool),defBody st = [.Expr (.Call (.Attribute (.Call (.Name "super" a1) [] [] a2) "__init__" a3) [.Constant (.str msg) kd a4] [] a5) a6] ∧
    ∀ env,eval (.Call (.Attribute (.Call (.Name "super" a1) [] [] a2) "__init__" a3) [.Constant (.str msg) kd a4] [] a5) env=(do
      let ov ← attributeBase (.Call (.Name "super" a1) [] [] a2) "__init__" env (eval (.Call (.Name "super" a1) [] [] a2) env)
      standAt a3.atName
      let (f,first) ← holding [ov] (getMethod ov "__init__" (pl env))
      callWith a5 f first (backTo a5 (starEach [.Constant (.str msg) kd a4] env)) [])
end L2
namespace Zt
open PySem PySem.Spec
section
variable {prog:Program}{w:World}{A:Around}{E:Value→Shared→Prop}{s:Shared}
end
end Zt
namespace L2
open PySem PySem.Spec PyProof.Rows
end L2
namespace Mt
open PySem L2
end Mt
namespace Zt
open PySem PySem.Spec
theorem srcL (i t:Addr) (hne:t ≠ i) (its:Array Value):Src i [i,t] (fun k h=>h.IsListIter i t k∧h.IsList t its) (fun k=>its[k]?) where
  mem:=List.mem_cons_self
  stay:=by
    rintro k h h' ⟨⟨o,e,r⟩,⟨o2,e2,r2⟩⟩ hk
    exact ⟨⟨o,hk i (by simp) o e,r⟩,⟨o2,hk t (by simp) o2 e2,r2⟩⟩
  obj:=by
    rintro k h ⟨⟨o,e,c,d⟩,_⟩
    exact ⟨o,e,fun v z=>by rw [d] at z; cases z⟩
  item:=by
    rintro prog w A E s Q k x ⟨hit,ht⟩ hx hQ
    exact wpAny_nextOf_list_item hit ht hx fun h' z sb=>hQ h' ⟨z,ht.extBut sb.extBut hne⟩ sb
  fin:=by
    rintro prog w A E s Q k hh ⟨hit,ht⟩ hx hE
    exact wpAny_nextOf_list_end hh hit ht hx hE
theorem plainL_is {h:Heap}{a:Addr}{its:Array Value}(x:PySem.PlainL h a its):h.IsList a its:=by
  obtain ⟨o,n,e,c,_,d⟩:=x
  exact ⟨o,e,c,n,d⟩
noncomputable abbrev gl1 (h:Heap) (l1:Addr):Heap:=h.push { cls:=.type "list_iterator",data:=.fields #[.ref l1,.int 0 0] }
noncomputable abbrev gl2 (h:Heap) (l1 l2:Addr):Heap:=(gl1 h l1).push { cls:=.type "list_iterator",data:=.fields #[.ref l2,.int 0 0] }
noncomputable abbrev gl3 (h:Heap) (l1 l2:Addr):Heap:=(gl2 h l1 l2).push { cls:=.type "tuple",data:=.seq #[.ref h.objs.size,.ref (gl1 h l1).objs.size] }
noncomputable abbrev gl4 (h:Heap) (l1 l2:Addr):Heap:=(gl3 h l1 l2).push { cls:=.type "tuple",data:=.seq #[.none,.none] }
noncomputable abbrev gl5 (h:Heap) (l1 l2:Addr):Heap:=(gl4 h l1 l2).push { cls:=.type "zip",data:=.fields #[.none,.bool false,.bool false,.ref (gl2 h l1 l2).objs.size,.ref (gl3 h l1 l2).objs.size] }
theorem meets_newL (l1 l2:Addr) (xs ys:Array Value) :
    Meets (Builtin.«zip.__new__» ⟨[.type "zip",.ref l1,.ref l2],[]⟩) (fun _ R s=>s.heap.IsList l1 xs∧s.heap.IsList l2 ys ∧
      R (.ok (.ret (.ref (gl4 s.heap l1 l2).objs.size))) { s with heap:=gl5 s.heap l1 l2 }) :=
  .of_wp fun prog w A R s h=>by
    obtain ⟨hp,g,d,tk,os⟩:=s; obtain ⟨hl1,hl2,h⟩:=h
    have hsub:=sub_zip
    have hL1:Heap.IsList (Shared.heap ⟨hp,g,d,tk,os⟩) l1 xs:=hl1
    have hL2:Heap.IsList (Shared.heap ⟨hp.push { cls:=.type "list_iterator",data:=.fields #[.ref l1,.int 0 0] },g,d,tk,os⟩) l2 ys:=Heap.IsList.push hl2 _
    wp_walk using wpAny_pyIter_list hL1,wpAny_pyIter_list hL2
    exact ⟨_,rfl,h⟩
theorem call_zipL {prog:Program}{w:World}{A:Around}{E:Value→Shared→Prop}{s:Shared}{l1 l2:Addr}{xs ys:Array Value}{Q:Value→Shared→Prop}(hl1:s.heap.IsList l1 xs) (hl2:s.heap.IsList l2 ys)
    (h:∀ h',IsZip h' (s.heap.objs.size + 4) (s.heap.objs.size + 2) (s.heap.objs.size + 3) .none→IsPair h' (s.heap.objs.size + 2) (.ref s.heap.objs.size) (.ref (s.heap.objs.size + 1)) →
      IsPair h' (s.heap.objs.size + 3) .none .none→h'.IsListIter s.heap.objs.size l1 0→h'.IsListIter (s.heap.objs.size + 1) l2 0 →
      (∀ c o,s.heap.get? c=some o→h'.get? c=some o)→Q (.ref (s.heap.objs.size + 4)) { s with heap:=h' }) :
    wpAny (model prog w) A (call (.type "zip") [.ref l1,.ref l2]) Q E s:=by
  refine callType_new F.called_zip (by decide) (F.typeCall_zip_2 _ _) (F.newCall_zip_2 _ _) (fun obj=>F.args_object_init_3 obj _ _) F.entry_zip_new (meets_newL l1 l2 xs ys) ⟨hl1,hl2,?_⟩
  have z1:(gl1 s.heap l1).objs.size=s.heap.objs.size + 1:=Heap.size_push ..
  have z2:(gl2 s.heap l1 l2).objs.size=s.heap.objs.size + 2:=by rw [Heap.size_push,z1]
  have z3:(gl3 s.heap l1 l2).objs.size=s.heap.objs.size + 3:=by rw [Heap.size_push,z2]
  have z4:(gl4 s.heap l1 l2).objs.size=s.heap.objs.size + 4:=by rw [Heap.size_push,z3]
  have q5:(gl5 s.heap l1 l2).get? (gl4 s.heap l1 l2).objs.size=some _:=Heap.get?_push_size _ rfl
  have q4:(gl5 s.heap l1 l2).get? (gl3 s.heap l1 l2).objs.size=some _:=Heap.get?_push_of_some _ (Heap.get?_push_size _ rfl)
  have q3:(gl5 s.heap l1 l2).get? (gl2 s.heap l1 l2).objs.size=some _:=Heap.get?_push_of_some _ (Heap.get?_push_of_some _ (Heap.get?_push_size _ rfl))
  have q2:(gl5 s.heap l1 l2).get? (gl1 s.heap l1).objs.size=some _:=Heap.get?_push_of_some _ (Heap.get?_push_of_some _ (Heap.get?_push_of_some _ (Heap.get?_push_size _ rfl)))
  have q1:(gl5 s.heap l1 l2).get? s.heap.objs.size=some _:=Heap.get?_push_of_some _ (Heap.get?_push_of_some _ (Heap.get?_push_of_some _ (Heap.get?_push_of_some _ (Heap.get?_push_size _ rfl))))
  show _∧_
  rw [z2,z3,z4] at q5; rw [z1,z2] at q3; rw [z3] at q4; rw [z1] at q2; rw [z4]
  exact ⟨⟨_,q5,rfl⟩,h _ q5 q3 q4 ⟨_,q1,rfl,rfl⟩ ⟨_,q2,rfl,rfl⟩ fun c o x =>
    Heap.get?_push_of_some _ (Heap.get?_push_of_some _ (Heap.get?_push_of_some _ (Heap.get?_push_of_some _ (Heap.get?_push_of_some _ x))))⟩
end Zt
namespace L2
open PySem PySem.Spec PyProof.Rows
noncomputable def ItzL (K:PySem.W.Frag) (a b:Addr):It :=
  ⟨fun i H=>∃ xs ys x y,SqL K H a xs∧SqL K H b ys∧xs[i]? = some x∧ys[i]? = some y,
   fun i H v H'=>∃ p x y,H p=none∧(∀ xs,SqL K H a xs→xs[i]? = some x)∧(∀ ys,SqL K H b ys→ys[i]? = some y)∧v = .ref p∧H'=upd H p (.tup [x,y]),
   fun i H=>∃ xs ys,SqL K H a xs∧SqL K H b ys∧(xs.length ≤ i∨ys.length ≤ i)⟩
theorem turn_zipL {P:Program}{w:World}{K:PySem.W.Frag}{es:List Expr}{k:Nat}{ps:Pos}{z TI TO i1 i2 a b:Addr}
    (na:a ≠ i1) (nb:b ≠ i2) (D:Zt.Apart z TI TO i1 i2 [i1,a] [i2,b]) :
    Turn P w K (.Tuple es k ps) (ItzL K a b) [z,TI,TO,i1,i2] z (fun n h=>IsZip h z TI TO .none∧IsPair h TI (.ref i1) (.ref i2)∧(∃ u v,IsPair h TO u v)∧h.IsListIter i1 a n∧h.IsListIter i2 b n) where
  mem:=by simp
  obj:=by
    rintro n h ⟨hz,hTI,⟨u,v,hTO⟩,⟨o1,e1,c1,d1⟩,⟨o2,e2,c2,d2⟩⟩ c hc
    simp only [List.mem_cons,List.not_mem_nil,or_false] at hc
    rcases hc with rfl | rfl | rfl | rfl | rfl
    · exact ⟨_,hz,fun v q=>nomatch q⟩
    · exact ⟨_,hTI,fun v q=>nomatch q⟩
    · exact ⟨_,hTO,fun v q=>nomatch q⟩
    · exact ⟨o1,e1,fun v q=>by rw [d1] at q; cases q⟩
    · exact ⟨o2,e2,fun v q=>by rw [d2] at q; cases q⟩
  keep:=by
    rintro n h h' ⟨hz,hTI,⟨u,v,hTO⟩,⟨o1,e1,r1⟩,⟨o2,e2,r2⟩⟩ kp
    exact ⟨kp z (by simp) _ hz,kp TI (by simp) _ hTI,⟨u,v,kp TO (by simp) _ hTO⟩,⟨o1,kp i1 (by simp) _ e1,r1⟩,⟨o2,kp i2 (by simp) _ e2,r2⟩⟩
  item:=by
    intro X hP hw hK hc i pins s σ H E I hf st hg
    subst hP hw hK
    obtain ⟨hz,hTI,⟨u,v,hTO⟩,hi1,hi2⟩:=st
    obtain ⟨xs,ys,x,y,qx,qy,hx,hy⟩:=hg
    obtain ⟨us,rx,px,zx⟩:=I.list qx
    obtain ⟨ws,ry,py,zy⟩:=I.list qy
    obtain ⟨ux,hux,rux⟩:=rx.get hx
    obtain ⟨uy,huy,ruy⟩:=ry.get hy
    refine Zt.py_item (Zt.srcL i1 a na us.toArray) (Zt.srcL i2 b nb ws.toArray) D hz hTI hTO ⟨hi1,Zt.plainL_is px⟩ ⟨hi2,Zt.plainL_is py⟩ (x:=ux) (y:=uy) (by simpa using hux) (by simpa using huy) fun h' z1 t1 s1 s2 t2 kp=>⟨_,rfl,?_⟩
    refine wpAny_letOwnedTupleGo_zip (s:={ s with heap:=h' }) z1 fun h'' z2 sb=>?_
    have kp2:∀ c o,c ∉ [z,TI,TO,i1,i2]→s.heap.get? c=some o→h''.get? c=some o:=fun c o hc e=>by
      simp only [List.mem_cons,List.not_mem_nil,or_false,not_or] at hc
      exact sb.extBut _ _ hc.1 (kp c o hc.1 hc.2.2.1 hc.2.2.2.1 hc.2.2.2.2 e)
    have nz:s.heap.objs.size ≠ z:=Nat.ne_of_gt (Heap.lt_size hz)
    have J:Inv X pins σ H { s with heap:=h'' }:=I.spun (t':=s.toks) hf kp2
    have t3:IsPair h'' s.heap.objs.size ux uy:=sb.extBut _ _ nz t2
    refine ⟨.ref s.heap.objs.size,upd H s.heap.objs.size (.tup [x,y]),I.track J (Nat.le_refl _) ⟨by show 2 ≤ sizeLine; decide,[ux,uy],.cons rux (.cons ruy .nil),⟨_,t3,rfl,_,rfl⟩⟩,rfl,⟨_,x,y,I.hok.fresh (Nat.le_refl _),fun zs h=>?_,fun zs h=>?_,rfl,rfl⟩,?_,fun c hc=>?_⟩
    · rw [I.list_inj h qx]; exact hx
    · rw [I.list_inj h qy]; exact hy
    · exact ⟨z2,sb.extBut _ _ D.TIz (kp TI _ D.TIz D.TITO D.TIi1 D.TIi2 hTI),⟨ux,uy,sb.extBut _ _ D.TOz t1⟩,s1.1.extBut sb.extBut D.i1z,s2.1.extBut sb.extBut D.i2z⟩
    · have e:c ≠ s.heap.objs.size:=by
        simp only [List.mem_cons,List.not_mem_nil,or_false] at hc
        obtain ⟨o1,e1,_⟩:=hi1; obtain ⟨o2,e2,_⟩:=hi2
        rcases hc with rfl | rfl | rfl | rfl | rfl
        · exact Nat.ne_of_lt (Heap.lt_size hz)
        · exact Nat.ne_of_lt (Heap.lt_size hTI)
        · exact Nat.ne_of_lt (Heap.lt_size hTO)
        · exact Nat.ne_of_lt (Heap.lt_size e1)
        · exact Nat.ne_of_lt (Heap.lt_size e2)
      rw [upd_ne e]; exact (hf c hc).1
  done:=by
    intro X hP hw hK hc i pins s σ H E I hf st hg
    subst hP hw hK
    obtain ⟨hz,hTI,⟨u,v,hTO⟩,hi1,hi2⟩:=st
    obtain ⟨xs,ys,qx,qy,hend⟩:=hg
    obtain ⟨us,rx,px,zx⟩:=I.list qx
    obtain ⟨ws,ry,py,zy⟩:=I.list qy
    have lx:=rx.length
    have ly:=ry.length
    refine Zt.py_end (I.ok.hd hc) (Zt.srcL i1 a na us.toArray) (Zt.srcL i2 b nb ws.toArray) D hz hTI hTO ⟨hi1,Zt.plainL_is px⟩ ⟨hi2,Zt.plainL_is py⟩ (k1:=i) (k2:=i) (hend.imp (fun h=>by simp; omega) (fun h=>by simp; omega)) fun h' kp=>⟨rfl,?_⟩
    refine I.spun (t':=s.toks) hf fun c o hc e=>?_
    simp only [List.mem_cons,List.not_mem_nil,or_false,not_or] at hc
    exact kp c o hc.1 hc.2.2.1 hc.2.2.2.1 hc.2.2.2.2 e
  self:=by
    rintro A n s Q E ⟨hz,_⟩ h
    exact wpAny_pyIter_zip hz h
noncomputable def iZipL (K:PySem.W.Frag) (ta:TA):TI:=fun σ H R=>ta σ H fun vs H1=>∃ a b,vs = [.ref a,.ref b]∧(∃ xs,SqL K H1 a xs)∧(∃ ys,SqL K H1 b ys)∧R (ItzL K a b) H1
theorem pi_zipL {X:Cx}{es:List Expr}{k:Nat}{ps p pos:Pos}{e1 e2:Expr}{ta:TA}(hg:Gl X "zip") (hm:X.mg "zip" = none) (ha:PA X [e1,e2] ta)
    (hs:starEach [e1,e2] X.env = [(false,eval e1 X.env),(false,eval e2 X.env)]:=by rfl) (hs2:starEach [e2] X.env = [(false,eval e2 X.env)]:=by rfl) (hv:bootBuiltins "zip" = some (.type "zip"):=by decide +kernel) :
    PI X (.Tuple es k ps) (.Call (.Name "zip" p) [e1,e2] [] pos) (iZipL X.K ta):=by
  intro pins s σ H R I h
  refine Call_ (ld_blt I hg hm hv (PyProof.Rows.callWith_type1 (thn (ha pos pins s σ H _ I h) fun us s1 ⟨vs,H1,I1,r1,q1⟩=>?_) (by rw [hs,hs2]) (by rw [hs2]; rfl)))
  obtain ⟨a,b,e,⟨xs,qx⟩,⟨ys,qy⟩,q⟩:=q1
  subst e
  obtain ⟨u,v,rfl,ra,rb⟩:=vals2 r1
  cases ra
  cases rb
  obtain ⟨us,rx,px,zx⟩:=I1.list qx
  obtain ⟨ws,ry,py,zy⟩:=I1.list qy
  refine Zt.call_zipL (xs:=us.toArray) (ys:=ws.toArray) (Zt.plainL_is px) (Zt.plainL_is py) fun h' hz hTI hTO h1 h2 kp=>?_
  refine wpAny_pyIter_zip (s:={ s1 with heap:=h' }) hz ?_
  have la:a < s1.heap.objs.size:=by obtain ⟨o,_,e,_⟩:=px; exact Heap.lt_size e
  have lb:b < s1.heap.objs.size:=by obtain ⟨o,_,e,_⟩:=py; exact Heap.lt_size e
  have J:Inv X pins σ H1 { s1 with heap:=h' }:=I1.kept (t':=s1.toks) kp
  refine ⟨_,[s1.heap.objs.size + 4,s1.heap.objs.size + 2,s1.heap.objs.size + 3,s1.heap.objs.size,s1.heap.objs.size + 1],_,ItzL X.K a b,H1,rfl,J,turn_zipL (a:=a) (b:=b) (Nat.ne_of_lt la) (Nat.ne_of_lt (Nat.lt_succ_of_lt lb)) ?_,⟨hz,hTI,⟨_,_,hTO⟩,h1,h2⟩,fun c hc=>?_,q⟩
  · generalize s1.heap.objs.size=n at la lb
    constructor <;> (try simp only [List.mem_cons,List.not_mem_nil,or_false,not_or,ne_eq]) <;> (unfold Addr at *; omega)
  · have le:s1.heap.objs.size ≤ c:=by
      simp only [List.mem_cons,List.not_mem_nil,or_false] at hc
      rcases hc with rfl | rfl | rfl | rfl | rfl
      · exact Nat.le_add_right _ _
      · exact Nat.le_add_right _ _
      · exact Nat.le_add_right _ _
      · exact Nat.le_refl _
      · exact Nat.le_add_right _ _
    exact I1.fpOk le (I1.hok.fresh le)
end L2
namespace L2
open PySem PySem.Spec PyProof.Rows PySem.W
section
variable {X:Cx}{e:Expr}{es:List Expr}{te:TE}{t:TA}{pos p:Pos}{k i:Nat}{f:Addr}{fd:FuncData}{ps:List Str}{sp:Sp}{dvs:List V}{ds:List Value}{XR:St→XK}{x:Str}
variable {tg a b:Expr}{ta:TA}
theorem qi_zipL {es:List Expr}{k:Nat}{ps:Pos}(hg:Gl X "zip") (hm:X.mg "zip" = none) (ha:PAs X [a,b] ta) (h1:notStar a=true) (h2:notStar b=true):PI X (.Tuple es k ps) (.Call (.Name "zip" p) [a,b] [] pos) (iZipL X.K ta) :=
  pi_zipL hg hm ha.run (by rw [star_ne h1,star_ne h2]; rfl) (by rw [star_ne h2]; rfl) (by decide +kernel)
end
section
variable {σ:St}{H:Hp}{Q:VK}
theorem rd_izipL {K:Frag}{ta:TA}{R:It→Hp→Prop}(h:ta σ H fun vs H1=>∃ a b,vs = [.ref a,.ref b]∧(∃ xs,SqL K H1 a xs)∧(∃ ys,SqL K H1 b ys)∧R (ItzL K a b) H1):iZipL K ta σ H R:=h
end
theorem comp_byF {J:It}{H1:Hp}{acc:Addr}{σ0:St}{g:TG}{tt:TT}{te:TE}{Q:VK}(n:Nat) (hn:n < sizeLine) (Pv:Nat→List V→St→Hp→Prop) (h0:Pv 0 [] σ0 (upd H1 acc (.lst [])))
    (hgo:∀ i vs σc H,i < n→vs.length ≤ i→H acc=some (.lst vs)→Pv i vs σc H→J.go i H∧∀ x H',J.yld i H x H'→∀ (R:St→V→Hp→Prop) (S:St→Hp→Prop),
      (∀ σ2 v H4,H4 acc=some (.lst vs)→Pv (i + 1) (vs ++ [v]) σ2 (upd H4 acc (.lst (vs ++ [v])))→R σ2 v H4)→(∀ σ2 H4,H4 acc=some (.lst vs)→Pv (i + 1) vs σ2 H4→S σ2 H4) →
      g x σc H' fun σ2 H2=>tt σ2 H2 fun b H3=>if b=true then te σ2 H3 (R σ2) else S σ2 H3)
    (hst:∀ vs σc H,vs.length ≤ n→H acc=some (.lst vs)→Pv n vs σc H→J.stop n H∧Q (.ref acc) H):CompW σ0 J H1 acc g tt te Q:=by
  refine ⟨fun i m σc H=>m=n - i∧i ≤ n∧∃ vs,vs.length ≤ i∧H acc=some (.lst vs)∧Pv i vs σc H,⟨n,by simp,Nat.zero_le _,[],Nat.le_refl _,upd_same,h0⟩,?_⟩
  rintro i m σc H ⟨rfl,hi,vs,hl,ha,hp⟩
  by_cases hlt:i < n
  · obtain ⟨g1,g2⟩:=hgo i vs σc H hlt hl ha hp
    refine .inr ⟨g1,fun σ' H'=>i + 1 ≤ n∧∃ vs,vs.length ≤ i + 1∧H' acc=some (.lst vs)∧Pv (i + 1) vs σ' H',fun σ' H' q=>⟨n - (i + 1),by omega,rfl,q⟩,fun x H' y=>?_⟩
    exact g2 x H' y (fun σ2 v H4=>∃ xs,H4 acc=some (.lst xs)∧xs.length < sizeLine∧(i + 1 ≤ n∧∃ vs,vs.length ≤ i + 1∧(upd H4 acc (.lst (xs ++ [v]))) acc=some (.lst vs)∧Pv (i + 1) vs σ2 (upd H4 acc (.lst (xs ++ [v])))))
      (fun σ2 H4=>i + 1 ≤ n∧∃ vs,vs.length ≤ i + 1∧H4 acc=some (.lst vs)∧Pv (i + 1) vs σ2 H4)
      (fun σ2 v H4 q1 q2=>⟨vs,q1,by omega,hlt,vs ++ [v],by simp; omega,upd_same,q2⟩) fun σ2 H4 q1 q2=>⟨hlt,vs,by omega,q1,q2⟩
  · have e:i=n:=by omega
    subst e
    exact .inl (hst vs σc H hl ha hp)
end L2
namespace L2
open PySem PySem.Spec PyProof.Rows
noncomputable def gLst (K:PySem.W.Frag) (n:Nat) (t:TGs):TG:=fun v σ H Q=>∃ a xs,v = .ref a∧SqL K H a xs∧xs.length=n∧t xs σ H Q
theorem pg_lst {X:Cx}{es:List Expr}{k:Nat}{pos:Pos}{t:TGs}{n:Nat}(hc:X.calm=true) (h:PGs X es t)
    (hn:(assignEach es X.env).length=n) (hst:(assignEach es X.env).findIdx? (·.1)=none):PG X (.Tuple es k pos) (gLst X.K n t):=by
  intro pins s σ H v u Q I r hw
  obtain ⟨a,xs,rfl,hq,hl,hw⟩:=hw
  cases r
  obtain ⟨its,rv,pl,hz⟩:=I.list hq
  rw [assign_Tuple]
  refine wpAny_bind (wpAny_standAt ?_)
  unfold unpack
  rw [hst]
  have e:(assignEach es X.env).length=its.toArray.size:=by simp [hn,← hl,rv.length]
  rw [e]
  refine wpAny_bind (wpAny_holding (PySem.W.kun_itemsOf (I.ok.hd hc) pl.isList fun h' hx=>?_))
  have I1:Inv X pins σ H { s with heap:=h' }:=I.kept (t':=s.toks) fun b o e=>hx b o (Nat.ne_of_lt (Heap.lt_size e)) e
  exact h pins _ σ H xs _ Q I1 (by simpa using rv) hw
theorem rd_glst {K:PySem.W.Frag}{n:Nat}{t:TGs}{σ:St}{H:Hp}{a:Addr}{xs:List V}{Q:St→Hp→Prop}(hq:SqL K H a xs) (hl:xs.length=n) (h:t xs σ H Q):gLst K n t (.ref a) σ H Q:=⟨a,xs,rfl,hq,hl,h⟩
section
variable {X:Cx}{a e o:Expr}{es:List Expr}{ta t tk:TA}{p pos apos cpos:Pos}
noncomputable def rInt1:TR:=fun xs H Q=>(∃ i,xs = [.int i]∧Q (.int i) H)∨∃ k,xs = [.bl k]∧Q (.int (if k then 1 else 0)) H
theorem cn_int:CallR X (.type "int") rInt1:=call_int1
structure PKs (X:Cx) (kws:List Keyword) (t:TA):Prop where
  run:PK X kws t
theorem qk_nil:PKs X [] tNil:=⟨pk_nil⟩
theorem qk {kws:List Keyword}{te:TE}{nm:Option Str}{kpos:Pos}(ha:PE X e te) (hr:PKs X kws t):PKs X (⟨nm,e,kpos⟩ :: kws) (tCons te t):=⟨pk_cons ha hr.run⟩
noncomputable def kg2 {α:Type}:List α→List α→List α
  | [a],[b]=>[a,b]
  | _,_=>[]
theorem qe_callK {CX:CXT}{k:Nat}{f:Addr}{fd:FuncData}{ps ks:List Str}{sp:Sp}{E:XK}{x:Str}{kws:List Keyword}(F:FnOk X.prog X.w X.K X.mg X.base CX k f fd ps sp) (hr:Room k X.A) (hg:Gl X x) (hm:X.mg x=some (.ref f)) (hk:PySem.W.keepIn X.K (.ref f)=true) (hb:KBinds X.K fd ps ks kg2 kg2) (hx:Passes CX X E)
    (ha:PAs X (e :: es) t) (hkw:PKs X kws tk) (hall:(backToKw pos (keywordEach kws X.env)).all (·.1.isSome)=true) (hks:(backToKw pos (keywordEach kws X.env)).filterMap (·.1)=ks)
    (hdb:(x == ("__debug__":Str))=false) (h1:notStar e=true)
    (hpl:((backTo pos (starEach (e :: es) X.env)).any (·.1) || (backToKw pos (keywordEach kws X.env)).any (·.1.isNone))=false) :
    PE X (.Call (.Name x p) (e :: es) kws pos) (tCallK sp kg2 E t tk):=pe_callK F hr hg hm hk hb hx ha.run hkw.run hall hks hdb (star_ne h1) hpl
theorem rd_callK {σ:St}{H:Hp}{Q:VK}{sp:Sp}{gV:List V→List V→List V}{E:XK}(h:t σ H fun vs H1=>tk σ H1 fun zs H2=>sp (gV vs zs) H2 Q E):tCallK sp gV E t tk σ H Q:=h
theorem kg2_rel {vs:List V}{us:List Value}{zs:List V}{ws:List Value}(h1:Vals vs us) (h2:Vals zs ws):Vals (kg2 vs zs) (kg2 us ws):=by
  cases h1 with
  | nil=>exact .nil
  | cons a r=>cases r with
    | nil=>cases h2 with
      | nil=>exact .nil
      | cons b r2=>cases r2 with
        | nil=>exact .cons a (.cons b .nil)
        | cons _ _=>exact .nil
    | cons _ _=>exact .nil
end
section
variable {σ:St}{H:Hp}{Q:VK}{K:PySem.W.Frag}
theorem rd_intB {k:Bool}(h:Q (.int (if k then 1 else 0)) H):rInt1 [.bl k] H Q:=.inr ⟨k,rfl,h⟩
end
theorem Fun.kbinds {K:PySem.W.Frag}{x qual:Str}{st:Stmt}{f:Addr}{fd:FuncData}{ps ks:List Str}(F:Fun K x qual st f fd) (hp:ps.length=2)
    (h:∀ (kV doc pm:Value) (an:Option Addr) (cdv ct u w:Value),bindArgs (PySem.W.fnOf x qual (defArgs st) (defBody st) (defScope st) .none kV doc pm an cdv ct) ⟨[u],ks.zip [w]⟩ = pure (ps.zip [u,w])):KBinds K fd ps ks kg2 kg2:=by
  obtain ⟨oc,od,kV,doc,pm,an,cdv,ct,osl,rfl,lk,hcd⟩:=F.ex
  refine ⟨fun s us ws _ hl=>?_,kg2_rel⟩
  rw [hp] at hl
  match us,ws,hl with
  | [u],[w],_=>exact .of_eq (h kV doc pm an cdv ct u w)
  | [],_,hl=>simp [kg2] at hl
  | [_],[],hl=>simp [kg2] at hl
  | [_],_ :: _ :: _,hl=>simp [kg2] at hl
  | _ :: _ :: _,_,hl=>simp [kg2] at hl
section
variable {X:Cx}{K:PySem.W.Frag}
end
section
variable {H:Hp}{Q:VK}{K:PySem.W.Frag}{p:Addr}{xs:List V}{x:V}
end
structure Dk (H:Hp) (p c r:Addr) (m:Nat):Prop where
  ex:∃ (cs rs:List Int) (n:Int),H p=some (.lst [.ref c,.int n,.ref r])∧H c=some (.lst (cs.map V.int))∧H r=some (.lst (rs.map V.int))∧c ≠ p∧c ≠ r∧r ≠ p∧1 ≤ cs.length∧cs.length ≤ 63∧rs.length=cs.length∧0 ≤ n∧n ≤ m
theorem Dk.mono {H:Hp}{p c r:Addr}{m m':Nat}(h:Dk H p c r m) (e:m ≤ m'):Dk H p c r m':=by
  obtain ⟨cs,rs,n,a1,a2,a3,a4,a5,a6,a7,a8,a9,a10,a11⟩:=h.ex
  exact ⟨cs,rs,n,a1,a2,a3,a4,a5,a6,a7,a8,a9,a10,by omega⟩
theorem Dk.same {H H':Hp}{p c r:Addr}{m:Nat}(h:Dk H p c r m) (e:Same H H'):Dk H' p c r m:=by
  obtain ⟨cs,rs,n,a1,a2,a3,a4,a5,a6,a7,a8,a9,a10,a11⟩:=h.ex
  exact ⟨cs,rs,n,e _ _ a1,e _ _ a2,e _ _ a3,a4,a5,a6,a7,a8,a9,a10,a11⟩
theorem Dk.new {H:Hp}{p c r:Addr}{m:Nat}(h:Dk H p c r m) {q:Addr}(n:H q=none):q ∉ [p,c,r]:=by
  obtain ⟨cs,rs,_,a1,a2,a3,_⟩:=h.ex
  intro z
  simp only [List.mem_cons,List.not_mem_nil,or_false] at z
  rcases z with rfl | rfl | rfl
  · rw [a1] at n; cases n
  · rw [a2] at n; cases n
  · rw [a3] at n; cases n
theorem Dk.upd {H:Hp}{p c r q:Addr}{m:Nat}{o:HO}(h:Dk H p c r m) (n:q ∉ [p,c,r]):Dk (upd H q o) p c r m:=by
  obtain ⟨cs,rs,k,a1,a2,a3,a4,a5,a6,a7,a8,a9,a10,a11⟩:=h.ex
  simp only [List.mem_cons,List.not_mem_nil,or_false,not_or] at n
  exact ⟨cs,rs,k,by rw [upd_ne (Ne.symm n.1)]; exact a1,by rw [upd_ne (Ne.symm n.2.1)]; exact a2,by rw [upd_ne (Ne.symm n.2.2)]; exact a3,a4,a5,a6,a7,a8,a9,a10,a11⟩
theorem Dk.tr {H:Hp}{p c r:Addr}{m:Nat}(h:Dk H p c r m) {b:Addr}(hb:b ∈ [p,c,r]):H b ≠ none:=by
  obtain ⟨cs,rs,_,a1,a2,a3,_⟩:=h.ex
  simp only [List.mem_cons,List.not_mem_nil,or_false] at hb
  rcases hb with rfl | rfl | rfl
  · rw [a1]; intro z; cases z
  · rw [a2]; intro z; cases z
  · rw [a3]; intro z; cases z
theorem nin_pr {p c r q:Addr}(h:q ∉ [p,c,r]):q ∉ [p,r]:=by
  simp only [List.mem_cons,List.not_mem_nil,or_false,not_or] at h ⊢
  exact ⟨h.1,h.2.2⟩
end L2
open PySem L2
namespace Mt
noncomputable def cruleD:List PyData→Bool
  | [a,b]=>withinD 1 7 b && (strEq "held" a || strEq "applied" a)
  | _=>false
noncomputable def ruleD:PyData→Bool
  | .tuple [a]=>strEq "written" a
  | .tuple ds=>cruleD ds
  | _=>false
noncomputable def needD:PyData→Int
  | .tuple [_,.int k]=>k + 1
  | _=>1
structure AsOk (h:Int) (as:List Int):Prop where
  nd:as.Nodup
  rg:∀ a ∈ as,0 ≤ a∧a < h
end Mt
namespace L2
theorem ixN_nat {n j:Nat}(h:j < n):ixN n (j:Int)=some j:=by
  unfold ixN
  rw [if_pos (by omega),if_pos (by omega)]; simp
theorem cutV_take (xs:List V) (n:Nat):cutV xs none (some (n:Int))=xs.take n:=by
  unfold cutV
  have e:HT.sIx xs.length xs.length (some (n:Int))=min n xs.length:=HT.sIx_nat _ _ n
  rw [e,HT.sIx_none,List.drop_zero,Nat.sub_zero]
  rcases Nat.le_total n xs.length with h | h
  · rw [Nat.min_eq_left h]
  · rw [Nat.min_eq_right h,List.take_length,List.take_of_length_le h]
end L2
namespace Mt
noncomputable def LsAll (N:List Addr) (H:Hp):List V→List (List Int)→Prop
  | [],[]=>True
  | v :: vs,xs :: xss=>(∃ l,v = .ref l∧l ∉ N∧H l=some (.lst (xs.map V.int)))∧LsAll N H vs xss
  | _,_=>False
theorem LsAll.app {N:List Addr}{H:Hp}{ws:List V}{yss:List (List Int)}(h2:LsAll N H ws yss):∀ {vs:List V}{xss:List (List Int)},LsAll N H vs xss→LsAll N H (vs ++ ws) (xss ++ yss)
  | [],[],_=>h2
  | v :: vs,xs :: xss,⟨h,r⟩=>⟨h,LsAll.app h2 r⟩
  | [],_ :: _,h=>h.elim
  | _ :: _,[],h=>h.elim
theorem dtInts {K:PySem.W.Frag}{N:List Addr}{H:Hp}:∀ xs:List Int,DtAll K N H (xs.map V.int) (xs.map PyData.int)
  | []=>.nil
  | x :: xs=>.cons (.int x) (dtInts xs)
end Mt
namespace L2
mutual
theorem Dt.sub {K:PySem.W.Frag}{N N':List Addr}{H:Hp}(s:∀ b ∈ N',b ∈ N):∀ {v:V}{d:PyData},Dt K N H v d→Dt K N' H v d
  | _,_,.non=>.non
  | _,_,.bl b=>.bl b
  | _,_,.int i=>.int i
  | _,_,.str x=>.str x
  | _,_,.tup h n r=>.tup h (fun z=>n (s _ z)) (DtAll.sub s r)
  | _,_,.lst h n r=>.lst h (fun z=>n (s _ z)) (DtAll.sub s r)
  | _,_,.dk0 h n=>.dk0 h (fun z=>n (s _ z))
  | _,_,.dk1 h n r=>.dk1 h (fun z=>n (s _ z)) (Dt.sub s r)
theorem DtAll.sub {K:PySem.W.Frag}{N N':List Addr}{H:Hp}(s:∀ b ∈ N',b ∈ N):∀ {vs:List V}{ds:List PyData},DtAll K N H vs ds→DtAll K N' H vs ds
  | _,_,.nil=>.nil
  | _,_,.cons h r=>.cons (Dt.sub s h) (DtAll.sub s r)
end
theorem Dt.nil {K:PySem.W.Frag}{N:List Addr}{H:Hp}{v:V}{d:PyData}(h:Dt K N H v d):Dt K [] H v d:=h.sub (fun _ z=>by cases z)
end L2
namespace L2
open PySem
theorem depthL:∀ xs:List Int,PyData.depthAll (xs.map PyData.int)=0
  | []=>rfl
  | x :: xs=>by simp only [List.map_cons,PyData.depthAll,PyData.depth,depthL xs]; rfl
noncomputable def RuT (H:Hp) (t:Addr):Prop:=H t=some (.tup [.str "written"])∨∃ w k,H t=some (.tup [.str w,.int k])∧(w = "held"∨w = "applied")∧1 ≤ k∧k ≤ 7
noncomputable def RuAll (N:List Addr) (H:Hp) (vs:List V):Prop:=∀ v ∈ vs,∃ t,v = .ref t∧t ∉ N∧RuT H t
theorem RuT.ext {N:List Addr}{H H':Hp}{t:Addr}(e:Ext N H H') (n:t ∉ N) (h:RuT H t):RuT H' t:=by
  rcases h with h | ⟨w,k,h,r⟩
  · exact .inl (e _ _ h n)
  · exact .inr ⟨w,k,e _ _ h n,r⟩
theorem RuAll.app {N:List Addr}{H:Hp}{vs ws:List V}(h1:RuAll N H vs) (h2:RuAll N H ws):RuAll N H (vs ++ ws):=fun v hv=>by
  rcases List.mem_append.mp hv with h | h
  · exact h1 v h
  · exact h2 v h
theorem RuT.dt {K:PySem.W.Frag}{H:Hp}{t:Addr}(h:RuT H t):∃ d,Dt K [] H (.ref t) d∧Mt.ruleD d=true∧1 ≤ Mt.needD d∧Mt.needD d ≤ 8∧∃ xs,SqT K H t xs∧(xs ++ [.int 0])[1]? = some (.int (Mt.needD d - 1))∧xs.length ≤ 2:=by
  rcases h with h | ⟨w,k,h,hw,k1,k2⟩
  · exact ⟨.tuple [.str "written"],.tup (SqT.of h) (by simp) (.cons (.str _) .nil),rfl,by decide,by decide,_,SqT.of h,rfl,by simp⟩
  · refine ⟨.tuple [.str w,.int k],.tup (SqT.of h) (by simp) (.cons (.str _) (.cons (.int _) .nil)),?_,by show 1 ≤ k + 1; omega,by show k + 1 ≤ 8; omega,_,SqT.of h,by simp [Mt.needD],by simp⟩
    simp only [Mt.ruleD,Mt.cruleD,Mt.withinD,Mt.strEq]
    rcases hw with rfl | rfl <;> simp [k1,k2]
end L2
namespace L2
open PySem PySem.Spec PyProof.Rows PySem.W
section
variable {X:Cx}
end
section
variable {X:Cx}{e:Expr}{es:List Expr}{t tk:TA}{pos p:Pos}{k:Nat}{f:Addr}{fd:FuncData}{ps ks:List Str}{sp:Sp}{XR:St→XK}{x:Str}{kws:List Keyword}
end
end L2
namespace L2
open PySem
end L2
namespace Mt
open PySem
mutual
noncomputable def tupB:PyData→Bool
  | .none=>true
  | .bool _=>true
  | .int _=>true
  | .str _=>true
  | .tuple es=>tupBAll es
  | _=>false
noncomputable def tupBAll:List PyData→Bool
  | []=>true
  | e :: es=>tupB e && tupBAll es
end
theorem tupB_at:∀ {es:List PyData}{e:PyData},tupBAll es=true→e ∈ es→tupB e=true
  | x :: es,e,h,m=>by
    simp only [tupBAll,Bool.and_eq_true] at h
    rcases List.mem_cons.mp m with rfl | m
    · exact h.1
    · exact tupB_at h.2 m
theorem tupB_ints:∀ xs:List Int,tupBAll (xs.map PyData.int)=true
  | []=>rfl
  | x :: xs=>by simp only [List.map_cons,tupBAll,tupB,tupB_ints xs,Bool.true_and]
end Mt
namespace Mt
end Mt
namespace L2
open PySem PySem.Spec PyProof.Rows
section
variable {X:Cx}{es:List Expr}{t:TA}{pos p:Pos}{K:PySem.W.Frag}{k v a b tg:Expr}{tk tv:TE}{ta:TA}{x:Str}
end
section
variable {σ:St}{H:Hp}{Q:VK}{K:PySem.W.Frag}
end
end L2
namespace L2
open PySem
end L2
namespace Mt
open PySem
end Mt
namespace Mt
open PySem L2
end Mt
namespace L2
open PySem Mt
theorem RuT.data {K:PySem.W.Frag}{M:List Addr}{H:Hp}{t:Addr}(h:RuT H t):∃ (w:Str) (xs:List V) (ds:List PyData),H t=some (.tup (.str w :: xs))∧DtAll K M H (.str w :: xs) (.str w :: ds)∧xs.length ≤ 1∧(∀ d ∈ PyData.str w :: ds,Itm 140 0 d)∧(w = "written"∨w = "held"∨w = "applied"):=by
  have ws:∀ w:Str,(w = "written"∨w = "held"∨w = "applied")→Itm 140 0 (.str w):=by
    rintro w (rfl | rfl | rfl) <;> exact itm_str (by unfold cpsOk; decide +kernel) (by decide +kernel)
  rcases h with h | ⟨w,k,h,hw,k1,k2⟩
  · refine ⟨"written",[],[],h,.cons (.str _) .nil,by simp,fun d hd=>?_,.inl rfl⟩
    simp only [List.mem_cons,List.not_mem_nil,or_false] at hd
    subst hd; exact ws _ (.inl rfl)
  · refine ⟨w,[.int k],[.int k],h,.cons (.str _) (.cons (.int _) .nil),by simp,fun d hd=>?_,.inr hw⟩
    simp only [List.mem_cons,List.not_mem_nil,or_false] at hd
    rcases hd with rfl | rfl
    · exact ws _ (.inr hw)
    · exact itm_int (by omega)
end L2
namespace L2
open PySem PySem.Spec PyProof.Rows PySem.W
theorem ints_are:∀ {ns:List Int}{us:List Value},Vals (ns.map V.int) us→IntsAre us ns
  | [],_,.nil=>.nil
  | n :: ns,u :: us,.cons r t=>by
    obtain ⟨tk,rfl⟩:=r
    exact .cons n tk (ints_are t)
theorem ints_vals:∀ {ns:List Int}{us:List Value},IntsAre us ns→Vals (ns.map V.int) us
  | _,_,.nil=>.nil
  | _,_,.cons _ _ h=>.cons ⟨_,rfl⟩ (ints_vals h)
theorem ints_items:∀ {ns:List Int}{us:List Value},Vals (ns.map V.int) us→∃ xs:List (Int×Tok),us=xs.map (fun p=>Value.int p.1 p.2)∧xs.map (·.1)=ns
  | [],_,.nil=>⟨[],rfl,rfl⟩
  | n :: ns,u :: us,.cons r t=>by
    obtain ⟨tk,rfl⟩:=r
    obtain ⟨xs,e1,e2⟩:=ints_items t
    exact ⟨(n,tk) :: xs,by rw [e1]; rfl,by rw [← e2]; rfl⟩
noncomputable def rSort (K:Frag):TR:=fun xs H Q=>∃ (p:Addr) (ns:List Int),xs = [.ref p]∧SqL K H p (ns.map V.int)∧ns.length < 64∧∀ (l:Addr) (ns':List Int),H l=none→ns'.Perm ns→ns'.Pairwise (· ≤ ·)→Q (.ref l) (upd H l (.lst (ns'.map V.int)))
noncomputable def rMinL (K:Frag):TR:=fun xs H Q=>∃ (p:Addr) (ns:List Int),xs = [.ref p]∧SqL K H p (ns.map V.int)∧0 < ns.length∧∀ m,m ∈ ns→(∀ a ∈ ns,m ≤ a)→Q (.int m) H
noncomputable def tStarL (K:Frag) (te:TE) (t:TA):TA:=fun σ H Q=>te σ H fun v H1=>∃ a xs,v = .ref a∧SqL K H1 a xs∧t σ H1 fun vs H2=>Q (xs ++ vs) H2
section
variable {X:Cx}{e:Expr}{es:List Expr}{te:TE}{t:TA}{p:Pos}
theorem cn_sort:CallR X (.builtin "sorted") (rSort X.K):=by
  intro pins s σ H xs us Q I r h
  obtain ⟨p,ns,rfl,hq,hl,q⟩:=h
  obtain ⟨u,rfl,ru⟩:=vals1 r
  cases ru
  obtain ⟨its,rv,pl,hz⟩:=I.list hq
  have hlen:=rv.length
  rw [List.length_map] at hlen
  refine sorted_ints pl.isList (ints_are rv) (by omega) fun out ns' hI hp hs=>?_
  obtain ⟨n,ho⟩:=sortedAll_at s.heap its out
  have hv:=ints_vals hI
  have hf:H (s.heap.objs.size + 1)=none:=I.hok.fresh (Nat.le_succ _)
  have hpl:=hp.length_eq
  refine ⟨.ref (s.heap.objs.size + 1),_,I.laid (t':=s.toks) (o:=.lst (ns'.map V.int)) (fun b o e=>sortedAll_old e) (Nat.le_succ _) ⟨by rw [List.length_map,sizeLine_eq]; omega,out.toList,n,hv,by rw [Array.toArray_toList]; exact ho⟩,rfl,q _ ns' hf hp hs⟩
theorem cn_minL (hc:X.calm=true):CallR X (.builtin "min") (rMinL X.K):=by
  intro pins s σ H xs us Q I r h
  obtain ⟨p,ns,rfl,hq,hl,q⟩:=h
  obtain ⟨u,rfl,ru⟩:=vals1 r
  cases ru
  obtain ⟨its,rv,pl,hz⟩:=I.list hq
  obtain ⟨ys,rfl,rfl⟩:=ints_items rv
  have hq2:intItems ys.toArray=(ys.map fun p=>Value.int p.1 p.2).toArray:=by simp [intItems]
  rw [List.length_map] at hl
  refine min_intList (I.ok.hd hc) (xs:=ys.toArray) (by rw [hq2]; exact pl.isList) (by simpa using hl) fun v h' tk hv hk=>?_
  obtain ⟨t',rfl⟩:=intItems_at hv
  obtain ⟨b1,b2⟩:=argBest_lt (numAt ys.toArray) (ys.toArray.size - 1)
  have hsz:ys.toArray.size=ys.length:=by simp
  have hn:∀ j,numAt ys.toArray j=(ys.map (·.1)).getD j 0:=fun j=>by rw [numAt_eq]
  refine ⟨V.int _,H,I.kept hk,⟨t',rfl⟩,q _ ?_ fun a ha=>?_⟩
  · rw [hn]
    rw [List.getD_eq_getElem?_getD,List.getElem?_eq_getElem (by rw [List.length_map]; omega)]
    exact List.getElem_mem _
  · obtain ⟨j,hj,rfl⟩:=List.getElem_of_mem ha
    rw [List.length_map] at hj
    have:=b2 j (by omega)
    rw [hn j,List.getD_eq_getElem?_getD,List.getElem?_eq_getElem (by rw [List.length_map]; omega)] at this
    exact this
theorem qa_starL (ha:PE X e te) (hr:PAs X es t):PAs X (.Starred e p :: es) (tStarL X.K te t):=by
  refine ⟨fun pos pins s σ H Q I h=>?_⟩
  refine items_star (thn (ha pins s σ H _ I h) fun u s1 ⟨v,H1,I1,r,a,xs,ev,hq,q⟩=>?_)
  subst ev
  obtain rfl:u=Value.ref a:=r
  obtain ⟨us,rx,pl,zx⟩:=I1.list hq
  obtain ⟨o,e1,e2,n,e3⟩:=pl.isList
  have ty:s1.TypeIs (.ref a) "list":=⟨o,e1,e2⟩
  unfold StarOf notIterableAtAll
  refine wpAny_bind (wpAny_specialOf ty slot_list_iter.lookup (wpAny_pure ⟨rfl,?_⟩))
  refine wpAny_collect_seq a (.inl rfl) e1 e2 e3 (fun h' hk=>?_) (by have:=rx.length; simpa using (by omega))
  have I2:Inv X pins σ H1 { s1 with heap:=h' }:=I1.kept (t':=s1.toks) hk
  refine thn (hr.run pos pins _ σ H1 _ I2 q) fun ws s3 ⟨vs,H3,I3,r3,q3⟩=>?_
  exact ⟨xs ++ vs,H3,I3,by simpa using rx.append r3,q3⟩
end
noncomputable def RvAt (h:Heap) (a t:Addr) (i:Int):Prop:=∃ o,h.get? a=some o∧o.cls = .type "reversed"∧o.data = .fields #[.ref t,rawInt i]
section
variable {prog:Program}{w:World}{A:Around}{E:Value→Shared→Prop}{s:Shared}
theorem RvAt.typeIs {a t:Addr}{i:Int}(x:RvAt s.heap a t i):s.TypeIs (.ref a) "reversed":=let ⟨o,ho,hc,_⟩:=x; ⟨o,ho,hc⟩
end
section
variable {prog:Program}{w:World}{A:Around}{E:Value→Shared→Prop}{s:Shared}
end
section
variable {prog:Program}{w:World}{A:Around}{E:Value→Shared→Prop}{s:Shared}
end
section
variable {X:Cx}{a:Expr}{ta:TA}{p p2 pos pos2:Pos}
end
section
variable {K:Frag}{σ:St}{H:Hp}{Q:VK}{p:Addr}
theorem rd_sort {ns:List Int}(hq:SqL K H p (ns.map V.int)) (hl:ns.length < 64) (h:∀ (l:Addr) (ns':List Int),H l=none→ns'.Perm ns→ns'.Pairwise (· ≤ ·)→Q (.ref l) (upd H l (.lst (ns'.map V.int)))):rSort K [.ref p] H Q:=⟨p,ns,rfl,hq,hl,h⟩
theorem rd_minL {ns:List Int}(hq:SqL K H p (ns.map V.int)) (hl:0 < ns.length) (h:∀ m,m ∈ ns→(∀ a ∈ ns,m ≤ a)→Q (.int m) H):rMinL K [.ref p] H Q:=⟨p,ns,rfl,hq,hl,h⟩
end
end L2
namespace L2
open PySem PySem.Spec PyProof.Rows
noncomputable def iZipM (K:PySem.W.Frag) (ta:TA):TI:=fun σ H R=>ta σ H fun vs H1=>∃ a b,vs = [.ref a,.ref b]∧(((∃ xs,SqT K H1 a xs)∧(∃ ys,SqT K H1 b ys)∧R (Itz K a b) H1)∨((∃ xs,SqL K H1 a xs)∧(∃ ys,SqL K H1 b ys)∧R (ItzL K a b) H1))
theorem pi_zipM {X:Cx}{es:List Expr}{k:Nat}{ps p pos:Pos}{e1 e2:Expr}{ta:TA}(hg:Gl X "zip") (hm:X.mg "zip" = none) (ha:PA X [e1,e2] ta)
    (hs:starEach [e1,e2] X.env = [(false,eval e1 X.env),(false,eval e2 X.env)]:=by rfl) (hs2:starEach [e2] X.env = [(false,eval e2 X.env)]:=by rfl) (hv:bootBuiltins "zip" = some (.type "zip"):=by decide +kernel) :
    PI X (.Tuple es k ps) (.Call (.Name "zip" p) [e1,e2] [] pos) (iZipM X.K ta):=by
  intro pins s σ H R I h
  refine Call_ (ld_blt I hg hm hv (PyProof.Rows.callWith_type1 (thn (ha pos pins s σ H _ I h) fun us s1 ⟨vs,H1,I1,r1,q1⟩=>?_) (by rw [hs,hs2]) (by rw [hs2]; rfl)))
  obtain ⟨a,b,e,q1⟩:=q1
  subst e
  obtain ⟨u,v,rfl,ra,rb⟩:=vals2 r1
  cases ra
  cases rb
  rcases q1 with ⟨⟨xs,qx⟩,⟨ys,qy⟩,q⟩ | ⟨⟨xs,qx⟩,⟨ys,qy⟩,q⟩
  · skip
    obtain ⟨us,rx,px,zx⟩:=I1.tuple qx
    obtain ⟨ws,ry,py,zy⟩:=I1.tuple qy
    refine Zt.call_zip (xs:=us.toArray) (ys:=ws.toArray) px py fun h' hz hTI hTO h1 h2 kp=>?_
    refine wpAny_pyIter_zip (s:={ s1 with heap:=h' }) hz ?_
    have la:a < s1.heap.objs.size:=by obtain ⟨o,e,_⟩:=px; exact Heap.lt_size e
    have lb:b < s1.heap.objs.size:=by obtain ⟨o,e,_⟩:=py; exact Heap.lt_size e
    have J:Inv X pins σ H1 { s1 with heap:=h' }:=I1.kept (t':=s1.toks) kp
    refine ⟨_,[s1.heap.objs.size + 4,s1.heap.objs.size + 2,s1.heap.objs.size + 3,s1.heap.objs.size,s1.heap.objs.size + 1],_,Itz X.K a b,H1,rfl,J,turn_zip (a:=a) (b:=b) (Nat.ne_of_lt la) (Nat.ne_of_lt (Nat.lt_succ_of_lt lb)) ?_,⟨hz,hTI,⟨_,_,hTO⟩,h1,h2⟩,fun c hc=>?_,q⟩
    · generalize s1.heap.objs.size=n at la lb
      constructor <;> (try simp only [List.mem_cons,List.not_mem_nil,or_false,not_or,ne_eq]) <;> (unfold Addr at *; omega)
    · have le:s1.heap.objs.size ≤ c:=by
        simp only [List.mem_cons,List.not_mem_nil,or_false] at hc
        rcases hc with rfl | rfl | rfl | rfl | rfl
        · exact Nat.le_add_right _ _
        · exact Nat.le_add_right _ _
        · exact Nat.le_add_right _ _
        · exact Nat.le_refl _
        · exact Nat.le_add_right _ _
      exact I1.fpOk le (I1.hok.fresh le)
  · skip
    obtain ⟨us,rx,px,zx⟩:=I1.list qx
    obtain ⟨ws,ry,py,zy⟩:=I1.list qy
    refine Zt.call_zipL (xs:=us.toArray) (ys:=ws.toArray) (Zt.plainL_is px) (Zt.plainL_is py) fun h' hz hTI hTO h1 h2 kp=>?_
    refine wpAny_pyIter_zip (s:={ s1 with heap:=h' }) hz ?_
    have la:a < s1.heap.objs.size:=by obtain ⟨o,_,e,_⟩:=px; exact Heap.lt_size e
    have lb:b < s1.heap.objs.size:=by obtain ⟨o,_,e,_⟩:=py; exact Heap.lt_size e
    have J:Inv X pins σ H1 { s1 with heap:=h' }:=I1.kept (t':=s1.toks) kp
    refine ⟨_,[s1.heap.objs.size + 4,s1.heap.objs.size + 2,s1.heap.objs.size + 3,s1.heap.objs.size,s1.heap.objs.size + 1],_,ItzL X.K a b,H1,rfl,J,turn_zipL (a:=a) (b:=b) (Nat.ne_of_lt la) (Nat.ne_of_lt (Nat.lt_succ_of_lt lb)) ?_,⟨hz,hTI,⟨_,_,hTO⟩,h1,h2⟩,fun c hc=>?_,q⟩
    · generalize s1.heap.objs.size=n at la lb
      constructor <;> (try simp only [List.mem_cons,List.not_mem_nil,or_false,not_or,ne_eq]) <;> (unfold Addr at *; omega)
    · have le:s1.heap.objs.size ≤ c:=by
        simp only [List.mem_cons,List.not_mem_nil,or_false] at hc
        rcases hc with rfl | rfl | rfl | rfl | rfl
        · exact Nat.le_add_right _ _
        · exact Nat.le_add_right _ _
        · exact Nat.le_add_right _ _
        · exact Nat.le_refl _
        · exact Nat.le_add_right _ _
      exact I1.fpOk le (I1.hok.fresh le)
theorem qi_zipM {X:Cx}{a b:Expr}{ta:TA}{p pos:Pos}{es:List Expr}{k:Nat}{ps:Pos}(hg:Gl X "zip") (hm:X.mg "zip" = none) (ha:PAs X [a,b] ta) (h1:notStar a=true) (h2:notStar b=true):PI X (.Tuple es k ps) (.Call (.Name "zip" p) [a,b] [] pos) (iZipM X.K ta) :=
  pi_zipM hg hm ha.run (by rw [star_ne h1,star_ne h2]; rfl) (by rw [star_ne h2]; rfl) (by decide +kernel)
theorem rd_izipM {K:PySem.W.Frag}{ta:TA}{σ:St}{H:Hp}{R:It→Hp→Prop}(h:ta σ H fun vs H1=>∃ a b,vs = [.ref a,.ref b]∧(((∃ xs,SqT K H1 a xs)∧(∃ ys,SqT K H1 b ys)∧R (Itz K a b) H1)∨((∃ xs,SqL K H1 a xs)∧(∃ ys,SqL K H1 b ys)∧R (ItzL K a b) H1))):iZipM K ta σ H R:=h
end L2
namespace L2
open PySem PySem.Spec PyProof.Rows PySem.W
section
variable {σ:St}{H:Hp}
theorem rd_starL {K:Frag}{te:TE}{t:TA}{R:List V→Hp→Prop}(h:te σ H fun v H1=>∃ a xs,v = .ref a∧SqL K H1 a xs∧t σ H1 fun vs H2=>R (xs ++ vs) H2):tStarL K te t σ H R:=h
end
theorem Ext.wide {N N':List Addr}{H H':Hp}(s:∀ b ∈ N,b ∈ N') (x:Ext N H H'):Ext N' H H':=fun b u e n=>x b u e (fun z=>n (s b z))
noncomputable def pairD (p:Int×Int):PyData:=.tuple [.int p.1,.int p.2]
theorem dt_pair {K:Frag}{N:List Addr}{H:Hp}{v:V}{p:Int×Int}(h:Dt K N H v (pairD p)):∃ q,v = .ref q∧SqT K H q [.int p.1,.int p.2]∧q ∉ N:=by
  unfold pairD at h
  cases h with
  | tup h n r =>
    cases r with
    | cons h1 r =>
      cases h1
      cases r with
      | cons h2 r =>
        cases h2
        cases r
        exact ⟨_,rfl,h,n⟩
theorem dt_pairI {K:Frag}{N:List Addr}{H:Hp}{q:Addr}{a b:Int}(h:SqT K H q [.int a,.int b]) (n:q ∉ N):Dt K N H (.ref q) (pairD (a,b)):=.tup h n (.cons (.int a) (.cons (.int b) .nil))
theorem DtAll.rev {K:Frag}{N:List Addr}{H:Hp}:∀ {vs:List V}{ds:List PyData},DtAll K N H vs ds→DtAll K N H vs.reverse ds.reverse
  | _,_,.nil=>.nil
  | _,_,.cons h r=>by rw [List.reverse_cons,List.reverse_cons]; exact (DtAll.rev r).append (.cons h .nil)
theorem comp_pairs {K:Frag}{N:List Addr}{a:Addr}{H1:Hp}{acc:Addr}{σ0:St}{g:TG}{tt:TT}{te:TE}{Q:VK}(ps:List (Int×Int)) (vs:List V) (pb:Int×Int→Bool) (pr:Int×Int→Int) (Sg:St→Prop) (hn:ps.length ≤ 1000) (na:H1 acc=none) (h0:Sg σ0)
    (hq:SqT K H1 a vs) (hd:DtAll K N H1 vs (ps.map pairD))
    (hb:∀ (p:Int×Int) (q:Addr) σc H (R:St→V→Hp→Prop) (S:St→Hp→Prop),p ∈ ps→SqT K H q [.int p.1,.int p.2]→Same H1 H→Sg σc→(pb p=true→∀ σ2,Sg σ2→R σ2 (.int (pr p)) H)→(pb p=false→∀ σ2,Sg σ2→S σ2 H) →
      g (.ref q) σc H fun σ2 H2=>tt σ2 H2 fun b H3=>if b=true then te σ2 H3 (R σ2) else S σ2 H3)
    (hst:∀ H,Same H1 H→H acc=some (.lst (((ps.filter pb).map pr).map V.int))→Q (.ref acc) H):CompW σ0 (Itt K a) H1 acc g tt te Q:=by
  have hl:=hd.length
  rw [List.length_map] at hl
  refine comp_byF ps.length (small1000 hn) (fun i ws σc H=>Same H1 H∧Sg σc∧ws=(((ps.take i).filter pb).map pr).map V.int) ⟨Same.upd na,h0,rfl⟩ ?_ ?_
  · rintro i ws σc H hi hlw ha ⟨sm,hs,rfl⟩
    have hL:=sm.tupS hq
    have hv:i < vs.length:=by omega
    obtain ⟨d,e1,e2⟩:=hd.get (List.getElem?_eq_getElem hv)
    rw [List.getElem?_map,List.getElem?_eq_getElem hi] at e1
    cases e1
    obtain ⟨q,ev,hp,_⟩:=dt_pair e2
    refine ⟨⟨_,_,hL,List.getElem?_eq_getElem hv⟩,?_⟩
    rintro x H' ⟨rfl,hx⟩ R S hR hS
    have ex:=hx _ hL
    rw [List.getElem?_eq_getElem hv,ev] at ex; cases ex
    have tk:ps.take (i + 1)=ps.take i ++ [ps[i]]:=by rw [List.take_add_one]; simp [hi]
    refine hb ps[i] q σc H' R S (List.getElem_mem hi) (sm.tupS hp) sm hs (fun e σ2 h2=>hR σ2 _ H' ha ⟨fun b u e=>?_,h2,?_⟩) (fun e σ2 h2=>hS σ2 H' ha ⟨sm,h2,?_⟩)
    · rw [upd_ne (ne_of_none e na)]; exact sm b u e
    · rw [tk,List.filter_append,List.filter_cons,if_pos e,List.map_append,List.map_append]; rfl
    · rw [tk,List.filter_append,List.filter_cons,if_neg (by rw [e]; exact Bool.false_ne_true),List.filter_nil,List.append_nil]
  · rintro ws σc H hlw ha ⟨sm,_,rfl⟩
    rw [List.take_length] at ha
    exact ⟨⟨_,sm.tupS hq,by omega⟩,hst H sm ha⟩
noncomputable def brokL (room en:Int) (ps:List (Int×Int)):List Int:=(ps.filter fun p=>decide (p.2 + room < en)).map (·.1)
noncomputable def leftL (room en:Int) (ps:List (Int×Int)):List Int:=(ps.filter fun p=>decide (p.2 + room ≥ en)).map (·.2)
theorem brok_len (room en:Int) (ps:List (Int×Int)):(brokL room en ps).length ≤ ps.length:=by unfold brokL; rw [List.length_map]; exact List.length_filter_le _ _
theorem left_len (room en:Int) (ps:List (Int×Int)):(leftL room en ps).length ≤ ps.length:=by unfold leftL; rw [List.length_map]; exact List.length_filter_le _ _
structure IsCut (room en app:Int) (ps:List (Int×Int)) (m:Int) (ns:List Int):Prop where
  mem:m ∈ leftL room en ps ++ [app]
  le:∀ a ∈ leftL room en ps ++ [app],m ≤ a
  perm:ns.Perm (brokL room en ps)
  srt:ns.Pairwise (· ≤ ·)
theorem IsCut.uniq {room en app:Int}{ps qs:List (Int×Int)}{m m':Int}{ns ns':List Int}(h:IsCut room en app ps m ns) (h':IsCut room en app qs m' ns') (p:ps.Perm qs):m=m'∧ns=ns':=by
  have pl:(leftL room en ps).Perm (leftL room en qs):=(p.filter _).map _
  have pb:(brokL room en ps).Perm (brokL room en qs):=(p.filter _).map _
  have pl2:∀ x,x ∈ leftL room en ps ++ [app]↔x ∈ leftL room en qs ++ [app]:=fun x=>(pl.append_right _).mem_iff
  refine ⟨Int.le_antisymm (h.le _ ((pl2 _).mpr h'.mem)) (h'.le _ ((pl2 _).mp h.mem)),?_⟩
  exact List.Perm.eq_of_pairwise (fun a b _ _ h1 h2=>Int.le_antisymm h1 h2) h.srt h'.srt (h.perm.trans (pb.trans h'.perm.symm))
noncomputable def slotD (m:Int) (ns:List Int):PyData:=.tuple [.int m,.tuple (ns.map PyData.int)]
theorem cut_dt {K:Frag}{H:Hp}{t q:Addr}{m:Int}{ns:List Int}(h1:SqT K H q (ns.map V.int)) (h2:SqT K H t [.int m,.ref q]):Dt K [] H (.ref t) (slotD m ns):=.tup h2 (by simp) (.cons (.int m) (.cons (.tup h1 (by simp) (Mt.dtInts ns)) .nil))
theorem cut_tupB (m:Int) (ns:List Int):Mt.tupB (slotD m ns)=true:=by
  have:=Mt.tupB_ints ns
  simp only [slotD,Mt.tupB,Mt.tupBAll,Bool.and_true,Bool.true_and] at this ⊢
  exact this
theorem cut_depth (m:Int) (ns:List Int):(slotD m ns).depth < 3:=by
  show PyData.depthAll [.int m,.tuple (ns.map PyData.int)] + 1 < 3
  have:(PyData.tuple (ns.map PyData.int)).depth=PyData.depthAll (ns.map PyData.int) + 1:=rfl
  have h0:(PyData.int m).depth=0:=rfl
  simp only [PyData.depthAll,this,depthL,h0]
  decide
theorem at2D {v:Int}(h0:0 ≤ v) (h1:v < 2) (x y:V):∃ z,atI [x,y] v=some z∧(z=x∨z=y):=by
  obtain ⟨j,rfl⟩:=Int.eq_ofNat_of_zero_le h0
  have hj:j < 2:=by omega
  match j,hj with
  | 0,_=>exact ⟨x,rfl,.inl rfl⟩
  | 1,_=>exact ⟨y,rfl,.inr rfl⟩
theorem qs_dput {X:Cx}{o i value:Expr}{pos pos':Pos}{td ty tv:TE}(hu:X.A.units + 1 < cLine) (ho:PE X o td) (hi:PE X i ty) (hv:PE X value tv) (hs:swapsWith value (some (.Subscript o i pos')) pos.line X.env=pure false):PSw X (.Assign [.Subscript o i pos'] value pos) (sDPut td ty tv):=⟨ps_dput hu ho hi hv hs⟩
section
variable {σ:St}{H:Hp}{Q:VK}{td ty tv:TE}{D:Ends}
theorem rd_din (h:ty σ H fun y H1=>td σ H1 fun x H2=>∃ a o,x = .ref a∧DGet H2 a y o∧Q (.bl o.isSome) H2):tDIn ty td σ H Q:=h
theorem rd_dget (h:td σ H fun x H1=>ty σ H1 fun y H2=>∃ a v,x = .ref a∧DGet H2 a y (some v)∧Q v H2):tDGet td ty σ H Q:=h
theorem rd_dput (h:tv σ H fun v H1=>td σ H1 fun x H2=>ty σ H2 fun y H3=>∃ a H4,x = .ref a∧DPut H3 a y v H4∧D.nx σ H4):sDPut td ty tv D σ H:=h
end
noncomputable def FK (fs:List (Int×Int)):List (Key×V):=fs.map fun p=>(.inl p.1,.int p.2)
noncomputable def lookI:List (Int×Int)→Int→Option Int
  | [],_=>none
  | p :: r,k=>if p.1=k then some p.2 else lookI r k
theorem val_FK (k:Int):∀ fs:List (Int×Int),valV (FK fs) (.inl k)=(lookI fs k).map V.int
  | []=>rfl
  | p :: r=>by
    unfold FK lookI
    rw [List.map_cons]
    by_cases h:p.1=k
    · rw [valV_pos (by simpa using h),if_pos h]; rfl
    · rw [valV_neg (by simpa using h),if_neg h]; exact val_FK k r
theorem dget_FK {H:Hp}{a:Addr}{fs:List (Int×Int)}(h:H a=some (.dK (FK fs))) (k:Int):DGet H a (.int k) ((lookI fs k).map V.int):=by
  rw [← val_FK]; exact DGet.k (k:=.inl k) h
end L2
namespace Mt
open PySem L2
noncomputable def lineD (m:Int):PyData→Option (Int×Int×Int)
  | .tuple [.int l,.int h,.int p,.int f,.bool _]=>if (0 ≤ l∧l ≤ 1000000000)∧l % m=h∧(0 ≤ p∧p ≤ 1000000000)∧(0 ≤ f∧f ≤ 1000000) then some (l,p,f) else none
  | _=>none
noncomputable def stepF (m:Int) (fs:List (Int×Int)) (d:PyData):Option (List (Int×Int)) :=
  match lineD m d with
  | none=>none
  | some (l,p,f)=>match lookI fs l,lookI fs p with
    | none,some g=>if p < l∧g ≤ f then some (fs ++ [(l,f)]) else none
    | _,_=>none
noncomputable def runF (m:Int):List (Int×Int)→List PyData→Option (List (Int×Int))
  | fs,[]=>some fs
  | fs,d :: ds=>(stepF m fs d).bind fun gs=>runF m gs ds
section
variable {m:Int}{d0 d1 d2 d3 d4:PyData}
end
end Mt
namespace L2
open PySem PySem.Spec PyProof.Rows
end L2
namespace PySem
noncomputable def PyData.width:PyData→Nat
  | .list ds=>ds.length
  | _=>0
end PySem
namespace Mt
open PySem L2
structure Ln where
  l:Int
  h:Int
  p:Option Int
  f:Int
  b:Bool
noncomputable def optD:Option Int→PyData
  | none=>.none
  | some i=>.int i
noncomputable def lnD (x:Ln):PyData:=.tuple [.int x.l,.int x.h,optD x.p,.int x.f,.bool x.b]
noncomputable def ln0:Ln:=⟨0,0,none,0,false⟩
structure LnOk (m:Int) (n:Nat) (lns:List Ln):Prop where
  ex:∃ rest fs,lns=ln0 :: rest∧runF m [(0,0)] (rest.map lnD)=some fs∧(∀ x ∈ lns,lookI fs x.l=some x.f)∧∀ k,(∀ x ∈ lns,x.l ≠ k)→lookI fs k=none
  bd:∀ x ∈ lns,0 ≤ x.l∧x.l ≤ 10 * n∧0 ≤ x.h∧x.h ≤ 7∧0 ≤ x.f∧x.f ≤ 1000000∧∀ q,x.p=some q→0 ≤ q∧q ≤ 10 * n
  len:lns.length ≤ n + 1
  ge:1 ≤ lns.length
theorem lookI_app (k v:Int):∀ (fs:List (Int×Int)) (j:Int),lookI (fs ++ [(k,v)]) j=match lookI fs j with | some w=>some w | none=>if k=j then some v else none
  | [],j=>by simp [lookI]
  | p :: r,j=>by
    simp only [List.cons_append,lookI]
    by_cases h:p.1=j
    · simp [h]
    · simp only [if_neg h]; exact lookI_app k v r j
end Mt
namespace L2
open PySem Mt
noncomputable def OkW (K:PySem.W.Frag) (M:List Addr) (H:Hp) (v:V):Prop:=∃ d,Dt K M H v d∧((∃ w k,Itm w k d∧w ≤ 200000∧k ≤ 30)∨d = .dict [])∧d.width < 500
theorem DtAll.set {K:PySem.W.Frag}{N:List Addr}{H:Hp}{v:V}{d:PyData}(h:Dt K N H v d):∀ {vs:List V}{ds:List PyData}(i:Nat),DtAll K N H vs ds→DtAll K N H (vs.set i v) (ds.set i d)
  | _,_,_,.nil=>.nil
  | _,_,0,.cons _ r=>.cons h r
  | _,_,i + 1,.cons q r=>.cons q (DtAll.set h i r)
structure BC (K:PySem.W.Frag) (M:List Addr) (H:Hp) (l:Addr) (vs:List V) (D:List PyData):Prop where
  g:H l=some (.lst vs)
  n:l ∉ M
  d:DtAll K M H vs D
structure BX (K:PySem.W.Frag) (st c r:Addr) (m:Nat) (l:Addr) (vs:List V) (D:List PyData) (t t2:Addr) (xs ys:List V) (ds es:List PyData) (L:List V) (H:Hp):Prop where
  S:Dk H st c r m
  B:BC K [st,c,r] H l vs D
  ok:∀ u ∈ L,OkW K [st,c,r] H u
  T:SqT K H t xs
  nT:t ∉ [st,c,r]
  dT:DtAll K [st,c,r] H xs ds
  T2:SqT K H t2 ys
  nT2:t2 ∉ [st,c,r]
  dT2:DtAll K [st,c,r] H ys es
section
variable {K:PySem.W.Frag}{st c r:Addr}{m m':Nat}{l:Addr}{vs:List V}{D:List PyData}{t t2:Addr}{xs ys:List V}{ds es:List PyData}{L:List V}{H H':Hp}{v:V}
end
theorem Ext.one {p:Addr}{o:HO}{H:Hp}{b:Addr}{u:HO}(h:H b=some u) (n:b ≠ p):upd H p o b=some u:=by rw [upd_ne n]; exact h
end L2
namespace Mt
open PySem L2
end Mt
namespace L2
open PySem PySem.Spec PyProof.Rows PySem.W
section
variable {X:Cx}{e f o i value:Expr}{es:List Expr}{ta td ty tx tv:TE}{t:TA}{pos pos' p apos cpos tpos:Pos}{CX:CXT}{k:Nat}{fa C:Addr}{fd:FuncData}{ps:List Str}{sp:Sp}{dvs:List V}{ds:List Value}{E:XK}{x m n:Str}
theorem qs_fld (ha:PE X o ta) (hv:PE X value tv) (hs:swapsWith value (some (.Attribute o n pos')) pos.line X.env=pure false):PSw X (.Assign [.Attribute o n pos'] value pos) (sFld X.K ta tv n):=⟨ps_fld ha hv hs⟩
theorem qs_ddel (ho:PE X o td) (hi:PE X i ty):PSw X (.Delete [.Subscript o i tpos] pos) (sDDel td ty):=⟨ps_ddel ho hi⟩
end
section
variable {σ:St}{H:Hp}{Q:VK}{ta td ty tx tv:TE}{t:TA}{D:Ends}{K:Frag}{C p dx:Addr}{fs:List (Str×V)}{n m:Str}{v:V}{sp:Sp}{dvs:List V}{E:XK}
theorem rd_fld (h:ta σ H fun x H1=>∃ a C dx fs v,x = .ref a∧H1 a=some (.ins C dx fs)∧Cls K C∧NoAttr K C n∧fs.lookup n=some v∧Q v H1):tFld K ta n σ H Q:=h
theorem rd_sfld (h:tv σ H fun y H1=>ta σ H1 fun x H2=>∃ a C dx fs,x = .ref a∧H2 a=some (.ins C dx fs)∧Cls K C∧NoAttr K C n∧fs.length < 1000∧D.nx σ (upd H2 a (.ins C dx (putF n y fs)))):sFld K ta tv n D σ H:=h
theorem rd_meth (h:ta σ H fun x H1=>∃ a dx fs,x = .ref a∧H1 a=some (.ins C dx fs)∧fs.lookup m=none∧t σ H1 fun vs H2=>sp (x :: (vs ++ dvs)) H2 Q E):tMeth C m sp dvs E ta t σ H Q:=h
theorem rd_ddel (h:td σ H fun x H1=>ty σ H1 fun y H2=>∃ a kvs k,x = .ref a∧H2 a=some (.dK kvs)∧y=kV k∧(valV kvs k).isSome=true∧D.nx σ (upd H2 a (.dK (dropK kvs k)))):sDDel td ty D σ H:=h
theorem rd_dget2 (h:td σ H fun x H1=>∃ a,x = .ref a∧IsD H1 a∧ty σ H1 fun y H2=>tx σ H2 fun z H3=>∃ o,DGet H3 a y o∧Q (o.getD z) H3):tDGet2 td ty tx σ H Q:=h
end
theorem key_rel {k:Key}{u:Value}(h:keyIs k u=true):RelV (kV k) u:=by
  rcases keyIs_shape h with ⟨i,t,rfl,rfl⟩ | ⟨x,t,rfl,rfl⟩
  · exact ⟨t,rfl⟩
  · exact ⟨t,rfl⟩
theorem kv_len {kvs:List (Key×V)}{vs:List (Key×Value)}(r:KV kvs vs):kvs.length=vs.length:=r.length
theorem kv_at:∀ {kvs:List (Key×V)}{vs:List (Key×Value)}{i:Nat}{k:Key}{x:Value},KV kvs vs→vs[i]? = some (k,x)→∃ v,kvs[i]? = some (k,v)∧RelV v x
  | _,_,0,k,x,@Paired.cons _ _ _ p q _ _ h _,e=>by
    simp only [List.getElem?_cons_zero,Option.some.injEq] at e
    obtain ⟨p1,p2⟩:=p
    obtain ⟨h1,h2⟩:=h
    subst e
    dsimp only at h1 h2
    subst h1
    exact ⟨p2,rfl,h2⟩
  | _,_,i + 1,k,x,.cons h r,e=>by
    simp only [List.getElem?_cons_succ] at e ⊢
    exact kv_at r e
  | _,_,_,_,_,.nil,e=>by simp at e
theorem keys_vals {kvs:List (Key×V)}{vs:List (Key×Value)}(r:KV kvs vs) {acc:Array Value}(h:ItemsOf (fun i v=>∃ k x,vs[i]? = some (k,x)∧keyIs k v=true) acc vs.length):Vals (kvs.map fun kv=>kV kv.1) acc.toList:=by
  obtain ⟨h1,h2⟩:=h
  have hl:=kv_len r
  have key:∀ (us:List Value) (ks:List (Key×V)),us.length=ks.length→(∀ (j:Nat) (v:Value),us[j]? = some v→∃ k y,ks[j]? = some (k,y)∧keyIs k v=true)→Vals (ks.map fun kv=>kV kv.1) us:=by
    intro us
    induction us with
    | nil=>intro ks e _; cases ks with
      | nil=>exact .nil
      | cons _ _=>simp at e
    | cons u us ih=>intro ks e h; cases ks with
      | nil=>simp at e
      | cons q ks =>
        obtain ⟨k,y,e1,e2⟩:=h 0 u rfl
        simp only [List.getElem?_cons_zero,Option.some.injEq] at e1
        subst e1
        exact .cons (key_rel e2) (ih ks (by simpa using e) fun j v hj=>h (j + 1) v hj)
  refine key acc.toList kvs (by rw [Array.length_toList,h1,hl]) fun j v hj=>?_
  obtain ⟨k,x,e1,e2⟩:=h2 j v (by rw [← Array.getElem?_toList]; exact hj)
  obtain ⟨y,e3,_⟩:=kv_at r e1
  exact ⟨k,y,e3,e2⟩
noncomputable def rSortD:TR:=fun xs H Q=>∃ (p:Addr) (fs:List (Int×V)),xs = [.ref p]∧H p=some (.dK (fs.map fun q=>(.inl q.1,q.2)))∧fs.length < 64∧∀ (l:Addr) (ns:List Int) H',H l=none→ns.Perm (fs.map (·.1))→ns.Pairwise (· ≤ ·)→Same H H'→H' l=some (.lst (ns.map V.int))→Q (.ref l) H'
section
variable {X:Cx}
theorem cn_sortD (hc:X.calm=true):CallR X (.builtin "sorted") rSortD:=by
  intro pins s σ H xs us Q I r h
  obtain ⟨p,fs,rfl,hp,h64,q⟩:=h
  obtain ⟨u,rfl,ru⟩:=vals1 r
  cases ru
  obtain ⟨z,hd,vs,rel,dd⟩:=dk_of I.hok hp
  obtain ⟨ep,da⟩:=dd.dictAt
  have hl:=kv_len rel
  refine Calls.call_function_entry kind_sorted plain_sorted entry_sorted (args_sorted1 _) ?_
  unfold Builtin.«sorted»
  refine wpAny_bind (m:=checkCount "sorted" 1 1 _) (wpAny_pure ?_)
  refine wpAny_bind (kdu_collect (A:=X.A.in1) (kdl_dict (knd:=mixKind X.prog X.w) (kvs:=vs) (ep:=ep) hd) (I.ok.hd hc) da (by rw [← hl]; exact z) fun h' tk acc kp hI=>?_)
  have hv:=keys_vals rel hI
  rw [List.map_map] at hv
  have hv':Vals ((fs.map (·.1)).map V.int) acc.toList:=by rw [List.map_map]; exact hv
  have hA:=ints_are hv'
  have hlen:acc.toList.length=fs.length:=by have:=hv'.length; simpa using this.symm
  refine wpAny_bind (wpAny_newList ?_ (by rw [hlen,sizeLine_eq]; omega))
  have hoL:(h'.push (seqObj "list" acc.toList.toArray 0)).get? h'.objs.size=some (seqObj "list" acc.toList.toArray 0):=Heap.get?_push_size _ rfl
  refine wpAny_bind (wpAny_holding (wpAny_call_entry slot_list_sort ⟨_,hoL,rfl⟩ entry_list_sort (list_sort_tree hoL hA (by omega) fun out ns' a1 a2 a3=>⟨_,rfl,?_⟩) (args_list_sort _)))
  refine wpAny_pure ⟨_,rfl,?_⟩
  have I1:Inv X pins σ H { s with heap:=h',toks:=tk }:=I.kept kp
  obtain ⟨n,ho⟩:=sortedHeap_at (out:=out) hoL
  have ov:=ints_vals a1
  have hpl:=a2.length_eq
  rw [List.length_map] at hpl
  refine ⟨.ref h'.objs.size,_,I1.laid (o:=.lst (ns'.map V.int)) (fun b o e=>?_) (Nat.le_refl _) ⟨by rw [List.length_map,sizeLine_eq]; omega,out.toList,n,ov,by rw [Array.toArray_toList]; exact ho⟩,rfl,q _ ns' _ I1.fresh a2 a3 (Same.upd I1.fresh) upd_same⟩
  have hlt:b < h'.objs.size:=Heap.lt_size e
  rw [sortedHeap_old (Nat.ne_of_lt hlt) (by rw [size_push']; exact Nat.lt_succ_of_lt hlt),Heap.get?_push_ne _ _ _ (Nat.ne_of_lt hlt)]
  exact e
end
theorem dl_keys:typeLookup (.type "tuple") "keys" = pure none:=by rw [typeLookup_type,builtinLookup_eq_fast]; kernel_rfl
set_option maxRecDepth 8000 in
theorem attrQ_tuple {prog:Program}{w:World}{A:Around}{E:Value→Shared→Prop}{s:Shared}{a:Addr}{o:Obj}{xs:Array Value}{k:Nat}{Q:Option Value→Shared→Prop}
    (hx:s.heap.get? a=some o) (hc:o.cls = .type "tuple") (hdat:o.data = .seq xs k) (hd:o.dict=none) (hA:A.handled=none)
    (h:∀ h' tk,(∀ b u,s.heap.get? b=some u→h'.get? b=some u)→Q none { s with heap:=h',toks:=tk }):wpAny (model prog w) A (getAttr? (.ref a) "keys") Q E s:=by
  obtain ⟨c,dct,dat,sl⟩:=o
  simp only at hc hdat hd
  subst hc hdat hd
  obtain ⟨hp,g,d,tk,os⟩:=s
  have hT:∀ tk',(⟨hp,g,d,tk',os⟩:Shared).TypeIs (.ref a) "tuple":=fun _=>⟨_,hx,rfl⟩
  have f1:=sub_AttributeError
  have f3:=F.slot_tuple_getattribute.lookup
  have f4:=F.slot_tuple_getattribute.bind (.ref a)
  have f5:=am_tuple_getattr_none
  unfold getAttr? getAttrBy? getAttrBy
  repeat (any_goals (first | assumption | exact hT _ | ((with_reducible show wpAny _ _ (call (Value.builtin "tuple.__getattribute__") _ _) _ _ _); refine call_meets F.slot_tuple_getattribute (hT _) am_entry_tuple_getattribute (F.args_tuple_getattribute_2 _ _) (meets_getattribute_miss_tuple a xs k sl "keys" _ dl_keys (by decide +kernel)) ⟨hx,hA,fun h' tk' e hx'=>?_⟩) | wp_step))
  obtain ⟨t',u',he⟩:=hx'.there
  show wpAny _ _ (getattributeRaised _ _ _ _ _ _ _) _ _ _
  unfold getattributeRaised
  repeat (any_goals (first | assumption | wp_step))
  exact h _ _ hx'.keeps
noncomputable def PVH (K:Frag) (H:Hp) (ws:List V) (fs:List (Key×V)):Prop:=Paired (fun (v:V) (q:Key×V)=>∃ a,v = .ref a∧SqT K H a [kV q.1,q.2]) ws fs
theorem pe_fldK {X:Cx}{K:Frag}{e:Expr}{ta:TE}{f:Str}{pos:Pos}(hK:X.K=K) (he:PE X e ta) (hb:attributeBase e f X.env (eval e X.env)=eval e X.env):PE X (.Attribute e f pos) (tFld K ta f):=hK ▸ pe_fld he hb
theorem binds_peek1 {K:Frag}{fd:FuncData}{p1 p2:Str}{v:Value}(h:∀ (u:Value) S,peek K S (bindArgs fd ⟨[u],[]⟩)=some [(p1,u),(p2,v)]):Binds K fd [p1,p2] [v]:=fun s us X hl=>by
  match us,hl with
  | [u],_=>exact kp_binds X (h u)
  | [],hl=>simp at hl
  | _ :: _ :: _,hl=>simp at hl
theorem SqT.updL {K:Frag}{H:Hp}{b acc:Addr}{ys vs ws:List V}(h:SqT K H b ys) (ha:H acc=some (.lst vs)):SqT K (upd H acc (.lst ws)) b ys:=by
  rcases h with h | h
  · refine .inl ?_
    rcases h with h | ⟨o,h⟩
    · exact .inl (by rw [upd_ne (ne_of h ha (by intro z; cases z))]; exact h)
    · exact .inr ⟨o,by rw [upd_ne (ne_of h ha (by intro z; cases z))]; exact h⟩
  · exact .inr h
noncomputable def rTupF (K:Frag):TR:=fun xs H Q=>∃ p ys,xs = [.ref p]∧SqL K H p ys∧∀ (l:Addr) (o:Obj),H l=none→o.dict=none→Q (.ref l) (upd H l (.frz o (.tup ys)))
theorem cn_tupleF {X:Cx}:CallR X (.type "tuple") (rTupF X.K):=by
  intro pins s σ H xs us Q I r h
  obtain ⟨p,ys,rfl,hq,q⟩:=h
  obtain ⟨u,rfl,rx⟩:=vals1 r
  cases rx
  obtain ⟨its,r',pl,hz⟩:=I.list hq
  have hlen:=r'.length
  refine call_tuple_list pl.isList (fun h' kp=>?_) (by simp only [List.size_toArray] <;> omega)
  have I1:Inv X pins σ H { s with heap:=h' }:=I.kept (t':=s.toks) kp
  have I2:Inv X pins σ (upd H h'.objs.size (.frz { cls:=.type "tuple",data:=.seq its.toArray } (.tup ys))) { s with heap:=h'.push { cls:=.type "tuple",data:=.seq its.toArray } } :=
    I1.laid (t':=s.toks) (fun b o e=>Heap.get?_push_of_some _ e) (Nat.le_refl _) (show ObjOk X.prog X.w _ _ _ (.frz _ (.tup ys)) from ⟨Heap.get?_push_size _ rfl,hz,its,r',IsTup.new _ _⟩)
  exact ⟨.ref h'.objs.size,_,I2,rfl,q _ _ (I1.hok.fresh (Nat.le_refl _)) rfl⟩
theorem lookI_mem {k v:Int}:∀ {fs:List (Int×Int)},lookI fs k=some v→(k,v) ∈ fs
  | [],h=>by cases h
  | p :: r,h=>by
    unfold lookI at h
    by_cases e:p.1=k
    · rw [if_pos e] at h; cases h; subst e; exact List.mem_cons_self ..
    · rw [if_neg e] at h; exact List.mem_cons_of_mem _ (lookI_mem h)
theorem lookI_of {k v:Int}:∀ {fs:List (Int×Int)},(fs.map (·.1)).Nodup→(k,v) ∈ fs→lookI fs k=some v
  | [],_,h=>by cases h
  | p :: r,nd,h=>by
    unfold lookI
    rw [List.map_cons,List.nodup_cons] at nd
    rcases List.mem_cons.mp h with e | h
    · subst e; rw [if_pos rfl]
    · have ne:p.1 ≠ k:=fun e=>nd.1 (by rw [e]; exact List.mem_map_of_mem (f:=(·.1)) h)
      rw [if_neg ne]; exact lookI_of nd.2 h
theorem lookI_none {k:Int}:∀ {fs:List (Int×Int)},lookI fs k=none↔k ∉ fs.map (·.1)
  | []=>by simp [lookI]
  | p :: r=>by
    unfold lookI
    by_cases e:p.1=k
    · rw [if_pos e]; simp [e]
    · rw [if_neg e,lookI_none]; simp [Ne.symm e]
theorem putK_FK (k v:Int):∀ (fs:List (Int×Int)),∃ gs,putK (FK fs) (.inl k) (.int v)=FK gs∧(∀ j,lookI gs j=if j=k then some v else lookI fs j)∧gs.length ≤ fs.length + 1∧(∀ j,j ∈ gs.map (·.1)↔j=k∨j ∈ fs.map (·.1))∧((fs.map (·.1)).Nodup→(gs.map (·.1)).Nodup):=by
  intro fs
  cases e:lookI fs k with
  | none =>
    refine ⟨fs ++ [(k,v)],?_,fun j=>?_,by simp,fun j=>?_,fun nd=>?_⟩
    · rw [putK_new _ (by rw [val_FK,e]; rfl)]; simp [FK]
    · rw [Mt.lookI_app]
      by_cases hj:j=k
      · subst hj; rw [e]
      · rw [if_neg hj]; cases lookI fs j with
        | none=>simp [Ne.symm hj]
        | some w=>rfl
    · simp [or_comm]
    · rw [List.map_append,List.nodup_append]
      refine ⟨nd,by simp,fun a ha b hb=>?_⟩
      simp at hb
      subst hb
      rintro rfl
      exact lookI_none.mp e ha
  | some x =>
    have hkeys:(fs.map fun p=>if p.1=k then (p.1,v) else p).map (·.1)=fs.map (·.1):=by
      rw [List.map_map]; apply List.map_congr_left; intro p _; by_cases hp:p.1=k <;> simp [hp]
    refine ⟨fs.map fun p=>if p.1=k then (p.1,v) else p,?_,fun j=>?_,by simp,fun j=>?_,fun nd=>by rw [hkeys]; exact nd⟩
    · unfold putK
      have hin:(FK fs).any (fun kv=>decide (kv.1=(Sum.inl k:Key)))=true:=by
        rw [List.any_eq_true]
        exact ⟨(.inl k,.int x),List.mem_map.mpr ⟨(k,x),lookI_mem e,rfl⟩,by simp⟩
      first
        | (rw [if_pos hin]; unfold FK; rw [List.map_map,List.map_map]; apply List.map_congr_left; intro p _; by_cases hp:p.1=k <;> simp [hp])
    · have hlen:∀ (gs:List (Int×Int)),(∃ y,lookI gs k=some y)∨lookI gs k=none→lookI (gs.map fun p=>if p.1=k then (p.1,v) else p) j=if j=k then (if (lookI gs k).isSome then some v else none) else lookI gs j:=by
        intro gs _
        induction gs with
        | nil=>simp [lookI]
        | cons p r ih =>
          have ih:=ih (by cases lookI r k with | none=>exact .inr rfl | some y=>exact .inl ⟨y,rfl⟩)
          rw [List.map_cons]
          unfold lookI
          by_cases hp:p.1=k
          · simp only [if_pos hp]
            by_cases hj:j=k
            · subst hj; simp [hp]
            · have:¬ p.1=j:=fun z=>hj (by rw [← z,hp])
              simp only [if_neg this,if_neg hj]; rw [ih,if_neg hj]
          · simp only [if_neg hp]
            by_cases hpj:p.1=j
            · have:¬ j=k:=fun z=>hp (by rw [hpj,z])
              simp [hpj,this]
            · simp only [if_neg hpj]; exact ih
      rw [hlen fs (.inl ⟨x,e⟩),e]; rfl
    · have hk:k ∈ fs.map (·.1):=List.mem_map.mpr ⟨_,lookI_mem e,rfl⟩
      rw [hkeys]
      constructor
      · exact .inr
      · rintro (rfl | h)
        · exact hk
        · exact h
theorem str_pr:¬ (("room":Str) = "places"):=by decide +kernel
noncomputable def slF (room:Int) (d:Addr):List (Str×V):=putF "places" (.ref d) (putF "room" (.int room) [])
theorem slF_places (room:Int) (d:Addr):(slF room d).lookup ("places":Str)=some (.ref d):=by
  unfold slF; rw [lookup_putF,if_pos rfl]
theorem slF_room (room:Int) (d:Addr):(slF room d).lookup ("room":Str)=some (.int room):=by
  unfold slF; rw [lookup_putF,if_neg str_pr,lookup_putF,if_pos rfl]
theorem slF_no (room:Int) (d:Addr) {m:Str}(h1:¬ m = "places") (h2:¬ m = "room"):(slF room d).lookup m=none:=by
  unfold slF; rw [lookup_putF,if_neg h1,lookup_putF,if_neg h2]; rfl
structure SlAt (C:Addr) (H:Hp) (p d:Addr) (room:Int) (qs:List (Int×Int)):Prop where
  ob:∃ dx,H p=some (.ins C dx (slF room d))
  dc:H d=some (.dK (FK qs))
  nd:(qs.map (·.1)).Nodup
theorem SlAt.ne {C:Addr}{H:Hp}{p d:Addr}{room:Int}{qs:List (Int×Int)}(S:SlAt C H p d room qs):p ≠ d:=by
  obtain ⟨⟨dx,h1⟩,h2,_⟩:=S
  exact ne_of h1 h2 (by intro z; cases z)
theorem SlAt.ext {C:Addr}{H H':Hp}{N:List Addr}{p d:Addr}{room:Int}{qs:List (Int×Int)}(S:SlAt C H p d room qs) (x:Ext N H H') (h1:p ∉ N) (h2:d ∉ N):SlAt C H' p d room qs:=by
  obtain ⟨⟨dx,e1⟩,e2,e3⟩:=S
  exact ⟨⟨dx,x _ _ e1 h1⟩,x _ _ e2 h2,e3⟩
theorem SlAt.same {C:Addr}{H H':Hp}{p d:Addr}{room:Int}{qs:List (Int×Int)}(S:SlAt C H p d room qs) (x:Same H H'):SlAt C H' p d room qs:=by
  obtain ⟨⟨dx,e1⟩,e2,e3⟩:=S
  exact ⟨⟨dx,x _ _ e1⟩,x _ _ e2,e3⟩
theorem drop_FK (k:Int) (qs:List (Int×Int)):dropK (FK qs) (.inl k)=FK (qs.filter fun x=>decide (x.1 ≠ k)):=by
  unfold dropK FK
  rw [List.filter_map]
  congr 1
  apply List.filter_congr
  intro x _
  simp
structure IsHeld (qs ps:List (Int×Int)):Prop where
  perm:ps.Perm qs
  srt:(ps.map (·.1)).Pairwise (· ≤ ·)
theorem IsHeld.nd {qs ps:List (Int×Int)}(h:IsHeld qs ps) (nd:(qs.map (·.1)).Nodup):(ps.map (·.1)).Nodup:=(h.perm.map (·.1)).nodup_iff.mpr nd
theorem IsHeld.look {qs ps:List (Int×Int)}(h:IsHeld qs ps) (nd:(qs.map (·.1)).Nodup) (k:Int):lookI ps k=lookI qs k:=by
  cases e:lookI qs k with
  | none =>
    rw [lookI_none] at e ⊢
    exact fun z=>e ((h.perm.map (·.1)).mem_iff.mp z)
  | some v=>exact lookI_of (h.nd nd) (h.perm.mem_iff.mpr (lookI_mem e))
theorem IsHeld.uniq {qs ps ps':List (Int×Int)}(h:IsHeld qs ps) (h':IsHeld qs ps') (nd:(qs.map (·.1)).Nodup):ps=ps':=by
  refine List.Perm.eq_of_pairwise (le:=fun (a b:Int×Int)=>a.1 ≤ b.1) (fun a b ha hb h1 h2=>?_) (List.pairwise_map.mp h.srt) (List.pairwise_map.mp h'.srt) (h.perm.trans h'.perm.symm)
  have e:a.1=b.1:=Int.le_antisymm h1 h2
  have e1:=lookI_of (h.nd nd) (k:=a.1) (v:=a.2) ha
  have e2:=lookI_of (h'.nd nd) (k:=b.1) (v:=b.2) hb
  rw [h.look nd] at e1
  rw [h'.look nd,← e,e1] at e2
  exact Prod.ext e (Option.some.inj e2)
theorem held_mk {qs:List (Int×Int)}{ns:List Int}(nd:(qs.map (·.1)).Nodup) (hp:ns.Perm (qs.map (·.1))) (hs:ns.Pairwise (· ≤ ·)):IsHeld qs (ns.map fun k=>(k,(lookI qs k).getD 0)):=by
  refine ⟨?_,by rw [List.map_map]; simpa [Function.comp_def] using hs⟩
  have h1:=hp.map (fun k=>(k,(lookI qs k).getD 0))
  refine h1.trans (List.Perm.of_eq ?_)
  rw [List.map_map]
  conv=>rhs; rw [← List.map_id qs]
  apply List.map_congr_left
  intro x hx
  have:=lookI_of nd (k:=x.1) (v:=x.2) hx
  simp [this]
theorem brok_mem {room en:Int}{qs:List (Int×Int)}{k:Int}:k ∈ brokL room en qs↔∃ v,(k,v) ∈ qs∧v + room < en:=by
  unfold brokL
  simp only [List.mem_map,List.mem_filter,decide_eq_true_eq]
  constructor
  · rintro ⟨⟨a,b⟩,⟨h1,h2⟩,rfl⟩; exact ⟨b,h1,h2⟩
  · rintro ⟨v,h1,h2⟩; exact ⟨(k,v),⟨h1,h2⟩,rfl⟩
theorem SqT.extD {K:Frag}{H H':Hp}{b d:Addr}{ys:List V}{kvs:List (Key×V)}(h:SqT K H b ys) (hd:H d=some (.dK kvs)) (x:Ext [d] H H'):SqT K H' b ys:=by
  rcases h with h | h
  · refine .inl ?_
    rcases h with h | ⟨o,h⟩
    · exact .inl (x _ _ h (by simp; exact ne_of h hd (by intro z; cases z)))
    · exact .inr ⟨o,x _ _ h (by simp; exact ne_of h hd (by intro z; cases z))⟩
  · exact .inr h
theorem filt_step {qs:List (Int×Int)}{ns:List Int}{i:Nat}(hi:i < ns.length):(qs.filter fun x=>decide (x.1 ∉ ns.take i)).filter (fun x=>decide (x.1 ≠ ns[i]))=qs.filter fun x=>decide (x.1 ∉ ns.take (i + 1)):=by
  have tk:ns.take (i + 1)=ns.take i ++ [ns[i]]:=by rw [List.take_add_one]; simp [hi]
  rw [List.filter_filter]
  apply List.filter_congr
  intro x _
  rw [Bool.eq_iff_iff,Bool.and_eq_true,decide_eq_true_eq,decide_eq_true_eq,decide_eq_true_eq,tk,List.mem_append,List.mem_singleton]
  constructor
  · rintro ⟨h1,h2⟩ (h | h)
    · exact h2 h
    · exact h1 h
  · exact fun h=>⟨fun z=>h (.inr z),fun z=>h (.inl z)⟩
theorem filt_has {qs:List (Int×Int)}{ns:List Int}(nd:ns.Nodup) {i:Nat}(hi:i < ns.length) (hk:ns[i] ∈ qs.map (·.1)):(valV (FK (qs.filter fun x=>decide (x.1 ∉ ns.take i))) (.inl ns[i])).isSome=true:=by
  rw [val_FK]
  have hm:ns[i] ∈ (qs.filter fun x=>decide (x.1 ∉ ns.take i)).map (·.1):=by
    obtain ⟨x,hx,e⟩:=List.mem_map.mp hk
    refine List.mem_map.mpr ⟨x,List.mem_filter.mpr ⟨hx,?_⟩,e⟩
    rw [e]
    have tk:ns.take (i + 1)=ns.take i ++ [ns[i]]:=by rw [List.take_add_one]; simp [hi]
    have nd2:(ns.take (i + 1)).Nodup:=nd.sublist (List.take_sublist _ _)
    rw [tk,List.nodup_append] at nd2
    simp only [decide_eq_true_eq]
    exact fun z=>nd2.2.2 _ z _ (by simp) rfl
  cases e:lookI (qs.filter fun x=>decide (x.1 ∉ ns.take i)) ns[i] with
  | none=>exact absurd hm (lookI_none.mp e)
  | some v=>rfl
noncomputable def keptL (room en:Int) (qs:List (Int×Int)):List (Int×Int):=qs.filter fun x=>decide (x.2 + room ≥ en)
theorem kept_nd {room en:Int}{qs:List (Int×Int)}(nd:(qs.map (·.1)).Nodup):((keptL room en qs).map (·.1)).Nodup:=nd.sublist (List.Sublist.map _ List.filter_sublist)
theorem kept_len (room en:Int) (qs:List (Int×Int)):(keptL room en qs).length ≤ qs.length:=List.length_filter_le _ _
theorem brok_nd {room en:Int}{qs:List (Int×Int)}(nd:(qs.map (·.1)).Nodup):(brokL room en qs).Nodup:=nd.sublist (List.Sublist.map _ List.filter_sublist)
theorem key_uniq {qs:List (Int×Int)}(nd:(qs.map (·.1)).Nodup) {k v w:Int}(h1:(k,v) ∈ qs) (h2:(k,w) ∈ qs):v=w:=by
  have a:=lookI_of nd h1
  have b:=lookI_of nd h2
  rw [a] at b; cases b; rfl
theorem not_brok {room en:Int}{qs:List (Int×Int)}(nd:(qs.map (·.1)).Nodup) {ns:List Int}(hp:ns.Perm (brokL room en qs)):qs.filter (fun x=>decide (x.1 ∉ ns))=keptL room en qs:=by
  unfold keptL
  apply List.filter_congr
  rintro ⟨k,v⟩ hx
  have e:k ∈ ns↔v + room < en:=by
    rw [hp.mem_iff,brok_mem]
    constructor
    · rintro ⟨w,h1,h2⟩; rw [key_uniq nd hx h1]; exact h2
    · exact fun h=>⟨v,hx,h⟩
  simp only [decide_eq_decide,e]
  omega
theorem left_kept (room en:Int) (qs:List (Int×Int)):leftL room en qs=(keptL room en qs).map (·.2):=rfl
theorem kept_kept (room en:Int) (qs:List (Int×Int)):keptL room en (keptL room en qs)=keptL room en qs:=by
  unfold keptL; rw [List.filter_filter]; simp
theorem brok_kept (room en:Int) (qs:List (Int×Int)):brokL room en (keptL room en qs) = []:=by
  unfold brokL keptL
  rw [List.filter_filter,List.map_eq_nil_iff,List.filter_eq_nil_iff]
  intro x _
  simp
theorem IsCut.again {room en app:Int}{qs:List (Int×Int)}{m m':Int}{ns ns':List Int}(h:IsCut room en app qs m ns) (h':IsCut room en app (keptL room en qs) m' ns'):m'=m∧ns' = []:=by
  have e:leftL room en (keptL room en qs)=leftL room en qs:=by rw [left_kept,left_kept,kept_kept]
  refine ⟨Int.le_antisymm (h'.le _ (by rw [e]; exact h.mem)) (h.le _ (by rw [← e]; exact h'.mem)),?_⟩
  have:=h'.perm
  rw [brok_kept] at this
  exact List.perm_nil.mp this
theorem IsCut.ofPerm {room en app:Int}{ps qs:List (Int×Int)}{m:Int}{ns:List Int}(h:IsCut room en app ps m ns) (p:ps.Perm qs):IsCut room en app qs m ns:=by
  have pl:(leftL room en ps).Perm (leftL room en qs):=(p.filter _).map _
  have pl2:∀ x,x ∈ leftL room en ps ++ [app]↔x ∈ leftL room en qs ++ [app]:=fun x=>(pl.append_right _).mem_iff
  exact ⟨(pl2 _).mp h.mem,fun a ha=>h.le a ((pl2 a).mpr ha),h.perm.trans ((p.filter _).map _),h.srt⟩
theorem pvh_dt {K:Frag}{N:List Addr}{H:Hp}:∀ {ws:List V}{ps:List (Int×Int)},PVH K H ws (FK ps)→N = []→DtAll K N H ws (ps.map pairD)
  | [],[],.nil,_=>.nil
  | _ :: ws,p :: ps,.cons h r,hN=>by
    obtain ⟨a,rfl,hq⟩:=h
    exact .cons (dt_pairI (a:=p.1) (b:=p.2) hq (by rw [hN]; simp)) (pvh_dt r hN)
theorem PVH.len {K:Frag}{H:Hp}{ws:List V}{ps:List (Int×Int)}(h:PVH K H ws (FK ps)):ws.length=ps.length:=by
  have:=Paired.length h
  simpa [FK] using this
theorem PVH.same {K:Frag}{H H':Hp}{ws:List V}{fs:List (Key×V)}(h:PVH K H ws fs) (s:Same H H'):PVH K H' ws fs:=by
  unfold PVH at h ⊢
  exact Paired.mapP h fun _ _ ⟨a,e,q⟩=>⟨a,e,s.tupS q⟩
theorem PVH.snoc {K:Frag}{H:Hp}{ws:List V}{fs:List (Key×V)}(h:PVH K H ws fs) {a:Addr}{q:Key×V}(hq:SqT K H a [kV q.1,q.2]):PVH K H (ws ++ [.ref a]) (fs ++ [q]):=by
  unfold PVH at h ⊢
  induction h with
  | nil=>exact .cons ⟨a,rfl,hq⟩ .nil
  | cons x _ ih=>exact .cons x ih
structure Jv (C:Addr) (H:Hp) (st c r sp d lh:Addr) (room en app:Int) (many:Nat) (qs:List (Int×Int)) (hs:List Int) (n i:Nat):Prop where
  dk:Dk H st c r n
  sl:SlAt C H sp d room qs
  hl:H lh=some (.lst (hs.map V.int))
  len:hs.length=many
  a0:0 ≤ app
  a1:app ≤ en
  e1:en ≤ 400
  hb:∀ h ∈ hs,0 ≤ h∧h ≤ en
  kb:∀ k v,lookI qs k=some v→0 ≤ k∧hs[k.toNat]? = some v
  ql:qs.length ≤ i
section
variable {C:Addr}{H H':Hp}{st c r sp d lh:Addr}{room en app:Int}{many:Nat}{qs:List (Int×Int)}{hs:List Int}{n n' i:Nat}
theorem Jv.more (J:Jv C H st c r sp d lh room en app many qs hs n i) {en':Int}(h1:en ≤ en') (h2:en' ≤ 400):Jv C H st c r sp d lh room en' app many qs hs n i :=
  { J with a1:=by have:=J.a1; omega,e1:=h2,hb:=fun h m=>by have:=J.hb h m; omega }
end
inductive KOk {α:Type}(n:Nat) (P:α→Prop):KasT α→Prop
  | ret {a:α}(h:P a):KOk n P (.ret a)
  | ask {i j:Nat}{k:Bool→KasT α}(hi:i < n) (hj:j < n) (h:∀ b,KOk n P (k b)):KOk n P (.ask i j k)
theorem KOk.bind {α β:Type}{n:Nat}{P:α→Prop}{R:β→Prop}{f:α→KasT β}{t:KasT α}(h:KOk n P t) (hf:∀ a,P a→KOk n R (f a)):KOk n R (t.bind f):=by
  induction h with
  | ret h=>exact hf _ h
  | ask hi hj _ ih=>exact .ask hi hj ih
noncomputable def Ord (n:Nat) (p:Array Nat):Prop:=p.toList.Perm (List.range n)
theorem Ord.lt {n:Nat}{p:Array Nat}(h:Ord n p) (hn:0 < n) (i:Nat):p.getD i 0 < n:=by
  by_cases hi:i < p.size
  · have e:p.getD i 0=p[i]:=by simp [hi]
    rw [e]
    have:p[i] ∈ p.toList:=Array.getElem_mem_toList hi
    exact List.mem_range.mp (List.Perm.mem_iff h |>.mp this)
  · have e:p.getD i 0=0:=by simp [hi]
    rw [e]; exact hn
theorem Ord.rev {n:Nat}{p:Array Nat}(h:Ord n p) (i j:Nat):Ord n (kas_rev p i j):=(Array.perm_iff_toList_perm.mp (mirror_perm p i j _)).trans h
theorem Ord.bub {n:Nat}{p:Array Nat}(h:Ord n p) (k d:Nat):Ord n (bubble p k d):=(Array.perm_iff_toList_perm.mp (bubble_perm p k d)).trans h
section
variable {n:Nat}(hn:0 < n)
include hn
theorem ok_asc {p:Array Nat}(h:Ord n p):∀ (f m:Nat),KOk n (fun _=>True) (kas_asc p f m)
  | 0,_=>.ret trivial
  | f + 1,m=>.ask (h.lt hn _) (h.lt hn _) fun b=>by
    cases b
    · exact ok_asc h f (m + 1)
    · exact .ret trivial
theorem ok_desc:∀ (f:Nat) {p:Array Nat}(_:Ord n p) (m q:Nat),KOk n (fun r=>Ord n r.1) (kas_desc f p m q)
  | 0,_,h,_,_=>.ret h
  | f + 1,p,h,m,q=>.ask (h.lt hn _) (h.lt hn _) fun b=>by
    cases b
    · refine .ask (h.lt hn _) (h.lt hn _) fun c=>?_
      cases c
      · exact ok_desc f h (m + 1) (q + 1)
      · exact .ret h
    · show KOk n _ (if q > 0 then _ else _)
      split
      · exact ok_desc f (h.rev _ _) (m + 1) 0
      · exact ok_desc f h (m + 1) 0
theorem ok_tail3 {p:Array Nat}(h:Ord n p) (a b:Nat):KOk n (fun r=>Ord n r.2) (kas_tail3 a b p):=(ok_asc hn (h.rev 0 a) _ _).bind fun _ _=>.ret (h.rev 0 a)
theorem ok_descPart {p:Array Nat}(h:Ord n p) (a b:Nat):KOk n (fun r=>Ord n r.2) (kas_descPart a b p):=by
  refine (ok_desc hn _ h _ _).bind fun r hr=>?_
  split
  · exact ok_tail3 hn (hr.rev _ _) _ _
  · exact ok_tail3 hn hr _ _
theorem ok_count {p:Array Nat}(h:Ord n p) (b:Nat):KOk n (fun r=>Ord n r.2) (kas_count b p):=by
  refine (ok_asc hn h _ _).bind fun a _=>?_
  split
  · exact .ret h
  · split
    · refine .ask (h.lt hn _) (h.lt hn _) fun c=>?_
      cases c
      · exact ok_descPart hn (h.rev 0 a) _ _
      · exact .ret h
    · exact ok_descPart hn h _ _
theorem ok_place {p:Array Nat}(h:Ord n p) (k:Nat):∀ (f l r:Nat),KOk n (fun _=>True) (kas_place p k f l r)
  | 0,_,_=>.ret trivial
  | f + 1,l,r=>by
    unfold kas_place
    split
    · exact .ret trivial
    · refine .ask (h.lt hn _) (h.lt hn _) fun c=>?_
      cases c
      · exact ok_place h k f _ _
      · exact ok_place h k f _ _
theorem ok_bin:∀ (f:Nat) {p:Array Nat}(_:Ord n p) (k:Nat),KOk n (Ord n) (kas_bin f p k)
  | 0,_,h,_=>.ret h
  | f + 1,_,h,k=>(ok_place hn h k k 0 k).bind fun l _=>ok_bin f (h.bub k (k - l)) (k + 1)
theorem ok_sort:KOk n (Ord n) (kas_sort n):=by
  refine (ok_count hn (p:=List.toArray (List.range n)) (by unfold Ord; exact List.Perm.refl _) n).bind fun r hr=>?_
  split
  · exact ok_bin hn _ hr _
  · exact .ret hr
end
noncomputable def evT {α:Type}(lt:Nat→Nat→Bool):KasT α→α
  | .ret a=>a
  | .ask i j k=>evT lt (k (lt i j))
theorem evT_ok {α:Type}{n:Nat}{P:α→Prop}{lt:Nat→Nat→Bool}{t:KasT α}(h:KOk n P t):P (evT lt t):=by
  induction h with
  | ret h=>exact h
  | ask _ _ _ ih=>exact ih _
theorem evT_wp {α:Type}{n:Nat}{P:α→Prop}{lt:Nat→Nat→Bool}{cmp:Nat→Nat→(Bool→Shared→Prop)→Shared→Prop}{s:Shared}{Q:α→Shared→Prop}{t:KasT α}(h:KOk n P t)
    (hc:∀ i j (C:Bool→Shared→Prop),i < n→j < n→C (lt i j) s→cmp i j C s) (hQ:Q (evT lt t) s):t.kasWp cmp Q s:=by
  induction h with
  | ret h=>exact hQ
  | ask hi hj _ ih=>exact hc _ _ _ hi hj (ih _ hQ)
noncomputable def ltP (a b:Int×Int):Bool:=if a.1=b.1 then decide (a.2 < b.2) else decide (a.1 < b.1)
noncomputable def ordP (ks:List (Int×Int)):List Nat:=if ks.length < 2 then List.range ks.length else (evT (fun i j=>ltP (ks.getD i (0,0)) (ks.getD j (0,0))) (kas_sort ks.length)).toList
theorem ordP_perm (ks:List (Int×Int)):(ordP ks).Perm (List.range ks.length):=by
  unfold ordP
  split
  · exact List.Perm.refl _
  · exact evT_ok (ok_sort (by omega))
noncomputable def srtP (ks:List (Int×Int)):List (Int×Int):=(ordP ks).map fun i=>ks.getD i (0,0)
theorem srtP_perm (ks:List (Int×Int)):(srtP ks).Perm ks:=by
  unfold srtP
  refine ((ordP_perm ks).map _).trans (List.Perm.of_eq ?_)
  apply List.ext_getElem
  · simp
  · intro i h1 h2
    simp [h2]
section
variable {prog:Program}{w:World}{A:Around}{E:Value→Shared→Prop}{s:Shared}{d it:Addr}{es:Array DictEntry}{ep i:Nat}
end
noncomputable def PairAt (h:Heap) (x:Addr) (a:Int×Int):Prop:=∃ o n t u,h.get? x=some o∧o.cls = .type "tuple"∧o.data = .seq #[.int a.1 t,.int a.2 u] n
noncomputable def PairsAt (h:Heap) (vs:List Value) (ks:List (Int×Int)):Prop:=Paired (fun (v:Value) (k:Int×Int)=>∃ x,v = .ref x∧PairAt h x k) vs ks
section
variable {prog:Program}{w:World}{A:Around}{E:Value→Shared→Prop}{s:Shared}
theorem ltP_wp {C:Bool→Shared→Prop}{x y:Addr}{a b:Int×Int}(hx:PairAt s.heap x a) (hy:PairAt s.heap y b) (h:C (ltP a b) s):wpAny (model prog w) A (keyLt' (tuples' true) (.ref x) (.ref y)) C E s:=by
  obtain ⟨ox,nx,t1,t2,gx,_,dx⟩:=hx
  obtain ⟨oy,ny,u1,u2,gy,_,dy⟩:=hy
  refine kat_lt gx dx gy dy (kat_cons (SeqAt.EqAt.int_int a.1 t1 b.1 u1 prog w _ _ ?_))
  unfold ltP at h
  by_cases e1:a.1=b.1
  · rw [if_pos e1] at h
    rw [beq_iff_eq.mpr e1]
    refine kat_yes (kat_cons (SeqAt.EqAt.int_int a.2 t2 b.2 u2 prog w _ _ ?_))
    by_cases e2:a.2=b.2
    · rw [beq_iff_eq.mpr e2]
      refine kat_yes (kat_nil ?_)
      have:decide (a.2 < b.2)=false:=by rw [e2]; simp
      rw [this] at h
      exact h
    · rw [beq_eq_false_iff_ne.mpr e2]
      exact kat_no (kat_one _ _ (lt_int h))
  · rw [if_neg e1] at h
    rw [beq_eq_false_iff_ne.mpr e1]
    exact kat_no (oneLt_int h)
theorem PairsAt.at {h:Heap}:∀ {vs:List Value}{ks:List (Int×Int)},PairsAt h vs ks→∀ {i:Nat},i < vs.length→∃ x,vs.getD i .none = .ref x∧PairAt h x (ks.getD i (0,0))
  | _ :: _,_ :: _,.cons e _,0,_=>e
  | _ :: _,_ :: _,.cons _ r,i + 1,hi=>by
    obtain ⟨x,h1,h2⟩:=PairsAt.at r (i:=i) (by simpa using hi)
    exact ⟨x,by simpa using h1,by simpa using h2⟩
theorem PairsAt.len {h:Heap}{vs:List Value}{ks:List (Int×Int)}(p:PairsAt h vs ks):vs.length=ks.length:=Paired.length p
theorem PairsAt.kp {h h':Heap}{vs:List Value}{ks:List (Int×Int)}(p:PairsAt h vs ks) (k:∀ x o,h.get? x=some o→o.cls = .type "tuple"→h'.get? x=some o):PairsAt h' vs ks :=
  Paired.mapP p fun _ _ ⟨x,e,o,n,t,u,g,c,d⟩=>⟨x,e,o,n,t,u,k x o g c,c,d⟩
theorem PairsAt.kat {h:Heap}:∀ {vs:List Value}{ks:List (Int×Int)},PairsAt h vs ks→∃ fs,KatTups h vs fs∧fs.length=vs.length∧∀ v ∈ fs,∃ i t,v=Value.int i t
  | [],[],.nil=>⟨[],KatTups.nil,rfl,fun _ hv=>by cases hv⟩
  | _ :: _,_ :: _,.cons e r=>by
    obtain ⟨fs,h1,h2,h3⟩:=PairsAt.kat r
    obtain ⟨x,rfl,o,n,t,u,g,c,d⟩:=e
    exact ⟨.int _ t :: fs,KatTups.cons g c d rfl h1,by simp [h2],fun v hv=>by
      rcases List.mem_cons.mp hv with rfl | hv
      · exact ⟨_,_,rfl⟩
      · exact h3 v hv⟩
theorem getD_range (vs:List Value):(List.range vs.length).map (fun i=>vs.getD i Value.none)=vs:=by
  apply List.ext_getElem
  · simp
  · intro i h1 h2; simp [h2]
theorem pairs_sort {a:Addr}{vs:List Value}{ks:List (Int×Int)}{n:Nat}{P:PySem.Fin→Shared→Prop}(ho:s.heap.get? a=some (seqObj "list" vs.toArray n)) (hp:PairsAt s.heap vs ks) (h64:vs.length < 64)
    (h:P (.done (.ret .none)) { s with heap:=sortedHeap s.heap a vs ((ordP ks).map fun i=>vs.getD i Value.none).toArray }):wpAny (model prog w) A (Builtin.«list.sort» ⟨[.ref a],[]⟩) P E s:=by
  rw [list_sort_plain]
  have la:a < s.heap.objs.size:=Heap.lt_size ho
  refine wpAny_bind (listItems_at ho rfl (wpAny_bind (listUpdate_at ho rfl ?_ (by rw [List.size_toArray,sizeLine_eq]; omega) (Nat.zero_le _))))
  obtain ⟨ev,hv⟩:∃ ev,(s.heap.update a (Obj.mapSeq fun _=>#[])).get? a=some (seqObj "list" #[] ev):=⟨_,get?_update_seq ho (fun _=>#[])⟩
  refine wpAny_bind (seqEpoch_at hv rfl (wpAny_bind (wpAny_newTuple ?_ (by show vs.length ≤ _; rw [sizeLine_eq]; omega))))
  refine wpAny_bind (wpAny_newList (wpAny_holding ?_) (Nat.zero_le _))
  have gv:(((s.heap.update a (Obj.mapSeq fun _=>#[])).push (seqObj "tuple" vs.toArray 0)).push (seqObj "list" #[] 0)).get? a=some (seqObj "list" #[] ev):=by
    rw [Heap.get?_push_ne _ _ _ (by rw [size_push',Heap.size_update]; exact Nat.ne_of_lt (Nat.lt_succ_of_lt la)),Heap.get?_push_ne _ _ _ (by rw [Heap.size_update]; exact Nat.ne_of_lt la)]
    exact hv
  have hp6:PairsAt (((s.heap.update a (Obj.mapSeq fun _=>#[])).push (seqObj "tuple" vs.toArray 0)).push (seqObj "list" #[] 0)) vs ks:=hp.kp fun x o g c=>by
    have ne:x ≠ a:=by
      rintro rfl
      rw [ho] at g; cases g
      exact absurd (show Value.type "list" = Value.type "tuple" from c) (by decide)
    exact Heap.get?_push_of_some _ (Heap.get?_push_of_some _ (by rw [Heap.get?_update_ne _ _ _ _ ne]; exact g))
  show wpAny (model prog w) A _ P E { s with heap:=((s.heap.update a (Obj.mapSeq fun _=>#[])).push (seqObj "tuple" vs.toArray 0)).push (seqObj "list" #[] 0) }
  unfold sortedHeap at h
  generalize ((s.heap.update a (Obj.mapSeq fun _=>#[])).push (seqObj "tuple" vs.toArray 0)).push (seqObj "list" #[] 0)=h6 at gv hp6 h ⊢
  dsimp only
  have lk:=hp.len
  by_cases h2:vs.toArray.size < 2
  · rw [if_pos h2,if_pos h2]
    rw [List.size_toArray] at h2
    refine wpAny_bind (wpAny_pure ?_)
    rw [StateT.run_pure]
    refine wpAny_bind (wpAny_pure (show wpAny (model prog w) A (seqEpoch a >>= _) P E { s with heap:=h6 } from ?_))
    have e0:(arrOf (SortSt.mk' general' (vs.toArray.zip vs.toArray) #[] 7 none)).map (·.2)=((ordP ks).map fun i=>vs.getD i Value.none).toArray:=by
      have:ordP ks=List.range vs.length:=by unfold ordP; rw [if_pos (by omega),lk]
      rw [this,getD_range]
      show (vs.toArray.zip vs.toArray).map (·.2)=vs.toArray
      apply Array.ext
      · simp
      · intro i h1 h2; simp
    refine wpAny_bind (seqEpoch_at gv rfl (wpAny_bind ?_))
    rw [e0]
    refine listUpdate_at gv rfl ?_ (Nat.zero_le _) (by simp only [List.size_toArray,List.length_map]; rw [(ordP_perm ks).length_eq,List.length_range,sizeLine_eq]; omega)
    simp only [bne_self_eq_false,Bool.false_eq_true,if_false]
    exact wpAny_pure h
  · rw [if_neg h2,if_neg h2]
    rw [List.size_toArray] at h2
    obtain ⟨fs,k1,k2,k3⟩:=hp6.kat
    refine wpAny_bind (kat_kind (s:={ s with heap:=h6 }) (T:=.type "int") k1 (by omega) (fun v hv=>?_) (by decide) ?_)
    · obtain ⟨i,t,rfl⟩:=k3 v hv
      exact Looks.of_pure rfl
    show wpAny (model prog w) A ((sortRuns').run (SortSt.mk' (tuples' true) (vs.toArray.zip vs.toArray) #[] 7 none) >>= _) P E { s with heap:=h6 }
    refine wpAny_bind (wpAny_mono (kat_run (s:={ s with heap:=h6 }) (Q:=fun st' s'=>s' = { s with heap:=h6 }∧(arrOf st').map (·.2)=((ordP ks).map fun i=>vs.getD i Value.none).toArray∧failedOf st'=none)
      (G:=fun p s'=>s' = { s with heap:=h6 }∧p.toList=ordP ks) rfl (by omega) h64 (fun p st' s' q1 q2 q3 q4=>⟨q4.1,by rw [kat_snds rfl q2,q4.2],q3⟩) ?_) ?_ fun _ _ e=>e)
    · refine evT_wp (lt:=fun i j=>ltP (ks.getD i (0,0)) (ks.getD j (0,0))) (ok_sort (n:=vs.length) (by omega)) (fun i j C hi hj hC=>?_) ⟨rfl,?_⟩
      · obtain ⟨x,ex,px⟩:=hp6.at hi
        obtain ⟨y,ey,py⟩:=hp6.at hj
        unfold kas_ask
        rw [ex,ey]
        exact ltP_wp (s:={ s with heap:=h6 }) px py hC
      · unfold ordP
        rw [if_neg (by omega),lk]
    · rintro ⟨⟨⟩,st'⟩ s' ⟨rfl,q2,q3⟩
      dsimp only
      rw [q2,q3]
      refine wpAny_bind (seqEpoch_at gv rfl (wpAny_bind (listUpdate_at gv rfl ?_ (Nat.zero_le _) (by simp only [List.size_toArray,List.length_map]; rw [(ordP_perm ks).length_eq,List.length_range,sizeLine_eq]; omega))))
      simp only [bne_self_eq_false,Bool.false_eq_true,if_false]
      exact wpAny_pure h
end
theorem pair_at {X:Cx}{pins:List (Addr×Obj)}{σ:St}{H:Hp}{s:Shared}{a:Addr}{k:Int×Int}(I:Inv X pins σ H s) (e:H a=some (.tup [.int k.1,.int k.2])):PairAt s.heap a k:=by
  obtain ⟨_,its,r,o,g,c,n,d⟩:=(show ObjOk X.prog X.w H s.heap a (.tup [.int k.1,.int k.2]) from I.hok a _ e)
  cases r with
  | cons r1 r =>
    cases r with
    | cons r2 r =>
      cases r
      obtain ⟨t,rfl⟩:=r1
      obtain ⟨u,rfl⟩:=r2
      exact ⟨o,n,t,u,g,c,d⟩
theorem paired_at {α β:Type}{R:α→β→Prop}:∀ {xs:List α}{ys:List β},Paired R xs ys→∀ {i:Nat}{y:β},ys[i]? = some y→∃ x,xs[i]? = some x∧R x y
  | _,_,.cons h _,0,y,e=>by simp at e; subst e; exact ⟨_,rfl,h⟩
  | _,_,.cons _ r,i + 1,y,e=>by simpa using paired_at r (by simpa using e)
  | _,_,.nil,_,_,e=>by simp at e
theorem paired_of {α β:Type}{R:α→β→Prop}:∀ {xs:List α}{ys:List β},xs.length=ys.length→(∀ (i:Nat) (x:α) (y:β),xs[i]? = some x→ys[i]? = some y→R x y)→Paired R xs ys
  | [],[],_,_=>.nil
  | x :: xs,y :: ys,e,h=>.cons (h 0 x y rfl rfl) (paired_of (by simpa using e) fun i a b h1 h2=>h (i + 1) a b (by simpa using h1) (by simpa using h2))
section
variable {X:Cx}{CX:CXT}{k:Nat}{f C:Addr}{fd:FuncData}{ps:List Str}{sp:Sp}{E:XK}
theorem run_fnA {A:Around}{pins:List (Addr×Obj)}{σ:St}{H:Hp}{s:Shared}{Q:VK}{us:List Value}{vs:List V}(F:FnOk X.prog X.w X.K X.mg X.base CX k f fd ps sp) (hr:Room k A) (e0:Env0 X.prog X.w X.K X.mg X.base A X.stack s H) (hb:Binds X.K fd ps [])
    (hx:Passes CX X E) (I:Inv X pins σ H s) (r:Vals vs us) (h:sp vs H Q E):wpAny (model X.prog X.w) A (call (.ref f) us) (EP X pins σ Q) X.xe s:=by
  have hl:(us ++ []).length=ps.length:=by rw [List.append_nil,← r.length]; exact F.len _ _ _ _ h
  refine wpAny_call (codeAny_mono (F.run A X.stack s H ⟨us,[]⟩ (us ++ []) vs Q E hr e0 (hb s us I.kIn hl) (by rw [List.append_nil]; exact r) h) fun r s' hq=>?_)
  cases r with
  | error e=>exact hx pins σ H s e s' I hq
  | ok fl =>
    cases fl with
    | ret u=>exact I.after hq
    | next=>exact hq.elim
    | brk=>exact hq.elim
    | cont=>exact hq.elim
noncomputable def rLenO (C:Addr) (sp:Sp) (E:XK):TR:=fun xs H Q=>∃ a dx fs,xs = [.ref a]∧H a=some (.ins C dx fs)∧sp [.ref a] H (fun v H'=>∃ n:Int,v = .int n∧0 ≤ n∧n < 2 ^ 63∧Q (.int n) H') E
theorem cn_lenO (hm:Meth X.K C "__len__" f) (F:FnOk X.prog X.w X.K X.mg X.base CX k f fd ps sp) (hr:Room (k + 1) X.A) (hb:Binds X.K fd ps []) (hx:Passes CX X E):CallR X (.builtin "len") (rLenO C sp E):=by
  intro pins s σ H xs us Q I r h
  obtain ⟨a,dx,fs,rfl,ha,q⟩:=h
  obtain ⟨u,rfl,ru⟩:=vals1 r
  cases ru
  obtain ⟨mA,O,_⟩:=ins_get I.hok ha
  obtain ⟨od,In,_⟩:=O.look
  refine Calls.call_function_entry kind_len plain_len entry_len (args_len1 _) ?_
  unfold Builtin.«len»
  refine wpAny_bind (m:=oneArg "len" _) (wpAny_pure (wpAny_bind (m:=callSpecial? (.ref a) (Str.ofString "__len__")) ?_))
  refine special_fn I.kIn In hm.at_ (beq_iff_eq.mp hm.fn) (thn (run_fnA (us:=[.ref a]) (vs:=[.ref a]) F hr.in1 I.env0.in1 hb hx I (.cons rfl .nil) q) ?_)
  rintro u s1 ⟨v,H1,I1,rv,n,rfl,n0,n1,q1⟩
  obtain ⟨t,rfl⟩:=rv
  refine wpAny_bind (wpAny_holding (wpAny_pure (wpAny_bind (wpAny_letGo ?_))))
  show wpAny _ _ (if n < 0 then _ else _) _ _ s1
  rw [if_neg (by omega)]
  show wpAny _ _ (if n ≥ 2 ^ 63 then _ else _) _ _ s1
  rw [if_neg (by omega)]
  exact wpAny_bind (wpAny_mkInt (wpAny_pure ⟨_,rfl,.int n,H1,I1.tok _,⟨_,rfl⟩,q1⟩))
end
section
variable {prog:Program}{w:World}{A:Around}{E:Value→Shared→Prop}{s:Shared}{K:Frag}{x C:Addr}{ox:Obj}{od:Option Obj}{f:Addr}{b tb:Value}
theorem cmpO {op:CmpOp}{Q:Value→Shared→Prop}(hu:A.units < cLine) (X:K.In s.heap) (I:InstAt s.heap x ox C od) (hb:Looks (model prog w) s.heap (typeOf b) tb) (hn:notFirst K C tb=true)
    (one:wpAny (model prog w) A (tryCompare (.ref x) (cmpInfo op).2.1 b) (fun r s'=>∃ v,r=some v∧Q v s') E s):wpAny (model prog w) A (richCompare op (.ref x) b) Q E s:=by
  unfold richCompare
  simp only [oneThing_ref]
  refine wpAny_holding (wpAny_bind (wpAny_cRoomFor hu (wpAny_bind (I.type.here (wpAny_bind (hb.here ?_))))))
  split
  · rename_i q
    have e:subIn K tb (.ref C)=some false:=by
      rcases Bool.or_eq_true_iff.mp hn with e | e
      · rw [beq_iff_eq.mp e] at q; simp at q
      · exact beq_iff_eq.mp e
    refine wpAny_bind ((looks_subIn X e).here (?_))
    simp only [Bool.false_eq_true,if_false]
    exact wpAny_bind (wpAny_mono one (fun r s' z=>by obtain ⟨v,rfl,hq⟩:=z; exact wpAny_pure hq) fun _ _ e=>e)
  · refine wpAny_bind (wpAny_pure (?_))
    simp only [Bool.false_eq_true,if_false]
    exact wpAny_bind (wpAny_mono one (fun r s' z=>by obtain ⟨v,rfl,hq⟩:=z; exact wpAny_pure hq) fun _ _ e=>e)
theorem eqO {Q:Value→Shared→Prop}(hu:A.units < cLine) (X:K.In s.heap) (I:InstAt s.heap x ox C od) (hb:Looks (model prog w) s.heap (typeOf b) tb) (hn:notFirst K C tb=true) (hs:findIn K (.ref C) "__eq__" = some (some (.ref f))) (hf:isFn K (.ref f)=true)
    (h:wpAny (model prog w) A (call (.ref f) [.ref x,b]) (fun v s'=>∃ k,v = .bool k∧Q (.bool k) s') E s):wpAny (model prog w) A (compareOp .Eq (.ref x) b) Q E s:=by
  refine cmp_ofEq (cmpO hu X I hb hn ?_)
  unfold tryCompare
  refine wpAny_bind (ifBound_K X I hs hf (wpAny_mono h (fun v s' hv=>?_) fun _ _ e=>e))
  obtain ⟨k,rfl,hq⟩:=hv
  exact wpAny_pure ⟨_,rfl,hq⟩
theorem neO {Q:Value→Shared→Prop}(hu:A.units + 1 < cLine) (X:K.In s.heap) (I:InstAt s.heap x ox C od) (hb:Looks (model prog w) s.heap (typeOf b) tb) (hn:notFirst K C tb=true) (po:plainOver K C=true) (hne:findIn K (.ref C) "__ne__" = some (some (.builtin "object.__ne__")))
    (hs:findIn K (.ref C) "__eq__" = some (some (.ref f))) (hf:isFn K (.ref f)=true)
    (h:wpAny (model prog w) A.in1 (call (.ref f) [.ref x,b]) (fun v s'=>∃ k,v = .bool k∧Q (.bool (!k)) s') E s):wpAny (model prog w) A (compareOp .NotEq (.ref x) b) Q E s:=by
  refine cmp_ofNotEq (cmpO (by omega) X I hb hn ?_)
  have SF:=PySem.F.slot_object_ne
  obtain ⟨cd,hc,ho⟩:=any_some po
  have nem:cd.mro.isEmpty=false:=by cases q:cd.mro with | nil=>rw [q] at ho; cases ho | cons _ _=>rfl
  have sub:Looks (model prog w) s.heap (isInstance (.ref x) (.type "object")) true:=I.type.andThen (looks_mroIn X (by unfold mroIn; rw [hc,Option.bind_some,if_neg (by rw [nem]; decide),only_has ho]))
  have body:wpAny (model prog w) A (call (.builtin "object.__ne__") [.ref x,b]) (fun v s'=>∃ k,v = .bool k∧Q (.bool k) s') E s:=by
    refine wpAny_call (codeAny_call_builtin SF.plain PySem.F.entry_object_ne (check_slot (i:="object.__ne__") (owner:="object") (n:="__ne__") (by decide +kernel) (by decide +kernel) sub (PySem.F.args_object_ne_2 _ _) ?_))
    show wpAny _ _ (Builtin.«object.__ne__» ⟨[.ref x,b],[]⟩) _ _ _
    unfold Builtin.«object.__ne__»
    refine wpAny_bind (m:=slotArgs "__ne__" 1 _) (wpAny_pure (wpAny_bind (wpAny_cRoomFor hu ?_)))
    refine wpAny_bind (ifBound_K X I hs hf (wpAny_mono h (fun v s' hv=>?_) fun _ _ e=>e))
    obtain ⟨k,rfl,hq⟩:=hv
    exact wpAny_bind (wpAny_truthy_bool (wpAny_pure ⟨_,rfl,hq⟩))
  unfold tryCompare
  refine wpAny_bind ?_
  simp only [callSpecialIfBound?,bindSpecialIfBound?]
  refine wpAny_holding (wpAny_bind (wpAny_bind (wpAny_bind (I.type.here ((looks_findIn X hne).here ?_)))))
  refine wpAny_bind (wpAny_askSetting (wpAny_ite ?_))
  have go:wpAny (model prog w) A (call (.builtin "object.__ne__") ([.ref x] ++ [b]) >>= fun v=>pure (some v)) (fun r s'=>wpAny (model prog w) A (match r with | some Value.notImplemented | none=>pure none | some v=>pure (some v)) (fun r s'=>∃ v,r=some v∧Q v s') E s') E s :=
    wpAny_bind (wpAny_mono body (fun v s' hv=>by obtain ⟨k,rfl,hq⟩:=hv; exact wpAny_pure (wpAny_pure ⟨_,rfl,hq⟩)) fun _ _ e=>e)
  split
  · rw [SF.bind]
    exact wpAny_bind (wpAny_pure (wpAny_pure (by exact go)))
  · rw [SF.bind]
    exact wpAny_tryCatch (wpAny_bind (wpAny_pure (wpAny_pure (by exact go))))
end
noncomputable def OthK (K:Frag) (C:Addr) (y:V) (H:Hp):Prop:=∃ b,y = .ref b∧((∃ dx fs,H b=some (.ins C dx fs))∨((∃ ys,SqT K H b ys)∧notFirst K C (.type "tuple")=true)∨((∃ kvs,H b=some (.dT kvs))∧notFirst K C (.type "dict")=true))
noncomputable def rEqO (K:Frag) (C:Addr) (sp:Sp) (E:XK):R2:=fun x y H Q=>∃ a dx fs,x = .ref a∧H a=some (.ins C dx fs)∧OthK K C y H∧sp [x,y] H (fun v H'=>∃ k,v = .bl k∧Q (.bl k) H') E
noncomputable def rNeO (K:Frag) (C:Addr) (sp:Sp) (E:XK):R2:=fun x y H Q=>∃ a dx fs,x = .ref a∧H a=some (.ins C dx fs)∧OthK K C y H∧sp [x,y] H (fun v H'=>∃ k,v = .bl k∧Q (.bl (!k)) H') E
section
variable {X:Cx}{CX:CXT}{k:Nat}{f C:Addr}{fd:FuncData}{ps:List Str}{sp:Sp}{E:XK}
theorem oth_looks {pins:List (Addr×Obj)}{σ:St}{H:Hp}{s:Shared}{y:V}{u:Value}(I:Inv X pins σ H s) (ry:RelV y u) (h:OthK X.K C y H):∃ tb,Looks (model X.prog X.w) s.heap (typeOf u) tb∧notFirst X.K C tb=true:=by
  obtain ⟨b,rfl,h⟩:=h
  cases ry
  rcases h with ⟨dx,fs,h⟩ | ⟨⟨ys,h⟩,hn⟩ | ⟨⟨kvs,h⟩,hn⟩
  · obtain ⟨mA,O,_⟩:=ins_get I.hok h
    obtain ⟨od,In,_⟩:=O.look
    exact ⟨_,In.type,by unfold notFirst; simp⟩
  · obtain ⟨its,_,⟨o,ho,hc,_⟩,_⟩:=I.tuple h
    exact ⟨_,hc ▸ (Looks.ld ho).andThen .now,hn⟩
  · obtain ⟨_,_,_,_,o,_,_,ho,hc,_⟩:=(show ObjOk X.prog X.w H s.heap b (.dT kvs) from I.hok b _ h)
    exact ⟨_,hc.1 ▸ (Looks.ld ho).andThen .now,hn⟩
theorem on_eqO (hm:Meth X.K C "__eq__" f) (F:FnOk X.prog X.w X.K X.mg X.base CX k f fd ps sp) (hr:Room k X.A) (hb:Binds X.K fd ps []) (hx:Passes CX X E):OpR X (compareOp .Eq) (rEqO X.K C sp E):=by
  intro pins s σ H x y v u Q I rx ry h
  obtain ⟨a,dx,fs,rfl,ha,ho,q⟩:=h
  cases rx
  obtain ⟨mA,O,_⟩:=ins_get I.hok ha
  obtain ⟨od,In,_⟩:=O.look
  obtain ⟨tb,lb,nb⟩:=oth_looks I ry ho
  refine eqO hr.units0 I.kIn In lb nb hm.at_ hm.fn (thn (run_fnA (us:=[.ref a,u]) (vs:=[.ref a,y]) F hr I.env0 hb hx I (.cons rfl (.cons ry .nil)) q) ?_)
  rintro u s1 ⟨v,H1,I1,rv,k,rfl,q1⟩
  cases rv
  exact ⟨k,rfl,.bl k,H1,I1,rfl,q1⟩
theorem on_neO (c:Cls X.K C) (hne:findIn X.K (.ref C) "__ne__" = some (some (.builtin "object.__ne__"))) (hm:Meth X.K C "__eq__" f) (F:FnOk X.prog X.w X.K X.mg X.base CX k f fd ps sp) (hr:Room (k + 1) X.A) (hb:Binds X.K fd ps []) (hx:Passes CX X E) :
    OpR X (compareOp .NotEq) (rNeO X.K C sp E):=by
  intro pins s σ H x y v u Q I rx ry h
  obtain ⟨a,dx,fs,rfl,ha,ho,q⟩:=h
  cases rx
  obtain ⟨mA,O,_⟩:=ins_get I.hok ha
  obtain ⟨od,In,_⟩:=O.look
  obtain ⟨tb,lb,nb⟩:=oth_looks I ry ho
  refine neO (hu_of hr) I.kIn In lb nb c.po hne hm.at_ hm.fn (thn (run_fnA (us:=[.ref a,u]) (vs:=[.ref a,y]) F hr.in1 I.env0.in1 hb hx I (.cons rfl (.cons ry .nil)) q) ?_)
  rintro u s1 ⟨v,H1,I1,rv,k,rfl,q1⟩
  cases rv
  exact ⟨k,rfl,.bl (!k),H1,I1,rfl,q1⟩
end
noncomputable abbrev Ent:=(Int×Int)×Addr×(Int×Int)
noncomputable def kP (k:Int×Int):List Key:=[.inl k.1,.inl k.2]
noncomputable def bkD (fs:List Ent):List (List Key×V):=fs.map fun q=>(kP q.1,.ref q.2.1)
structure PB (H:Hp) (d:Addr) (fs:List Ent):Prop where
  dc:H d=some (.dT (bkD fs))
  vl:∀ q ∈ fs,H q.2.1=some (.tup [.int q.2.2.1,.int q.2.2.2])
  nd:(fs.map (·.1)).Nodup
section
variable {X:Cx}
end
structure IsO (K:Frag) (C:Addr):Prop where
  cl:Cls K C
  cc:findIn K (.ref C) "__class__" = some (some (.builtin "object.__class__"))
  cg:specialIn K (.builtin "object.__class__") "__get__" = some (some (.builtin "getset_descriptor.__get__"))
  ct:takesIn K (.builtin "object.__class__")=some true
  cm:mroIn K C (.type "object")=some true
noncomputable def rIsiO (K:Frag):TR:=fun xs H Q=>∃ a B C b,xs = [.ref a,.ref B]∧((∃ dx fs,H a=some (.ins C dx fs)∧IsO K C∧kitOne K (.ref C) (.ref B)=some b)∨((∃ ys,SqT K H a ys)∧kitOne K (.type "tuple") (.ref B)=some b)∨((∃ kvs,H a=some (.dT kvs))∧kitOne K (.type "dict") (.ref B)=some b))∧Q (.bl b) H
theorem cn_isiO {X:Cx}:CallR X (.builtin "isinstance") (rIsiO X.K):=by
  intro pins s σ H xs us Q I r h
  obtain ⟨a,B,C,b,rfl,ty,q⟩:=h
  obtain ⟨u,w,rfl,ru,rw_⟩:=vals2 r
  cases ru
  cases rw_
  have fin:∀ tk,EP X pins σ Q (.bool b) { s with toks:=tk }:=fun tk=>⟨.bl b,H,I.tok tk,rfl,q⟩
  rcases ty with ⟨dx,fs,ha,o,e⟩ | ⟨⟨ys,hq⟩,e⟩ | ⟨⟨kvs,hd⟩,e⟩
  · obtain ⟨mA,O,_⟩:=ins_get I.hok ha
    obtain ⟨od,In,_⟩:=O.look
    exact kia_one (kitx_own (o.cl.get _) o.cl.hd o.cc o.cg o.ct o.cm) I.kIn In e (fun z=>nomatch z) fin
  · obtain ⟨its,_,⟨o,e1,e2,_⟩,_⟩:=I.tuple hq
    exact kia_one kitx_tuple I.kIn ⟨o,e1,e2⟩ e (fun z=>nomatch z) fin
  · obtain ⟨_,_,_,_,o,_,_,h1,h2,_⟩:=(show ObjOk X.prog X.w H s.heap a (.dT kvs) from I.hok a _ hd)
    exact kia_one kitx_dict I.kIn ⟨o,h1,h2.1⟩ e (fun z=>nomatch z) fin
section
variable {X:Cx}
noncomputable def tMethX (C:Addr) (m:Str) (sp:Sp) (dvs:List V) (XR:St→XK) (ta:TE) (t:TA):TE:=fun σ H Q=>ta σ H fun x H1=>∃ a dx fs,x = .ref a∧H1 a=some (.ins C dx fs)∧fs.lookup m=none∧t σ H1 fun vs H2=>sp (x :: (vs ++ dvs)) H2 Q (XR σ)
theorem qe_methX {e o:Expr}{es:List Expr}{ta:TE}{t:TA}{pos apos:Pos}{k:Nat}{fa C:Addr}{fd:FuncData}{ps:List Str}{sp:Sp}{XR:St→XK}{m:Str}{pl:Sem Bool}(he:PE X o ta) (c:Cls X.K C) (hm:Meth X.K C m fa) (F:FnOk X.prog X.w X.K X.mg X.base (CX1 X.prog X.w) k fa fd ps sp) (hr:Room k X.A) (hb:Binds X.K fd ps []) (hx:Px X XR) (ha:PAs X (e :: es) t)
    (h1:notStar e=true) (h2:noStars es=true)
    (ht:eval (.Call (.Attribute o m apos) (e :: es) [] pos) X.env=(do
      let ov ← eval o X.env
      standAt apos.atName
      let (f,first) ← holding [ov] (getMethod ov m pl)
      callWith pos f first (backTo pos (starEach (e :: es) X.env)) (backToKw pos (keywordEach [] X.env)))) :
    PE X (.Call (.Attribute o m apos) (e :: es) [] pos) (tMethX C m sp [] XR ta t):=by
  intro pins s σ H Q I h
  refine PySem.W.methodCall_KW (pl:=pl) (thn (he pins s σ H _ I h) fun u s1 ⟨x,H1,I1,rx,a,dx,fs,ex,ea,l,q⟩=>?_) ht
  subst ex
  obtain rfl:u=Value.ref a:=rx
  refine getmeth_ok I1 ea c hm l ?_
  refine PySem.W.callWith_K (first:=[.ref a]) (h₀:=X.base) I1.ok.mod.kin hm.kp (thn (ha.run pos pins s1 σ H1 _ I1 q) fun us s2 ⟨vs,H2,I2,r2,q2⟩=>⟨I2.kIn,?_⟩) (star_ne h1) (stars_any h2)
  exact run_fnX (us:=.ref a :: us) (vs:=.ref a :: vs) (dvs:=[]) (ds:=[]) F hr hb .nil hx I2 (.cons rfl r2) (by simpa using q2)
theorem rd_methX {C:Addr}{m:Str}{sp:Sp}{dvs:List V}{XR:St→XK}{ta:TE}{t:TA}{σ:St}{H:Hp}{Q:VK}(h:ta σ H fun x H1=>∃ a dx fs,x = .ref a∧H1 a=some (.ins C dx fs)∧fs.lookup m=none∧t σ H1 fun vs H2=>sp (x :: (vs ++ dvs)) H2 Q (XR σ)):tMethX C m sp dvs XR ta t σ H Q:=h
end
theorem for_zipLW {K:PySem.W.Frag}{a b:Addr}{xs ys:List V}{g:TG}{tb:TS}{D:Ends}{σ:St}{H:Hp}(hxy:xs.length=ys.length) (Pv:Nat→St→Hp→Prop) (h0:Pv 0 σ H) (hl:∀ i σ H,i ≤ xs.length→Pv i σ H→SqL K H a xs∧SqL K H b ys)
    (hs:∀ i x y p σ H,xs[i]? = some x→ys[i]? = some y→H p=none→Pv i σ H→g (.ref p) σ (upd H p (.tup [x,y])) fun σ2 H2=>tb { D with nx:=Pv (i + 1),ct:=Pv (i + 1),bk:=D.nx } σ2 H2) (hd:∀ σ H,Pv xs.length σ H→D.nx σ H):ForW (ItzL K a b) g tb D σ H:=by
  refine ⟨fun i m σ H=>m=xs.length - i∧i ≤ xs.length∧Pv i σ H,⟨xs.length,by simp,Nat.zero_le _,h0⟩,?_⟩
  rintro i m σ H ⟨rfl,hi,p⟩
  obtain ⟨q1,q2⟩:=hl i σ H hi p
  by_cases hlt:i < xs.length
  · refine .inr ⟨⟨xs,ys,xs[i],ys[i],q1,q2,by simp [hlt],by simp⟩,Pv (i + 1),fun σ' H' p'=>⟨xs.length - (i + 1),by omega,rfl,hlt,p'⟩,?_⟩
    rintro x H' ⟨r,x1,y1,hn,hx,hy,rfl,rfl⟩
    exact hs i x1 y1 r σ _ (hx xs q1) (hy ys q2) hn p
  · have e:i=xs.length:=by omega
    subst e
    exact .inl ⟨⟨xs,ys,q1,q2,.inl (Nat.le_refl _)⟩,hd σ H p⟩
noncomputable abbrev Sv4:=(Int×Int)×(Int×Int)
noncomputable def vw4 (fs:List Ent):List Sv4:=fs.map fun q=>(q.1,q.2.2)
noncomputable def bkF (d:Addr):List (Str×V):=putF "sayings" (.ref d) []
structure BkAt (C:Addr) (H:Hp) (p d:Addr) (fs:List Ent):Prop where
  ob:∃ dx,H p=some (.ins C dx (bkF d))
  pb:PB H d fs
theorem ext_kind {H H':Hp}{st c r:Addr}{m:Nat}{b:Addr}{o:HO}(D:Dk H st c r m) (x:Ext [st,r] H H') (hb:H b=some o) (ho:∀ xs,o ≠ .lst xs):H' b=some o:=by
  obtain ⟨cs,rs,n,h1,h2,h3,_⟩:=D.ex
  refine x b o hb ?_
  simp only [List.mem_cons,List.not_mem_nil,or_false,not_or]
  exact ⟨ne_of hb h1 (ho _),ne_of hb h3 (ho _)⟩
noncomputable def okS (q:Sv4):Prop:=0 ≤ q.1.1∧q.1.1 ≤ 7∧0 ≤ q.1.2∧q.1.2 ≤ 1000000000∧0 ≤ q.2.1∧q.2.1 ≤ 1000000∧0 ≤ q.2.2∧q.2.2 ≤ q.2.1
noncomputable def mx (a b:Int):Int:=if b > a then b else a
theorem av3 {x y z:Int}{j:Int}(h0:0 ≤ j) (h1:j < 3):∃ v,atI [V.int x,V.int y,V.int z] j=some (V.int v)∧(v=x∨v=y∨v=z):=by
  obtain ⟨n,rfl⟩:=Int.eq_ofNat_of_zero_le h0
  match n,h1 with
  | 0,_=>exact ⟨_,rfl,.inl rfl⟩
  | 1,_=>exact ⟨_,rfl,.inr (.inl rfl)⟩
  | 2,_=>exact ⟨_,rfl,.inr (.inr rfl)⟩
noncomputable def LastOk (H:Hp) (ls:List V):Prop:=∀ v ∈ ls,∃ (t:Addr) (q:Sv4),v = .ref t∧H t=some (.tup [.int q.1.1,.int q.1.2,.int q.2.1,.int q.2.2])∧okS q
theorem LastOk.map {H H':Hp}{ls:List V}(h:LastOk H ls) (f:∀ t xs,H t=some (.tup xs)→H' t=some (.tup xs)):LastOk H' ls:=fun v hv=>by
  obtain ⟨t,q,e,g,ok⟩:=h v hv
  exact ⟨t,q,e,f _ _ g,ok⟩
noncomputable def NL (H H':Hp):Prop:=∀ b o,H b=some o→(∀ xs,o ≠ .lst xs)→H' b=some o
theorem nl_dk {H H':Hp}{st c r:Addr}{m:Nat}(D:Dk H st c r m) (x:Ext [st,r] H H'):NL H H':=fun _ _ hb ho=>ext_kind D x hb ho
theorem nl_upd {H:Hp}{la:Addr}{xs:List V}{o:HO}(h:H la=some (.lst xs)):NL H (upd H la o):=fun b u e ho=>by rw [upd_ne (ne_of e h (ho _))]; exact e
theorem NL.same {H H':Hp}(s:Same H H'):NL H H':=fun b o e _=>s b o e
theorem NL.trans {H H1 H2:Hp}(a:NL H H1) (b:NL H1 H2):NL H H2:=fun c o e ho=>b c o (a c o e ho) ho
theorem lst_dict {H H':Hp}{l e:Addr}{ls:List V}{kvs:List (List Key×V)}(h:H l=some (.lst ls)) (x:Ext [e] H H') (he:H e=some (.dT kvs)):H' l=some (.lst ls):=x _ _ h (by simpa using ne_of h he (by intro z; cases z))
theorem Dk.dict {H H':Hp}{st c r e:Addr}{m:Nat}{kvs:List (List Key×V)}(D:Dk H st c r m) (x:Ext [e] H H') (he:H e=some (.dT kvs)):Dk H' st c r m:=by
  obtain ⟨cs,rs,n,w1,w2,w3,w⟩:=D.ex
  exact ⟨cs,rs,n,lst_dict w1 x he,lst_dict w2 x he,lst_dict w3 x he,w⟩
theorem Ext.sub {N M:List Addr}{H H':Hp}(x:Ext N H H') (h:∀ a ∈ N,a ∈ M):Ext M H H':=fun b o e n=>x b o e fun z=>n (h _ z)
theorem pigeon {α:Type}[DecidableEq α]:∀ {l m:List α},l.Nodup→(∀ x ∈ l,x ∈ m)→m.length ≤ l.length→∀ x ∈ m,x ∈ l
  | [],m,_,_,hl,x,hx=>by
    have:m = []:=List.eq_nil_of_length_eq_zero (by simpa using hl)
    subst this; cases hx
  | a :: l,m,nd,hs,hl,x,hx=>by
    have ha:a ∈ m:=hs a (List.mem_cons_self ..)
    by_cases e:x=a
    · subst e; exact List.mem_cons_self ..
    · have nd':=List.nodup_cons.mp nd
      refine List.mem_cons_of_mem _ (pigeon (m:=m.erase a) nd'.2 (fun y hy=>?_) ?_ x ((List.mem_erase_of_ne e).mpr hx))
      · exact (List.mem_erase_of_ne (fun z=>nd'.1 (by rw [← z]; exact hy))).mpr (hs y (List.mem_cons_of_mem _ hy))
      · rw [List.length_erase_of_mem ha]; simp at hl; omega
structure Two (C:Addr) (H:Hp) (st c r:Addr) (m i:Nat) (p0 d0 e0:Addr) (fs0 gs0:List Ent) (p1 d1 e1:Addr) (fs1 gs1:List Ent) (la:Addr) (ls:List V):Prop where
  dk:Dk H st c r m
  b0:BkAt C H p0 d0 fs0
  b1:BkAt C H p1 d1 fs1
  m0:PB H e0 gs0
  m1:PB H e1 gs1
  v0:vw4 fs0=vw4 gs0
  v1:vw4 fs1=vw4 gs1
  o0:∀ x ∈ vw4 fs0,okS x
  o1:∀ x ∈ vw4 fs1,okS x
  l0:fs0.length ≤ i
  l1:fs1.length ≤ i
  hl:H la=some (.lst ls)
  ll:ls.length ≤ i
  ok:LastOk H ls
section
variable {C:Addr}{H H':Hp}{st c r:Addr}{m i:Nat}{p0 d0 e0 p1 d1 e1 la:Addr}{fs0 gs0 fs1 gs1:List Ent}{ls:List V}
end
end L2
namespace Mt
open PySem L2
end Mt
namespace L2
open PySem PySem.Spec PyProof.Rows PySem.W
section
variable {X:Cx}{sc:Scope}{cl:List (Str×Addr)}{NC:List Str}{fr:List (Option Nat)}{kx vx target iter:Expr}{ifs:List Expr}{pos:Pos}{wi:TI}{g:TG}{tt:TT}{tk tv:TE}
end
section
variable {X:Cx}{o:Expr}{td:TE}{p apos cpos pos kp bp:Pos}{j:Nat}
end
theorem SqT.nl {K:Frag}{H H':Hp}{b:Addr}{ys:List V}(h:SqT K H b ys) (x:NL H H'):SqT K H' b ys:=by
  rcases h with (h | ⟨o,h⟩) | h
  · exact .inl (.inl (x _ _ h (fun _ z=>by cases z)))
  · exact .inl (.inr ⟨o,x _ _ h (fun _ z=>by cases z)⟩)
  · exact .inr h
theorem evT_bind {α β:Type}{lt:Nat→Nat→Bool}{f:α→KasT β}:∀ t:KasT α,evT lt (t.bind f)=evT lt (f (evT lt t))
  | .ret _=>rfl
  | .ask i j k=>evT_bind (k (lt i j))
theorem nodup_inj {α:Type}{l:List α}(nd:l.Nodup) {i j:Nat}(hi:i < l.length) (hj:j < l.length) (e:l[i]=l[j]):i=j:=by
  have h:=List.pairwise_iff_getElem.mp nd
  rcases Nat.lt_trichotomy i j with x | x | x
  · exact absurd e (h i j hi hj x)
  · exact x
  · exact absurd e.symm (h j i hj hi x)
structure LtOk (n:Nat) (lt:Nat→Nat→Bool):Prop where
  tr:∀ {i j k:Nat},i < n→j < n→k < n→lt i j=true→lt j k=true→lt i k=true
  to:∀ {i j:Nat},i < n→j < n→i ≠ j→lt i j=false→lt j i=true
  as:∀ {i j:Nat},i < n→j < n→lt i j=true→lt j i=false
noncomputable def Up (lt:Nat→Nat→Bool) (p:Array Nat) (k:Nat):Prop:=∀ i j,i < j→j < k→lt (p.getD i 0) (p.getD j 0)=true
noncomputable def Dn (lt:Nat→Nat→Bool) (p:Array Nat) (k:Nat):Prop:=∀ i j,i < j→j < k→lt (p.getD j 0) (p.getD i 0)=true
theorem Ord.size {n:Nat}{p:Array Nat}(h:Ord n p):p.size=n:=by have:=h.length_eq; simpa using this
theorem Ord.ne {n:Nat}{p:Array Nat}(h:Ord n p) {i j:Nat}(hi:i < n) (hj:j < n) (e:i ≠ j):p.getD i 0 ≠ p.getD j 0:=by
  have nd:p.toList.Nodup:=h.nodup_iff.mpr List.nodup_range
  have z:=h.size
  have e1:p.getD i 0=p.toList[i]'(by simpa [z] using hi):=by simp [show i < p.size by omega]
  have e2:p.getD j 0=p.toList[j]'(by simpa [z] using hj):=by simp [show j < p.size by omega]
  rw [e1,e2]
  exact fun q=>e (nodup_inj nd _ _ q)
section
variable {n:Nat}(hn:0 < n) {lt:Nat→Nat→Bool}(L:LtOk n lt)
include hn L
theorem Up.next {p:Array Nat}(O:Ord n p) {m:Nat}(h:Up lt p m) (h1:1 ≤ m) (hm:m < n) (hc:lt (p.getD m 0) (p.getD (m - 1) 0)=false):Up lt p (m + 1):=by
  have c:=L.to (O.lt hn m) (O.lt hn (m - 1)) (O.ne hm (by omega) (by omega)) hc
  intro i j hij hj
  by_cases e:j=m
  · subst e
    by_cases e2:i=j - 1
    · subst e2; exact c
    · exact L.tr (O.lt hn _) (O.lt hn _) (O.lt hn _) (h i (j - 1) (by omega) (by omega)) c
  · exact h i j hij (by omega)
theorem Dn.next {p:Array Nat}(O:Ord n p) {m:Nat}(h:Dn lt p m) (h1:1 ≤ m) (hc:lt (p.getD m 0) (p.getD (m - 1) 0)=true):Dn lt p (m + 1):=by
  intro i j hij hj
  by_cases e:j=m
  · subst e
    by_cases e2:i=j - 1
    · subst e2; exact hc
    · exact L.tr (O.lt hn _) (O.lt hn _) (O.lt hn _) hc (h i (j - 1) (by omega) (by omega))
  · exact h i j hij (by omega)
theorem ev_asc {p:Array Nat}(O:Ord n p):∀ (f m:Nat),Up lt p m→1 ≤ m→m + f ≤ n→∃ r,evT lt (kas_asc p f m)=r∧Up lt p r∧m ≤ r∧r ≤ m + f∧(r < m + f→lt (p.getD r 0) (p.getD (r - 1) 0)=true)
  | 0,m,h,_,_=>⟨m,rfl,h,Nat.le_refl _,Nat.le_refl _,fun z=>absurd z (by omega)⟩
  | f + 1,m,h,h1,hf=>by
    show ∃ r,evT lt (if lt (p.getD m 0) (p.getD (m - 1) 0)=true then KasT.ret m else kas_asc p f (m + 1))=r∧_
    cases hc:lt (p.getD m 0) (p.getD (m - 1) 0) with
    | true=>exact ⟨m,rfl,h,Nat.le_refl _,by omega,fun _=>hc⟩
    | false =>
      obtain ⟨r,e,a,b,c,d⟩:=ev_asc O f (m + 1) (h.next hn L O h1 (by omega) hc) (by omega) (by omega)
      exact ⟨r,e,a,by omega,by omega,fun z=>d (by omega)⟩
theorem ev_desc {p:Array Nat}(O:Ord n p):∀ (f m:Nat),Dn lt p m→1 ≤ m→m + f ≤ n→∃ r,evT lt (kas_desc f p m 0)=(p,r,0)∧Dn lt p r∧m ≤ r∧r ≤ m + f
  | 0,m,h,_,_=>⟨m,rfl,h,Nat.le_refl _,Nat.le_refl _⟩
  | f + 1,m,h,h1,hf=>by
    show ∃ r,evT lt (if lt (p.getD m 0) (p.getD (m - 1) 0)=true then (if 0 > 0 then kas_desc f (kas_rev p (m - (0 + 1)) m) (m + 1) 0 else kas_desc f p (m + 1) 0) else .ask (p.getD (m - 1) 0) (p.getD m 0) fun d=>if d=true then .ret (p,m,0) else kas_desc f p (m + 1) (0 + 1))=(p,r,0)∧_
    cases hc:lt (p.getD m 0) (p.getD (m - 1) 0) with
    | true =>
      obtain ⟨r,e,a,b,c⟩:=ev_desc O f (m + 1) (h.next hn L O h1 hc) (by omega) (by omega)
      exact ⟨r,e,a,by omega,by omega⟩
    | false =>
      refine ⟨m,?_,h,Nat.le_refl _,by omega⟩
      have c:=L.to (O.lt hn m) (O.lt hn (m - 1)) (O.ne (by omega) (by omega) (by omega)) hc
      show evT lt (if lt (p.getD (m - 1) 0) (p.getD m 0)=true then KasT.ret (p,m,0) else _)=_
      rw [c]; rfl
theorem rev_getD {p:Array Nat}{m:Nat}(hm:m ≤ p.size) (i:Nat):(kas_rev p 0 m).getD i 0=if i < m then p.getD (m - 1 - i) 0 else p.getD i 0:=by
  rw [Array.getD_eq_getD_getElem?]
  unfold kas_rev
  rw [getElem?_mirror_all hm]
  simp only [Nat.zero_le,true_and,Nat.zero_add]
  split <;> rw [Array.getD_eq_getD_getElem?]
theorem ev_count {p:Array Nat}(O:Ord n p):∃ r q,evT lt (kas_count n p)=(r,q)∧Ord n q∧Up lt q r∧1 ≤ r∧r ≤ n:=by
  have up1:Up lt p 1:=fun i j h1 h2=>absurd h1 (by omega)
  obtain ⟨r,e,a,b,c,d⟩:=ev_asc hn L O (n - 1) 1 up1 (by omega) (by omega)
  unfold kas_count
  rw [evT_bind,e]
  by_cases hr:r=n
  · subst hr
    rw [if_pos (by simp)]
    exact ⟨r,p,rfl,O,a,b,Nat.le_refl _⟩
  · rw [if_neg (by simpa using hr)]
    by_cases h1:r > 1
    · rw [if_pos h1]
      refine ⟨r,p,?_,O,a,b,by omega⟩
      show evT lt (if lt (p.getD 0 0) (p.getD (r - 1) 0)=true then KasT.ret (r,p) else _)=_
      rw [a 0 (r - 1) (by omega) (by omega)]; rfl
    · rw [if_neg h1]
      obtain rfl:r=1:=by omega
      have d1:=d (by omega)
      have dn2:Dn lt p 2:=fun i j h1 h2=>by
        obtain rfl:j=1:=by omega
        obtain rfl:i=0:=by omega
        exact d1
      obtain ⟨r2,e2,a2,b2,c2⟩:=ev_desc hn L O (n - (1 + 1)) (1 + 1) dn2 (by omega) (by omega)
      unfold kas_descPart
      rw [evT_bind,e2]
      show ∃ r q,evT lt (if (0:Nat) > 0 then _ else kas_tail3 r2 n p)=(r,q)∧_
      rw [if_neg (by omega)]
      unfold kas_tail3
      have z:=O.size
      have O2:Ord n (kas_rev p 0 r2):=O.rev 0 r2
      have up2:Up lt (kas_rev p 0 r2) r2:=fun i j h1 h2=>by
        rw [rev_getD hn L (by omega),rev_getD hn L (by omega),if_pos (by omega),if_pos h2]
        exact a2 _ _ (by omega) (by omega)
      obtain ⟨r3,e3,a3,b3,c3,_⟩:=ev_asc hn L O2 (n - r2) r2 up2 (by omega) (by omega)
      rw [evT_bind,e3]
      exact ⟨r3,_,rfl,O2,a3,by omega,by omega⟩
theorem ev_place {p:Array Nat}(O:Ord n p) {k:Nat}(hk:k < n) (h:Up lt p k):∀ (f l r:Nat),l ≤ r→r ≤ k→r - l ≤ f→(∀ i,i < l→lt (p.getD i 0) (p.getD k 0)=true)→(∀ i,r ≤ i→i < k→lt (p.getD k 0) (p.getD i 0)=true) →
    ∃ m,evT lt (kas_place p k f l r)=m∧m ≤ k∧(∀ i,i < m→lt (p.getD i 0) (p.getD k 0)=true)∧(∀ i,m ≤ i→i < k→lt (p.getD k 0) (p.getD i 0)=true)
  | 0,l,r,h1,h2,h3,a,b=>⟨l,rfl,by omega,a,fun i x y=>b i (by omega) y⟩
  | f + 1,l,r,h1,h2,h3,a,b=>by
    unfold kas_place
    by_cases e:l ≥ r
    · rw [if_pos e]; exact ⟨l,rfl,by omega,a,fun i x y=>b i (by omega) y⟩
    · rw [if_neg e]
      have hmid:l ≤ (l + r) / 2∧(l + r) / 2 < r:=by omega
      generalize (l + r) / 2=mid at hmid
      show ∃ m,evT lt (if lt (p.getD k 0) (p.getD mid 0)=true then kas_place p k f l mid else kas_place p k f (mid + 1) r)=m∧_
      cases hc:lt (p.getD k 0) (p.getD mid 0) with
      | true =>
        refine ev_place O hk h f l mid (by omega) (by omega) (by omega) a fun i x y=>?_
        by_cases e2:i=mid
        · subst e2; exact hc
        · exact L.tr (O.lt hn _) (O.lt hn _) (O.lt hn _) hc (h mid i (by omega) y)
      | false =>
        have c:=L.to (O.lt hn k) (O.lt hn mid) (O.ne hk (by omega) (by omega)) hc
        refine ev_place O hk h f (mid + 1) r (by omega) (by omega) (by omega) (fun i x=>?_) b
        by_cases e2:i=mid
        · subst e2; exact c
        · exact L.tr (O.lt hn _) (O.lt hn _) (O.lt hn _) (h i mid (by omega) (by omega)) c
theorem bub_getD {p:Array Nat}{k d:Nat}(hk:k < p.size) (hd:d ≤ k) (i:Nat):(bubble p k d).getD i 0=if i=k - d then p.getD k 0 else if k - d < i∧i ≤ k then p.getD (i - 1) 0 else p.getD i 0:=by
  rw [Array.getD_eq_getD_getElem?,getElem?_bubble hk d hd,Array.getD_eq_getD_getElem?,Array.getD_eq_getD_getElem?,Array.getD_eq_getD_getElem?]
  repeat' split
  all_goals rfl
theorem ev_bin:∀ (f:Nat) {p:Array Nat}(_:Ord n p) (k:Nat),1 ≤ k→k + f=n→Up lt p k→∃ q,evT lt (kas_bin f p k)=q∧Up lt q n
  | 0,p,_,k,_,e,h=>⟨p,rfl,by rw [← e]; exact h⟩
  | f + 1,p,O,k,h1,e,h=>by
    obtain ⟨m,e1,a,b,c⟩:=ev_place hn L O (k:=k) (by omega) h k 0 k (by omega) (Nat.le_refl _) (by omega) (fun i x=>absurd x (by omega)) (fun i x y=>absurd x (by omega))
    unfold kas_bin
    rw [evT_bind,e1]
    have z:=O.size
    refine ev_bin f (O.bub k (k - m)) (k + 1) (by omega) (by omega) fun i j hij hj=>?_
    rw [bub_getD hn L (by omega) (by omega),bub_getD hn L (by omega) (by omega),show k - (k - m)=m by omega]
    by_cases i1:i=m
    · rw [if_pos i1,if_neg (by omega),if_pos (by omega)]
      exact c _ (by omega) (by omega)
    · rw [if_neg i1]
      by_cases j1:j=m
      · rw [if_pos j1,if_neg (by omega)]
        exact b _ (by omega)
      · rw [if_neg j1]
        by_cases i2:m < i∧i ≤ k
        · rw [if_pos i2,if_pos (by omega)]; exact h _ _ (by omega) (by omega)
        · rw [if_neg i2]
          by_cases j2:m < j∧j ≤ k
          · rw [if_pos j2]; exact h _ _ (by omega) (by omega)
          · rw [if_neg j2]; exact h _ _ (by omega) (by omega)
theorem ev_sort:Up lt (evT lt (kas_sort n)) n:=by
  unfold kas_sort
  obtain ⟨r,q,e,O,a,b,c⟩:=ev_count hn L (p:=List.toArray (List.range n)) (by unfold Ord; exact List.Perm.refl _)
  rw [evT_bind,e]
  show Up lt (evT lt (if r < n then kas_bin (n - max r 1) q (max r 1) else .ret q)) n
  split
  · rw [show max r 1=r by omega]
    obtain ⟨q2,e2,h2⟩:=ev_bin hn L (n - r) O r b (by omega) a
    rw [e2]; exact h2
  · obtain rfl:r=n:=by omega
    exact a
end
theorem ltP_iff {a b:Int×Int}:ltP a b=true↔a.1 < b.1∨(a.1=b.1∧a.2 < b.2):=by
  unfold ltP
  by_cases e:a.1=b.1
  · rw [if_pos e,decide_eq_true_eq]; constructor
    · exact fun h=>.inr ⟨e,h⟩
    · rintro (h | h)
      · omega
      · exact h.2
  · rw [if_neg e,decide_eq_true_eq]; constructor
    · exact .inl
    · rintro (h | h)
      · exact h
      · exact absurd h.1 e
theorem srtP_up {ks:List (Int×Int)}(nd:ks.Nodup):(srtP ks).Pairwise (fun a b=>ltP a b=true):=by
  have hl:(srtP ks).length=ks.length:=(srtP_perm ks).length_eq
  by_cases h2:ks.length < 2
  · match hs:srtP ks,hl with
    | [],_=>exact .nil
    | [x],_=>exact List.pairwise_singleton _ _
    | x :: y :: r,hl=>simp at hl; omega
  · have hn:0 < ks.length:=by omega
    have L:LtOk ks.length (fun i j=>ltP (ks.getD i (0,0)) (ks.getD j (0,0))):=by
      have inj:∀ {i j:Nat},i < ks.length→j < ks.length→i ≠ j→ks.getD i (0,0) ≠ ks.getD j (0,0):=fun {i j} hi hj e q=>by
        have e1:ks.getD i (0,0)=ks[i]:=by simp [hi]
        have e2:ks.getD j (0,0)=ks[j]:=by simp [hj]
        rw [e1,e2] at q
        exact e (nodup_inj nd _ _ q)
      refine ⟨fun _ _ _ h1 h2=>?_,fun {i j} hi hj e h=>?_,fun _ _ h=>?_⟩
      · rw [ltP_iff] at h1 h2 ⊢; omega
      · have ne:=inj hi hj e
        have h':¬ ltP (ks.getD i (0,0)) (ks.getD j (0,0))=true:=by rw [h]; exact Bool.false_ne_true
        rw [ltP_iff] at h' ⊢
        by_cases e1:(ks.getD i (0,0)).1=(ks.getD j (0,0)).1
        · have:(ks.getD i (0,0)).2 ≠ (ks.getD j (0,0)).2:=fun z=>ne (Prod.ext e1 z)
          omega
        · omega
      · cases e:ltP (ks.getD _ (0,0)) (ks.getD _ (0,0)) with
        | false=>rfl
        | true=>rw [ltP_iff] at h e; omega
    have U:=ev_sort hn L
    have z:(evT (fun i j=>ltP (ks.getD i (0,0)) (ks.getD j (0,0))) (kas_sort ks.length)).size=ks.length:=(evT_ok (ok_sort hn):Ord _ _).size
    unfold srtP ordP
    rw [if_neg h2]
    generalize evT (fun i j=>ltP (ks.getD i (0,0)) (ks.getD j (0,0))) (kas_sort ks.length)=q at U z
    rw [List.pairwise_map,List.pairwise_iff_getElem]
    intro i j hi hj hij
    rw [Array.length_toList] at hi hj
    have:=U i j hij (by omega)
    simpa [hi,hj] using this
theorem srtP_held {ps qs:List (Int×Int)}(h:IsHeld qs ps) (nd:(qs.map (·.1)).Nodup):srtP qs=ps:=by
  have ndq:qs.Nodup:=List.Pairwise.of_map _ (fun a b hab e=>hab (by rw [e])) nd
  have h1:IsHeld qs (srtP qs):=⟨srtP_perm qs,List.pairwise_map.mpr ((srtP_up ndq).imp fun {a b} h=>by rw [ltP_iff] at h; omega)⟩
  exact h1.uniq h nd
theorem srtP_congr {ps qs:List (Int×Int)}(h:ps.Perm qs) (nd:(qs.map (·.1)).Nodup):srtP ps=srtP qs:=by
  have ndq:qs.Nodup:=List.Pairwise.of_map _ (fun a b hab e=>hab (by rw [e])) nd
  have ndp:ps.Nodup:=h.nodup_iff.mpr ndq
  have h1:IsHeld qs (srtP ps):=⟨(srtP_perm ps).trans h,List.pairwise_map.mpr ((srtP_up ndp).imp fun {a b} h=>by rw [ltP_iff] at h; omega)⟩
  exact (srtP_held h1 nd).symm
section
variable {X:Cx}{o e:Expr}{es:List Expr}{to:TE}{t:TA}{apos cpos:Pos}
theorem qe_clear (ho:PE X o to) (hbase:attributeBase o "clear" X.env (eval o X.env)=eval o X.env) (hline:(apos.endLine == cpos.line)=true):PE X (.Call (.Attribute o "clear" apos) [] [] cpos) (tBM0 X.K "list" rClear to) :=
  pe_bm0 PySem.F.plainAttrs_list PySem.F.slot_list_clear PySem.F.type_list_clear mt_clear ho hbase hline
theorem qe_extend (ho:PE X o to) (ha:PAs X (e :: es) t) (hbase:attributeBase o "extend" X.env (eval o X.env)=eval o X.env) (h1:notStar e=true) (h2:noStars es=true)
    (hfew:((backTo cpos (starEach (e :: es) X.env)).all (fun x=>!x.1) && (backToKw cpos (keywordEach [] X.env)).all (fun x=>x.1.isSome) && decide ((e :: es).length + ([]:List Keyword).length + (if ([]:List Keyword).isEmpty then 0 else 1) < 30))=true)
    (hline:(apos.endLine == cpos.line)=true):PE X (.Call (.Attribute o "extend" apos) (e :: es) [] cpos) (tBM X.K "list" rExtend to t) :=
  pe_bm PySem.F.plainAttrs_list PySem.F.slot_list_extend PySem.F.type_list_extend mt_extend ho ha.run hbase hfew hline (star_ne h1) (stars_any h2)
noncomputable def rMaxL (K:Frag):TR:=fun xs H Q=>∃ (p:Addr) (ns:List Int),xs = [.ref p]∧SqL K H p (ns.map V.int)∧0 < ns.length∧∀ m,m ∈ ns→(∀ a ∈ ns,a ≤ m)→Q (.int m) H
theorem best_gt (f:Nat→Int):∀ n,argBest (fun i j=>decide (f i > f j)) n ≤ n∧∀ j,j ≤ n→f j ≤ f (argBest (fun i j=>decide (f i > f j)) n)
  | 0 => ⟨Nat.le_refl _, fun j hj => by obtain rfl:j=0:=by omega
                                        exact Int.le_refl _⟩
  | n + 1=>by
    obtain ⟨a,b⟩:=best_gt f n
    show (if decide (f (n + 1) > f (argBest (fun i j=>decide (f i > f j)) n))=true then n + 1 else argBest (fun i j=>decide (f i > f j)) n) ≤ n + 1∧∀ j,j ≤ n + 1→f j ≤ f (if decide (f (n + 1) > f (argBest (fun i j=>decide (f i > f j)) n))=true then n + 1 else argBest (fun i j=>decide (f i > f j)) n)
    split
    · rename_i h
      have h:=of_decide_eq_true h
      refine ⟨Nat.le_refl _,fun j hj=>?_⟩
      by_cases e:j=n + 1
      · subst e; exact Int.le_refl _
      · have:=b j (by omega); omega
    · rename_i h
      have h:¬ (f (n + 1) > f (argBest (fun i j=>decide (f i > f j)) n)):=fun z=>h (decide_eq_true z)
      refine ⟨by omega,fun j hj=>?_⟩
      by_cases e:j=n + 1
      · subst e; omega
      · exact b j (by omega)
theorem cn_maxL (hc:X.calm=true):CallR X (.builtin "max") (rMaxL X.K):=by
  intro pins s σ H xs us Q I r h
  obtain ⟨p,ns,rfl,hq,hl,q⟩:=h
  obtain ⟨u,rfl,ru⟩:=vals1 r
  cases ru
  obtain ⟨its,rv,pl,hz⟩:=I.list hq
  obtain ⟨ys,rfl,rfl⟩:=ints_items rv
  have hq2:intItems ys.toArray=(ys.map fun p=>Value.int p.1 p.2).toArray:=by simp [intItems]
  rw [List.length_map] at hl
  refine max_intList (I.ok.hd hc) (xs:=ys.toArray) (by rw [hq2]; exact pl.isList) (by simpa using hl) fun v h' tk hv hk=>?_
  obtain ⟨t',rfl⟩:=intItems_at hv
  obtain ⟨b1,b2⟩:=best_gt (numAt ys.toArray) (ys.toArray.size - 1)
  have hsz:ys.toArray.size=ys.length:=by simp
  have hn:∀ j,numAt ys.toArray j=(ys.map (·.1)).getD j 0:=fun j=>by rw [numAt_eq]
  refine ⟨V.int _,H,I.kept hk,⟨t',rfl⟩,q _ ?_ fun a ha=>?_⟩
  · rw [hn]
    rw [List.getD_eq_getElem?_getD,List.getElem?_eq_getElem (by rw [List.length_map]; omega)]
    exact List.getElem_mem _
  · obtain ⟨j,hj,rfl⟩:=List.getElem_of_mem ha
    rw [List.length_map] at hj
    have:=b2 j (by omega)
    rw [hn j,List.getD_eq_getElem?_getD,List.getElem?_eq_getElem (by rw [List.length_map]; omega)] at this
    exact this
theorem rd_maxL {K:Frag}{H:Hp}{Q:VK}{p:Addr}{ns:List Int}(hq:SqL K H p (ns.map V.int)) (hl:0 < ns.length) (h:∀ m,m ∈ ns→(∀ a ∈ ns,a ≤ m)→Q (.int m) H):rMaxL K [.ref p] H Q:=⟨p,ns,rfl,hq,hl,h⟩
noncomputable def PrL (H:Hp) (as:List Addr) (ks:List (Int×Int)):Prop:=Paired (fun (a:Addr) (k:Int×Int)=>H a=some (.tup [.int k.1,.int k.2])) as ks
noncomputable def rSortPL:TR:=fun xs H Q=>∃ (p:Addr) (as:List Addr) (ks:List (Int×Int)),xs = [.ref p]∧H p=some (.lst (as.map V.ref))∧PrL H as ks∧ks.length < 64 ∧
  ∀ (l:Addr) (bs:List Addr) H',H l=none→Same H H'→PrL H' bs (srtP ks)→H' l=some (.lst (bs.map V.ref))→Q (.ref l) H'
theorem refs_are:∀ {bs:List Addr}{its:List Value},Vals (bs.map V.ref) its→its=bs.map Value.ref
  | [],_,h=>by cases h; rfl
  | b :: r,_,h=>by
    cases h with
    | cons h1 h2=>cases h1; rw [refs_are h2]; rfl
theorem cn_sortPL:CallR X (.builtin "sorted") rSortPL:=by
  intro pins s σ H xs us Q I r h
  obtain ⟨p,bs,ks,rfl,hp,kk,h64,q⟩:=h
  obtain ⟨u,rfl,ru⟩:=vals1 r
  cases ru
  have lk:bs.length=ks.length:=Paired.length kk
  obtain ⟨its,rv,pl,hz⟩:=I.list (SqL.of hp:SqL X.K H p (bs.map V.ref))
  obtain ⟨o,e1,e2,n,e3⟩:=pl.isList
  have eits:its=bs.map Value.ref:=refs_are rv
  subst eits
  refine Calls.call_function_entry kind_sorted plain_sorted entry_sorted (args_sorted1 _) ?_
  unfold Builtin.«sorted»
  refine wpAny_bind (m:=checkCount "sorted" 1 1 _) (wpAny_pure (wpAny_bind ?_))
  refine wpAny_collect_seq p (.inl rfl) e1 e2 e3 (fun h' kp=>?_) (by simp only [List.size_toArray,List.length_map]; rw [sizeLine_eq]; omega)
  have I1:Inv X pins σ H { s with heap:=h' }:=I.kept (t':=s.toks) kp
  show wpAny _ _ (newList (bs.map Value.ref) >>= _) _ _ _
  refine wpAny_bind (wpAny_newList ?_ (by rw [List.length_map,lk,sizeLine_eq]; omega))
  have hoL:(h'.push (seqObj "list" (bs.map Value.ref).toArray 0)).get? h'.objs.size=some (seqObj "list" (bs.map Value.ref).toArray 0):=Heap.get?_push_size _ rfl
  have pa:PairsAt (h'.push (seqObj "list" (bs.map Value.ref).toArray 0)) (bs.map Value.ref) ks:=by
    refine paired_of (by simpa using lk) fun i v k e1 e2=>?_
    rw [List.getElem?_map] at e1
    obtain ⟨b,e3,rfl⟩:=Option.map_eq_some_iff.mp e1
    obtain ⟨b',e4,e5⟩:=paired_at kk e2
    rw [e3] at e4; cases e4
    obtain ⟨o,n,t,u,q1,q2,q3⟩:=pair_at I1 e5
    exact ⟨b,rfl,o,n,t,u,Heap.get?_push_of_some _ q1,q2,q3⟩
  refine wpAny_bind (wpAny_holding (wpAny_call_entry slot_list_sort ⟨_,hoL,rfl⟩ entry_list_sort (pairs_sort hoL pa (by rw [List.length_map]; omega) ⟨_,rfl,?_⟩) (args_list_sort _)))
  refine wpAny_pure ⟨_,rfl,?_⟩
  have ords:∀ i ∈ ordP ks,i < bs.length:=fun i hi=>by
    have:=List.mem_range.mp ((ordP_perm _).mem_iff.mp hi)
    omega
  have eo:(ordP ks).map (fun i=>(bs.map Value.ref).getD i Value.none)=((ordP ks).map fun i=>bs.getD i 0).map Value.ref:=by
    rw [List.map_map]
    apply List.map_congr_left
    intro i hi
    have:=ords i hi
    simp [this]
  rw [eo]
  obtain ⟨n,ho⟩:=sortedHeap_at (out:=(((ordP ks).map fun i=>bs.getD i 0).map Value.ref).toArray) hoL
  refine ⟨.ref h'.objs.size,_,I1.laid (t':=s.toks) (o:=.lst (((ordP ks).map fun i=>bs.getD i 0).map V.ref)) (fun b o e=>?_) (Nat.le_refl _) ⟨?_,_,n,?_,ho⟩,rfl,q _ ((ordP ks).map fun i=>bs.getD i 0) _ I1.fresh (Same.upd I1.fresh) ?_ upd_same⟩
  · have hlt:b < h'.objs.size:=Heap.lt_size e
    rw [sortedHeap_old (Nat.ne_of_lt hlt) (by rw [size_push']; exact Nat.lt_succ_of_lt hlt),Heap.get?_push_ne _ _ _ (Nat.ne_of_lt hlt)]
    exact e
  · rw [List.length_map,List.length_map,(ordP_perm _).length_eq,List.length_range,sizeLine_eq]; omega
  · exact paired_of (by simp) fun i v u e1 e2=>by
      rw [List.getElem?_map] at e1 e2
      obtain ⟨b,e3,rfl⟩:=Option.map_eq_some_iff.mp e1
      rw [e3] at e2
      cases e2
      rfl
  · refine paired_of (by simp [srtP]) fun i b k e1 e2=>?_
    unfold srtP at e2
    rw [List.getElem?_map] at e1 e2
    obtain ⟨j,e3,rfl⟩:=Option.map_eq_some_iff.mp e1
    rw [e3] at e2
    cases e2
    have hj:=ords j (List.mem_of_getElem? e3)
    obtain ⟨b',e4,e5⟩:=paired_at kk (i:=j) (y:=ks.getD j (0,0)) (by simp [show j < ks.length by omega])
    have:bs.getD j 0=b':=by rw [List.getD_eq_getElem?_getD,e4]; rfl
    rw [this,upd_ne (ne_of_none e5 I1.fresh)]
    exact e5
noncomputable def allI (gs fs:List (Int×Int)):Bool:=fs.all fun p=>decide (lookI gs p.1=some p.2)
noncomputable def eqI (fs gs:List (Int×Int)):Bool:=fs.length == gs.length && allI gs fs
theorem hits_FKb {A:Around}{s:Shared}{ps:List (Int×Int)}{vb:List (Key×Value)}(rb:KV (FK ps) vb):∀ {qs:List (Int×Int)}{va:List (Key×Value)},KV (FK qs) va→KeqHits A s vb va (allI ps qs)
  | [],_,.nil=>.nil
  | p :: qs,(k,x) :: va,.cons h r=>by
    obtain ⟨e1,t,e2⟩:=h
    have ih:=hits_FKb (A:=A) (s:=s) rb r
    dsimp only at e1 e2
    subst e1 e2
    have hv:=KV.val rb (.inl p.1)
    rw [val_FK] at hv
    cases e:lookI ps p.1 with
    | none =>
      rw [e] at hv
      have hn:valueAt vb (.inl p.1:Key)=none:=by
        cases e2:valueAt vb (.inl p.1:Key) with
        | none=>rfl
        | some y=>rw [e2] at hv; exact hv.elim
      have ea:allI ps (p :: qs)=false:=by
        have:decide (lookI ps p.1=some p.2)=false:=by rw [e]; exact decide_eq_false (fun z=>by cases z)
        show (decide (lookI ps p.1=some p.2) && allI ps qs)=false
        rw [this,Bool.false_and]
      rw [ea]
      exact .miss hn
    | some z =>
      rw [e] at hv
      obtain ⟨w',hw,t',rfl⟩:=RelO.some_of (v:=.int z) (o:=valueAt vb (.inl p.1)) hv
      have:=KeqHits.hit (r:=va) (k:=(.inl p.1:Key)) hw (SeqAt.EqAt.int_int (A:=A) (s:=s) p.2 t z t') ih
      have ea:allI ps (p :: qs)=((p.2 == z) && allI ps qs):=by
        have:decide (lookI ps p.1=some p.2)=(p.2 == z):=by
          rw [e,Bool.eq_iff_iff,decide_eq_true_eq,beq_iff_eq]
          exact ⟨fun q=>(Option.some.inj q).symm,fun q=>by rw [q]⟩
        show (decide (lookI ps p.1=some p.2) && allI ps qs)=_
        rw [this]
      rw [ea]
      exact this
noncomputable def rEqII:R2:=fun x y H Q=>∃ (a b:Addr) (ps qs:List (Int×Int)),x = .ref a∧y = .ref b∧Rd H a (.dK (FK ps))∧Rd H b (.dK (FK qs))∧Q (.bl (eqI ps qs)) H
theorem on_eqII (hu:X.A.units + 1 < cLine):OpR X (compareOp .Eq) rEqII:=by
  intro pins s σ H x y v u Q I rx ry h
  obtain ⟨a,b,ps,qs,rfl,rfl,ha,hb,q⟩:=h
  cases rx
  cases ry
  obtain ⟨_,ma,va,ra,da⟩:=dk_rd I.hok ha
  obtain ⟨_,mb,vb,rb,db⟩:=dk_rd I.hok hb
  refine keq_eq (knd:=mixKind X.prog X.w) (r:=allI qs ps) ma mb da db (by omega) (fun _=>hits_FKb rb ra) ?_
  have e1:va.length=ps.length:=by rw [← kv_len ra]; simp [FK]
  have e2:vb.length=qs.length:=by rw [← kv_len rb]; simp [FK]
  rw [e1,e2]
  exact ⟨.bl _,H,I,rfl,q⟩
variable {CX:CXT}{k:Nat}{f C:Addr}{fd:FuncData}{ps:List Str}{sp:Sp}{dvs:List V}{ds:List Value}{XR:St→XK}{x:Str}{p pos:Pos}
theorem run_makeX {pins:List (Addr×Obj)}{σ:St}{H:Hp}{s:Shared}{Q:VK}{us:List Value}{vs:List V}(M:Mk X.K C f) (F:FnOk X.prog X.w X.K X.mg X.base (CX1 X.prog X.w) k f fd ps sp) (hr:Room (k + 1) X.A) (hb:Binds X.K fd ps ds) (hd:Vals dvs ds)
    (hx:Px X XR) (I:Inv X pins σ H s) (r:Vals vs us)
    (h:∀ x dx,H x=none→H dx=none→dx ≠ x→sp (.ref x :: (vs ++ dvs)) (upd (upd H dx (.own x)) x (.ins C dx [])) (fun v H2=>v = .non∧Q (.ref x) H2) (XR σ)) :
    wpAny (model X.prog X.w) X.A (call (.ref C) us) (EP X pins σ Q) X.xe s:=by
  have hq:=h (s.heap.objs.size + 1) s.heap.objs.size (I.hok.fresh (Nat.le_succ _)) (I.hok.fresh (Nat.le_refl _)) (Nat.ne_of_lt (Nat.lt_succ_self _))
  have I2:=Inv.made (C:=C) I
  have r2:Vals (V.ref (s.heap.objs.size + 1) :: (vs ++ dvs)) (Value.ref (s.heap.objs.size + 1) :: (us ++ ds)):=.cons rfl (r.append hd)
  have hl:(Value.ref (s.heap.objs.size + 1) :: us ++ ds).length=ps.length:=by
    have e:=r2.length
    rw [F.len _ _ _ _ hq] at e
    exact e.symm
  refine wpAny_call (make_map (f:=f) I.kIn M.makes M.init (beq_iff_eq.mp M.fn) (codeAny_mono (F.run _ X.stack _ _ ⟨Value.ref (s.heap.objs.size + 1) :: us,[]⟩ (Value.ref (s.heap.objs.size + 1) :: (us ++ ds)) _ _ (XR σ) (hr.make C us [])
    (I2.env0.make C us []) (hb _ (Value.ref (s.heap.objs.size + 1) :: us) I2.kIn hl) r2 hq) fun r s' hq'=>?_))
  cases r with
  | error e=>exact hx pins σ _ _ e s' I2 hq'
  | ok fl =>
    cases fl with
    | ret u =>
      obtain ⟨v,H',I3,rv,ev,q3⟩:=I2.after hq'
      subst ev
      exact ⟨rv,⟨V.ref (s.heap.objs.size + 1),H',I3,rfl,q3⟩⟩
    | next=>exact False.elim hq'
    | brk=>exact False.elim hq'
    | cont=>exact False.elim hq'
noncomputable def tMakeX (C:Addr) (sp:Sp) (dvs:List V) (XR:St→XK) (t:TA):TE:=fun σ H Q=>t σ H fun vs H1=>∀ x dx,H1 x=none→H1 dx=none→dx ≠ x→sp (.ref x :: (vs ++ dvs)) (upd (upd H1 dx (.own x)) x (.ins C dx [])) (fun v H2=>v = .non∧Q (.ref x) H2) (XR σ)
theorem qe_makeX (M:Mk X.K C f) (F:FnOk X.prog X.w X.K X.mg X.base (CX1 X.prog X.w) k f fd ps sp) (hr:Room (k + 1) X.A) (hg:Gl X x) (hm:X.mg x=some (.ref C)) (hb:Binds X.K fd ps ds) (hd:Vals dvs ds) (hx:Px X XR)
    (ha:PAs X (e :: es) t) (hdb:(x == ("__debug__":Str))=false) (h1:notStar e=true) (h2:noStars es=true):PE X (.Call (.Name x p) (e :: es) [] pos) (tMakeX C sp dvs XR t):=by
  intro pins s σ H Q I h
  refine wpAny_Call_Name_kw (ld_glob I hg hm ?_ hdb)
  refine PySem.W.callWith_K (h₀:=X.base) I.ok.mod.kin M.kp (thn (ha.run pos pins s σ H _ I h) fun us s1 ⟨vs,H1,I1,r,q⟩=>⟨I1.kIn,?_⟩) (star_ne h1) (stars_any h2)
  exact run_makeX M F hr hb hd hx I1 r q
end
theorem rd_makeX {C:Addr}{sp:Sp}{dvs:List V}{XR:St→XK}{t:TA}{σ:St}{H:Hp}{Q:VK}(h:t σ H fun vs H1=>∀ x dx,H1 x=none→H1 dx=none→dx ≠ x→sp (.ref x :: (vs ++ dvs)) (upd (upd H1 dx (.own x)) x (.ins C dx [])) (fun v H2=>v = .non∧Q (.ref x) H2) (XR σ)):tMakeX C sp dvs XR t σ H Q:=h
theorem rd_BM0 {K:Frag}{T:String}{r:V→List V→Hp→VK→Prop}{to:TE}{σ:St}{H:Hp}{Q:VK}(h:to σ H fun x H1=>tyV K T x H1∧r x [] H1 Q):tBM0 K T r to σ H Q:=h
noncomputable def TK (H H':Hp):Prop:=∀ b xs,H b=some (.tup xs)→H' b=some (.tup xs)
theorem PrL.tk {H H':Hp}{as:List Addr}{ks:List (Int×Int)}(h:PrL H as ks) (x:TK H H'):PrL H' as ks:=Paired.mapP h fun _ _ e=>x _ _ e
theorem TK.same {H H':Hp}(s:Same H H'):TK H H':=fun b xs e=>s _ _ e
theorem TK.nl {H H':Hp}(s:NL H H'):TK H H':=fun b xs e=>s _ _ e (fun _ z=>by cases z)
theorem TK.dict {H H':Hp}{d:Addr}{kvs:List (Key×V)}(x:Ext [d] H H') (h:H d=some (.dK kvs)):TK H H':=fun b xs e=>x _ _ e (by simpa using ne_of e h (by intro z; cases z))
theorem TK.trans {H H1 H2:Hp}(a:TK H H1) (b:TK H1 H2):TK H H2:=fun c xs e=>b _ _ (a _ _ e)
noncomputable def MdAt (H:Hp) (l:Addr) (ks:List (Int×Int)):Prop:=∃ as,H l=some (.lst (as.map V.ref))∧PrL H as ks
theorem PrL.len {H:Hp}{as:List Addr}{ks:List (Int×Int)}(h:PrL H as ks):as.length=ks.length:=Paired.length h
theorem PrL.filter {H:Hp}(pb:Int×Int→Bool):∀ {as:List Addr}{ks:List (Int×Int)},PrL H as ks→PrL H (((as.zip ks).filter fun z=>pb z.2).map (·.1)) (ks.filter pb)
  | _,_,.nil=>.nil
  | a :: as,k :: ks,.cons h r=>by
    have ih:=PrL.filter pb r
    rw [List.zip_cons_cons,List.filter_cons,List.filter_cons]
    cases e:pb k with
    | true=>simp only [if_true,List.map_cons]; exact .cons h ih
    | false=>simpa using ih
theorem zip_snd {α β γ:Type}(pb:β→Bool) (pr:β→γ):∀ {as:List α}{ks:List β},as.length=ks.length→(((as.zip ks).filter fun z=>pb z.2).map fun z=>pr z.2)=(ks.filter pb).map pr
  | [],[],_=>rfl
  | a :: as,k :: ks,e=>by
    have ih:=zip_snd pb pr (as:=as) (ks:=ks) (by simpa using e)
    rw [List.zip_cons_cons,List.filter_cons,List.filter_cons]
    cases e:pb k with
    | true=>simp only [if_true,List.map_cons]; rw [ih]
    | false=>simpa using ih
theorem PrL.dt {K:Frag}{H:Hp}:∀ {as:List Addr}{ks:List (Int×Int)},PrL H as ks→DtAll K [] H (as.map V.ref) (ks.map pairD)
  | _,_,.nil=>.nil
  | a :: as,k :: ks,.cons h r=>.cons (dt_pairI (a:=k.1) (b:=k.2) (SqT.of h) (by simp)) (PrL.dt r)
theorem PrL.snoc {H:Hp}{a:Addr}{k:Int×Int}(h:H a=some (.tup [.int k.1,.int k.2])):∀ {as:List Addr}{ks:List (Int×Int)},PrL H as ks→PrL H (as ++ [a]) (ks ++ [k])
  | _,_,.nil=>.cons h .nil
  | _,_,.cons x r=>.cons x (PrL.snoc h r)
theorem comp_pr {K:Frag}{l:Addr}{H1:Hp}{acc:Addr}{σ0:St}{g:TG}{tt:TT}{te:TE}{Q:VK}(as:List Addr) (ks:List (Int×Int)) (pb:Int×Int→Bool) (pv:Addr→Int×Int→V) (Sg:St→Prop) (hn:ks.length ≤ 1000) (na:H1 acc=none) (h0:Sg σ0)
    (hl:H1 l=some (.lst (as.map V.ref))) (hp:PrL H1 as ks)
    (hb:∀ (b:Addr) (k:Int×Int) σc H (R:St→V→Hp→Prop) (S:St→Hp→Prop),H b=some (.tup [.int k.1,.int k.2])→Same H1 H→Sg σc→(pb k=true→∀ σ2,Sg σ2→R σ2 (pv b k) H)→(pb k=false→∀ σ2,Sg σ2→S σ2 H) →
      g (.ref b) σc H fun σ2 H2=>tt σ2 H2 fun b H3=>if b=true then te σ2 H3 (R σ2) else S σ2 H3)
    (hst:∀ H,Same H1 H→H acc=some (.lst (((as.zip ks).filter fun z=>pb z.2).map fun z=>pv z.1 z.2))→Q (.ref acc) H):CompW σ0 (Itl K l) H1 acc g tt te Q:=by
  have ll:=hp.len
  have lz:(as.zip ks).length=ks.length:=by rw [List.length_zip]; omega
  refine comp_byF ks.length (small1000 hn) (fun i ws σc H=>Same H1 H∧Sg σc∧ws=(((as.zip ks).take i).filter fun z=>pb z.2).map fun z=>pv z.1 z.2) ⟨Same.upd na,h0,rfl⟩ ?_ ?_
  · rintro i ws σc H hi hlw ha ⟨sm,hs,rfl⟩
    have hL:SqL K H l (as.map V.ref):=SqL.of (sm _ _ hl)
    have hv:i < as.length:=by omega
    have ev:(as.map V.ref)[i]? = some (.ref as[i]):=by simp [hv]
    obtain ⟨b,hb1,hb2⟩:=paired_at hp (List.getElem?_eq_getElem hi)
    rw [List.getElem?_eq_getElem hv] at hb1; cases hb1
    refine ⟨⟨_,_,hL,ev⟩,?_⟩
    rintro x H' ⟨rfl,hx⟩ R S hR hS
    have ex:=hx _ hL
    rw [ev] at ex; cases ex
    have ez:(as.zip ks)[i]? = some (as[i],ks[i]):=by rw [List.getElem?_zip_eq_some]; exact ⟨List.getElem?_eq_getElem hv,List.getElem?_eq_getElem hi⟩
    have tk:(as.zip ks).take (i + 1)=(as.zip ks).take i ++ [(as[i],ks[i])]:=by rw [List.take_add_one,ez]; rfl
    refine hb as[i] ks[i] σc H' R S (sm _ _ hb2) sm hs (fun e σ2 h2=>hR σ2 _ H' ha ⟨fun b u e=>?_,h2,?_⟩) (fun e σ2 h2=>hS σ2 H' ha ⟨sm,h2,?_⟩)
    · rw [upd_ne (ne_of_none e na)]; exact sm b u e
    · rw [tk,List.filter_append,List.filter_cons,if_pos e,List.map_append]; rfl
    · rw [tk,List.filter_append,List.filter_cons,if_neg (by rw [e]; exact Bool.false_ne_true),List.filter_nil,List.append_nil]
  · rintro ws σc H hlw ha ⟨sm,_,rfl⟩
    rw [List.take_of_length_le (by omega)] at ha
    exact ⟨⟨_,SqL.of (sm _ _ hl),by simp; omega⟩,hst H sm ha⟩
theorem comp_prT {K:Frag}{l:Addr}{H1:Hp}{acc:Addr}{σ0:St}{g:TG}{tt:TT}{te:TE}{Q:VK}(ks:List (Int×Int)) (pb:Int×Int→Bool) (Sg:St→Prop) (hn:ks.length ≤ 1000) (na:H1 acc=none) (h0:Sg σ0) (hm:MdAt H1 l ks)
    (hb:∀ (b:Addr) (k:Int×Int) σc H (R:St→V→Hp→Prop) (S:St→Hp→Prop),H b=some (.tup [.int k.1,.int k.2])→Same H1 H→Sg σc→(pb k=true→∀ σ2,Sg σ2→R σ2 (.ref b) H)→(pb k=false→∀ σ2,Sg σ2→S σ2 H) →
      g (.ref b) σc H fun σ2 H2=>tt σ2 H2 fun b H3=>if b=true then te σ2 H3 (R σ2) else S σ2 H3)
    (hst:∀ H,Same H1 H→MdAt H acc (ks.filter pb)→Q (.ref acc) H):CompW σ0 (Itl K l) H1 acc g tt te Q:=by
  obtain ⟨as,hl,hp⟩:=hm
  refine comp_pr as ks pb (fun b _=>.ref b) Sg hn na h0 hl hp hb fun H s g2=>hst H s ⟨_,?_,(hp.filter pb).tk (TK.same s)⟩
  rw [g2,List.map_map]; rfl
theorem comp_prI {K:Frag}{l:Addr}{H1:Hp}{acc:Addr}{σ0:St}{g:TG}{tt:TT}{te:TE}{Q:VK}(ks:List (Int×Int)) (pb:Int×Int→Bool) (pr:Int×Int→Int) (Sg:St→Prop) (hn:ks.length ≤ 1000) (na:H1 acc=none) (h0:Sg σ0) (hm:MdAt H1 l ks)
    (hb:∀ (b:Addr) (k:Int×Int) σc H (R:St→V→Hp→Prop) (S:St→Hp→Prop),H b=some (.tup [.int k.1,.int k.2])→Same H1 H→Sg σc→(pb k=true→∀ σ2,Sg σ2→R σ2 (.int (pr k)) H)→(pb k=false→∀ σ2,Sg σ2→S σ2 H) →
      g (.ref b) σc H fun σ2 H2=>tt σ2 H2 fun b H3=>if b=true then te σ2 H3 (R σ2) else S σ2 H3)
    (hst:∀ H,Same H1 H→H acc=some (.lst (((ks.filter pb).map pr).map V.int))→Q (.ref acc) H):CompW σ0 (Itl K l) H1 acc g tt te Q:=by
  obtain ⟨as,hl,hp⟩:=hm
  refine comp_pr as ks pb (fun _ k=>.int (pr k)) Sg hn na h0 hl hp hb fun H s g2=>hst H s ?_
  rw [g2,zip_snd pb (fun k=>V.int (pr k)) hp.len,List.map_map]; rfl
structure Rl (qs ks:List (Int×Int)):Prop where
  nd:(ks.map (·.1)).Nodup
  lk:∀ j,lookI ks j=lookI qs j
  bd:∀ p ∈ ks,0 ≤ p.1∧p.1 ≤ 7∧0 ≤ p.2∧p.2 ≤ 1000000
theorem nd_pairs {ks:List (Int×Int)}(nd:(ks.map (·.1)).Nodup):ks.Nodup:=List.Pairwise.of_map _ (fun a b hab e=>hab (by rw [e])) nd
theorem mem_look {ks:List (Int×Int)}(nd:(ks.map (·.1)).Nodup) {p:Int×Int}:p ∈ ks↔lookI ks p.1=some p.2:=⟨fun h=>lookI_of nd h,fun h=>lookI_mem h⟩
theorem Rl.perm {qs ks:List (Int×Int)}(r:Rl qs ks) (nd:(qs.map (·.1)).Nodup):ks.Perm qs :=
  (List.perm_ext_iff_of_nodup (nd_pairs r.nd) (nd_pairs nd)).mpr fun p=>by rw [mem_look r.nd,mem_look nd,r.lk]
theorem look_filter (ks:List (Int×Int)) (k j:Int):lookI (ks.filter fun p=>decide (p.1 ≠ k)) j=if j=k then none else lookI ks j:=by
  induction ks with
  | nil=>simp [lookI]
  | cons p r ih =>
    rw [List.filter_cons]
    by_cases e:p.1=k
    · rw [if_neg (by simpa using e),ih]
      by_cases h:j=k
      · rw [if_pos h,if_pos h]
      · rw [if_neg h,if_neg h]
        conv=>rhs; unfold lookI
        rw [if_neg (fun z=>h (by rw [← z,e]))]
    · rw [if_pos (by simpa using e)]
      conv=>lhs; unfold lookI
      conv=>rhs; unfold lookI
      by_cases h:p.1=j
      · rw [if_pos h,if_pos h,if_neg (fun z=>e (by rw [h,z]))]
      · rw [if_neg h,if_neg h,ih]
theorem nd_filter {ks:List (Int×Int)}(nd:(ks.map (·.1)).Nodup) (pb:Int×Int→Bool):((ks.filter pb).map (·.1)).Nodup:=nd.sublist (List.Sublist.map _ List.filter_sublist)
theorem Rl.put {qs qs' ks:List (Int×Int)}(r:Rl qs ks) {k v:Int}(k0:0 ≤ k) (k1:k ≤ 7) (v0:0 ≤ v) (v1:v ≤ 1000000) (h:∀ j,lookI qs' j=if j=k then some v else lookI qs j):Rl qs' ((ks.filter fun p=>decide (p.1 ≠ k)) ++ [(k,v)]):=by
  refine ⟨?_,fun j=>?_,fun p hp=>?_⟩
  · rw [List.map_append,List.nodup_append]
    refine ⟨nd_filter r.nd _,by simp,fun a ha b hb=>?_⟩
    simp only [List.map_cons,List.map_nil,List.mem_cons,List.not_mem_nil,or_false] at hb
    subst hb
    rintro rfl
    obtain ⟨p,hp,e⟩:=List.mem_map.mp ha
    exact of_decide_eq_true (List.mem_filter.mp hp).2 e
  · rw [Mt.lookI_app,look_filter,h,← r.lk]
    by_cases e:j=k
    · subst e; simp
    · rw [if_neg e,if_neg e]
      cases lookI ks j with
      | none=>simp [Ne.symm e]
      | some w=>rfl
  · rcases List.mem_append.mp hp with hp | hp
    · exact r.bd p (List.mem_filter.mp hp).1
    · simp only [List.mem_cons,List.not_mem_nil,or_false] at hp
      subst hp
      exact ⟨k0,k1,v0,v1⟩
theorem Rl.drop {qs qs' ks:List (Int×Int)}(r:Rl qs ks) {k:Int}(h:∀ j,lookI qs' j=if j=k then none else lookI qs j):Rl qs' (ks.filter fun p=>decide (p.1 ≠ k)) :=
  ⟨nd_filter r.nd _,fun j=>by rw [look_filter,h,r.lk],fun p hp=>r.bd p (List.mem_filter.mp hp).1⟩
theorem look_perm {ks qs:List (Int×Int)}(nd:(qs.map (·.1)).Nodup) (p:ks.Perm qs) (j:Int):lookI ks j=lookI qs j:=by
  have ndk:(ks.map (·.1)).Nodup:=(p.map (·.1)).nodup_iff.mpr nd
  cases e:lookI qs j with
  | none =>
    rw [lookI_none] at e ⊢
    exact fun z=>e ((p.map (·.1)).mem_iff.mp z)
  | some v=>exact lookI_of ndk (p.mem_iff.mpr (lookI_mem e))
theorem Rl.kept {qs ks:List (Int×Int)}(r:Rl qs ks) (nd:(qs.map (·.1)).Nodup) (room en:Int):Rl (keptL room en qs) (keptL room en ks) :=
  ⟨nd_filter r.nd _,fun j=>look_perm (kept_nd nd) ((r.perm nd).filter _) j,fun p hp=>r.bd p (List.mem_filter.mp hp).1⟩
theorem rl_nil:Rl [] []:=⟨List.nodup_nil,fun _=>rfl,fun p hp=>by cases hp⟩
theorem Rl.mx {qs ks:List (Int×Int)}(r:Rl qs ks) (k:Int) {pl:Int}(p0:0 ≤ pl) (p1:pl ≤ 1000000):0 ≤ L2.mx pl ((lookI qs k).getD 0)∧L2.mx pl ((lookI qs k).getD 0) ≤ 1000000:=by
  rw [← r.lk]
  cases e:lookI ks k with
  | none=>show 0 ≤ L2.mx pl 0∧L2.mx pl 0 ≤ 1000000; unfold L2.mx; split <;> omega
  | some v =>
    have:=r.bd _ (lookI_mem e)
    dsimp only at this
    show 0 ≤ L2.mx pl v∧L2.mx pl v ≤ 1000000
    unfold L2.mx; split <;> omega
theorem known_max {ks:List (Int×Int)}(nd:(ks.map (·.1)).Nodup) {k pl m:Int}(h0:0 ≤ pl) (hm:m ∈ [pl] ++ (ks.filter fun p=>decide (p.1=k)).map (·.2)) (hle:∀ a ∈ [pl] ++ (ks.filter fun p=>decide (p.1=k)).map (·.2),a ≤ m):m=mx pl ((lookI ks k).getD 0):=by
  have hk:∀ v,v ∈ (ks.filter fun p=>decide (p.1=k)).map (·.2)↔lookI ks k=some v:=fun v=>by
    constructor
    · intro h
      obtain ⟨p,hp,rfl⟩:=List.mem_map.mp h
      obtain ⟨h1,h2⟩:=List.mem_filter.mp hp
      have h2:=of_decide_eq_true h2
      subst h2
      exact (mem_look nd).mp h1
    · intro h
      exact List.mem_map.mpr ⟨(k,v),List.mem_filter.mpr ⟨lookI_mem h,by simp⟩,rfl⟩
  have h1:pl ≤ m:=hle pl (by simp)
  rw [List.mem_append,hk] at hm
  cases e:lookI ks k with
  | none =>
    rw [e] at hm
    simp at hm
    subst hm
    show m=mx m 0
    unfold mx; split <;> omega
  | some v =>
    have h2:v ≤ m:=hle v (List.mem_append.mpr (.inr ((hk v).mpr e)))
    rw [e] at hm
    simp at hm
    show m=mx pl v
    unfold mx; split <;> omega
theorem eqI_iff {fs gs:List (Int×Int)}(hf:(fs.map (·.1)).Nodup) (hg:(gs.map (·.1)).Nodup):eqI fs gs=true↔fs.Perm gs:=by
  unfold eqI allI
  simp only [Bool.and_eq_true,beq_iff_eq,List.all_eq_true,decide_eq_true_eq]
  constructor
  · rintro ⟨h1,h2⟩
    have sub:∀ p ∈ fs,p ∈ gs:=fun p hp=>(mem_look hg).mpr (h2 p hp)
    exact (List.perm_ext_iff_of_nodup (nd_pairs hf) (nd_pairs hg)).mpr fun p=>⟨sub p,fun hp=>pigeon (nd_pairs hf) sub (by omega) p hp⟩
  · exact fun p=>⟨p.length_eq,fun q hq=>(mem_look hg).mp (p.mem_iff.mp hq)⟩
theorem eqI_srt {qs0 qs1 ks0 ks1:List (Int×Int)}(h0:(qs0.map (·.1)).Nodup) (h1:(qs1.map (·.1)).Nodup) (r0:Rl qs0 ks0) (r1:Rl qs1 ks1):eqI qs0 qs1=decide (srtP ks0=srtP ks1):=by
  rw [Bool.eq_iff_iff,eqI_iff h0 h1,decide_eq_true_eq]
  constructor
  · intro p
    exact srtP_congr ((r0.perm h0).trans (p.trans (r1.perm h1).symm)) r1.nd
  · intro e
    have:=(srtP_perm ks0).symm.trans (e ▸ srtP_perm ks1)
    exact (r0.perm h0).symm.trans (this.trans (r1.perm h1))
theorem eqv_pairs:∀ xs ys:List (Int×Int),PyData.eqvAll (xs.map pairD) (ys.map pairD)=decide (xs=ys)
  | [],[]=>rfl
  | [],y :: ys=>by simp [PyData.eqvAll]
  | x :: xs,[]=>by simp [PyData.eqvAll]
  | x :: xs,y :: ys=>by
    rw [List.map_cons,List.map_cons]
    unfold PyData.eqvAll
    rw [eqv_pairs xs ys]
    have:PyData.eqv (pairD x) (pairD y)=decide (x=y):=by
      unfold pairD
      simp only [PyData.eqv,PyData.eqvAll,Bool.and_true]
      rw [Bool.eq_iff_iff,Bool.and_eq_true,beq_iff_eq,beq_iff_eq,decide_eq_true_eq]
      exact ⟨fun h=>Prod.ext h.1 h.2,fun h=>by rw [h]; exact ⟨rfl,rfl⟩⟩
    rw [this,Bool.eq_iff_iff,Bool.and_eq_true,decide_eq_true_eq,decide_eq_true_eq,decide_eq_true_eq,List.cons.injEq]
theorem prs_can:∀ xs:List (Int×Int),PyData.canLayAll0 (xs.map pairD)=true
  | []=>rfl
  | x :: xs=>by rw [List.map_cons]; simp only [PyData.canLayAll0,pairD,PyData.canLay0,Bool.true_and]; exact prs_can xs
theorem prs_depth:∀ xs:List (Int×Int),PyData.depthAll (xs.map pairD) ≤ 1
  | []=>by show (0:Nat) ≤ 1; decide
  | x :: xs=>by
    have:=prs_depth xs
    have e:(pairD x).depth=1:=rfl
    rw [List.map_cons]
    show max (pairD x).depth (PyData.depthAll (xs.map pairD)) ≤ 1
    rw [e]
    omega
theorem prs_tupB:∀ xs:List (Int×Int),Mt.tupBAll (xs.map pairD)=true
  | []=>rfl
  | x :: xs=>by rw [List.map_cons]; simp only [Mt.tupBAll,pairD,Mt.tupB,Bool.true_and]; exact prs_tupB xs
theorem prs_shaped (xs:List (Int×Int)):SeqAt.shaped (.list (xs.map pairD))=true:=by
  have h:=prs_can xs
  have d:=prs_depth xs
  have d2:(PyData.list (xs.map pairD)).depth < 3:=by show PyData.depthAll (xs.map pairD) + 1 < 3; omega
  unfold SeqAt.shaped
  simp only [PyData.canLay0,h,Bool.true_and,decide_eq_true_eq]
  omega
theorem SlAt.nl {C:Addr}{H H':Hp}{p d:Addr}{room:Int}{qs:List (Int×Int)}(S:SlAt C H p d room qs) (x:NL H H'):SlAt C H' p d room qs :=
  ⟨S.ob.imp fun _ e=>x _ _ e (fun _ z=>by cases z),x _ _ S.dc (fun _ z=>by cases z),S.nd⟩
theorem SlAt.other {C:Addr}{H H':Hp}{p d e:Addr}{room:Int}{qs:List (Int×Int)}{kvs:List (Key×V)}(S:SlAt C H p d room qs) (x:Ext [e] H H') (he:H e=some (.dK kvs)) (n:d ≠ e):SlAt C H' p d room qs :=
  ⟨S.ob.imp fun _ g=>x _ _ g (by simpa using ne_of g he (by intro z; cases z)),x _ _ S.dc (by simpa using n),S.nd⟩
theorem Dk.dictK {H H':Hp}{st c r e:Addr}{m:Nat}{kvs:List (Key×V)}(D:Dk H st c r m) (x:Ext [e] H H') (he:H e=some (.dK kvs)):Dk H' st c r m:=by
  obtain ⟨cs,rs,n,w1,w2,w3,w⟩:=D.ex
  have f:∀ {a:Addr}{xs:List V},H a=some (.lst xs)→H' a=some (.lst xs):=fun h=>x _ _ h (by simpa using ne_of h he (by intro z; cases z))
  exact ⟨cs,rs,n,f w1,f w2,f w3,w⟩
theorem MdAt.tk {H H':Hp}{l:Addr}{ks:List (Int×Int)}(M:MdAt H l ks) (x:TK H H') (hl:∀ xs,H l=some (.lst xs)→H' l=some (.lst xs)):MdAt H' l ks:=by
  obtain ⟨as,h,p⟩:=M
  exact ⟨as,hl _ h,p.tk x⟩
theorem MdAt.same {H H':Hp}{l:Addr}{ks:List (Int×Int)}(M:MdAt H l ks) (s:Same H H'):MdAt H' l ks:=M.tk (TK.same s) fun _ e=>s _ _ e
theorem MdAt.dk {H H':Hp}{st c r l:Addr}{m:Nat}{ks:List (Int×Int)}(M:MdAt H l ks) (D:Dk H st c r m) (x:Ext [st,r] H H') (n:l ∉ [st,c,r]):MdAt H' l ks:=M.tk (TK.nl (nl_dk D x)) fun _ e=>x _ _ e (nin_pr n)
theorem MdAt.dict {H H':Hp}{d l:Addr}{ks:List (Int×Int)}{kvs:List (Key×V)}(M:MdAt H l ks) (x:Ext [d] H H') (h:H d=some (.dK kvs)):MdAt H' l ks:=M.tk (TK.dict x h) fun _ e=>x _ _ e (by simpa using ne_of e h (by intro z; cases z))
theorem MdAt.len {H:Hp}{l:Addr}{ks:List (Int×Int)}(M:MdAt H l ks):∃ as:List Addr,H l=some (.lst (as.map V.ref))∧as.length=ks.length:=by
  obtain ⟨as,h,p⟩:=M
  exact ⟨as,h,p.len⟩
noncomputable def badS (way:Int) (x y:V) (d1 d2:PyData) (isH:Bool) (v:V) (dv:PyData):Prop :=
  (isH=true∧v=x∧dv=d1∧(way=0∨way=1∨way=2)∧Mt.withinD 0 7 d1=false) ∨
  (isH=false∧v=y∧dv=d2∧(way=0∨way=1)∧Mt.withinD 0 7 d1=true∧Mt.withinD 0 1000000 d2=false) ∨
  (isH=false∧v=x∧dv=d1∧way=3∧Mt.withinD 0 1000000 d1=false) ∨
  (isH=false∧v=y∧dv=d2∧way=3∧∃ en:Int,x = .int en∧0 ≤ en∧en ≤ 1000000∧Mt.withinD 0 en d2=false)
structure S2 (C:Addr) (H:Hp) (st c r:Addr) (m i:Nat) (p0 d0 l0:Addr) (room0:Int) (qs0 ks0:List (Int×Int)) (p1 d1 l1:Addr) (room1:Int) (qs1 ks1:List (Int×Int)):Prop where
  dk:Dk H st c r m
  s0:SlAt C H p0 d0 room0 qs0
  s1:SlAt C H p1 d1 room1 qs1
  m0:MdAt H l0 ks0
  m1:MdAt H l1 ks1
  r0:Rl qs0 ks0
  r1:Rl qs1 ks1
  q0:qs0.length ≤ i
  q1:qs1.length ≤ i
section
variable {C:Addr}{H H':Hp}{st c r:Addr}{m i:Nat}{p0 d0 l0 p1 d1 l1:Addr}{room0 room1:Int}{qs0 ks0 qs1 ks1:List (Int×Int)}
theorem S2.same (J:S2 C H st c r m i p0 d0 l0 room0 qs0 ks0 p1 d1 l1 room1 qs1 ks1) (s:Same H H'):S2 C H' st c r m i p0 d0 l0 room0 qs0 ks0 p1 d1 l1 room1 qs1 ks1 :=
  ⟨J.dk.same s,J.s0.same s,J.s1.same s,J.m0.same s,J.m1.same s,J.r0,J.r1,J.q0,J.q1⟩
theorem S2.mono {m' i':Nat}(J:S2 C H st c r m i p0 d0 l0 room0 qs0 ks0 p1 d1 l1 room1 qs1 ks1) (h1:m ≤ m') (h2:i ≤ i'):S2 C H st c r m' i' p0 d0 l0 room0 qs0 ks0 p1 d1 l1 room1 qs1 ks1 :=
  ⟨J.dk.mono h1,J.s0,J.s1,J.m0,J.m1,J.r0,J.r1,Nat.le_trans J.q0 h2,Nat.le_trans J.q1 h2⟩
theorem S2.swap (J:S2 C H st c r m i p0 d0 l0 room0 qs0 ks0 p1 d1 l1 room1 qs1 ks1):S2 C H st c r m i p1 d1 l1 room1 qs1 ks1 p0 d0 l0 room0 qs0 ks0 :=
  ⟨J.dk,J.s1,J.s0,J.m1,J.m0,J.r1,J.r0,J.q1,J.q0⟩
theorem S2.take {m':Nat}(J:S2 C H st c r m i p0 d0 l0 room0 qs0 ks0 p1 d1 l1 room1 qs1 ks1) (D:Dk H' st c r m') (x:Ext [st,r] H H') (n0:l0 ∉ [st,c,r]) (n1:l1 ∉ [st,c,r]):S2 C H' st c r m' i p0 d0 l0 room0 qs0 ks0 p1 d1 l1 room1 qs1 ks1 :=
  ⟨D,J.s0.nl (nl_dk J.dk x),J.s1.nl (nl_dk J.dk x),J.m0.dk J.dk x n0,J.m1.dk J.dk x n1,J.r0,J.r1,J.q0,J.q1⟩
theorem S2.dict {e:Addr}{kvs:List (Key×V)}(J:S2 C H st c r m i p0 d0 l0 room0 qs0 ks0 p1 d1 l1 room1 qs1 ks1) (x:Ext [e] H H') (he:H e=some (.dK kvs)) (n0:d0 ≠ e) (n1:d1 ≠ e):S2 C H' st c r m i p0 d0 l0 room0 qs0 ks0 p1 d1 l1 room1 qs1 ks1 :=
  ⟨J.dk.dictK x he,J.s0.other x he n0,J.s1.other x he n1,J.m0.dict x he,J.m1.dict x he,J.r0,J.r1,J.q0,J.q1⟩
theorem s2_not {b:Addr}{o:HO}{kvs:List (Key×V)}{xs:List V}(D:Dk H st c r m) (h0:H d0=some (.dK kvs)) (hl:H l0=some (.lst xs)) (hb:H b=some o) (no:∀ xs,o ≠ .lst xs) (n0:b ≠ d0):b ∉ [st,r,d0,l0]:=by
  obtain ⟨cs,rs,n,w1,w2,w3,_⟩:=D.ex
  simp only [List.mem_cons,List.not_mem_nil,or_false,not_or]
  exact ⟨ne_of hb w1 (no _),ne_of hb w3 (no _),n0,ne_of hb hl (no _)⟩
theorem s2_lst {b:Addr}{kvs:List (Key×V)}{ys:List V}(h0:H d0=some (.dK kvs)) (hb:H b=some (.lst ys)) (nb:b ∉ [st,c,r]) (nl:b ≠ l0) (x:Ext [st,r,d0,l0] H H'):H' b=some (.lst ys):=by
  refine x _ _ hb ?_
  simp only [List.mem_cons,List.not_mem_nil,or_false,not_or] at nb ⊢
  exact ⟨nb.1,nb.2.2,ne_of hb h0 (by intro z; cases z),nl⟩
theorem S2.deed {m':Nat}{qs ks:List (Int×Int)}(J:S2 C H st c r m i p0 d0 l0 room0 qs0 ks0 p1 d1 l1 room1 qs1 ks1) (n1:d1 ≠ d0) (nl:l1 ≠ l0) (nd:l1 ∉ [st,c,r]) (D:Dk H' st c r m') (S:SlAt C H' p0 d0 room0 qs) (M:MdAt H' l0 ks) (R:Rl qs ks) (hl:qs.length ≤ qs0.length + 1) (x:Ext [st,r,d0,l0] H H') :
    S2 C H' st c r m' (i + 1) p0 d0 l0 room0 qs ks p1 d1 l1 room1 qs1 ks1:=by
  obtain ⟨as0,g0,_⟩:=id J.m0
  obtain ⟨as1,g1,pr1⟩:=id J.m1
  have h0:=J.s0.dc
  have q0:=J.q0
  have q1:=J.q1
  refine ⟨D,S,⟨J.s1.ob.imp fun _ e=>x _ _ e (s2_not J.dk h0 g0 e (fun _ z=>by cases z) (ne_of e h0 (by intro z; cases z))),x _ _ J.s1.dc (s2_not J.dk h0 g0 J.s1.dc (fun _ z=>by cases z) n1),J.s1.nd⟩,M,⟨as1,s2_lst h0 g1 nd nl x,pr1.tk fun b xs e=>x _ _ e (s2_not J.dk h0 g0 e (fun _ z=>by cases z) (ne_of e h0 (by intro z; cases z)))⟩,R,J.r1,by omega,by omega⟩
end
theorem look_take {ks:List (Int×Int)}(nd:(ks.map (·.1)).Nodup) {i:Nat}{k:Int×Int}(h:ks[i]? = some k) (j:Int):lookI (ks.take (i + 1)) j=if j=k.1 then some k.2 else lookI (ks.take i) j:=by
  have tk:ks.take (i + 1)=ks.take i ++ [(k.1,k.2)]:=by rw [List.take_add_one,h]; rfl
  rw [tk,Mt.lookI_app]
  by_cases e:j=k.1
  · subst e
    have hn:lookI (ks.take i) k.1=none:=by
      rw [lookI_none]
      intro hm
      have nd2:((ks.take (i + 1)).map (·.1)).Nodup:=nd.sublist (List.Sublist.map _ (List.take_sublist _ _))
      rw [tk,List.map_append,List.nodup_append] at nd2
      exact nd2.2.2 _ hm k.1 (by simp) rfl
    simp [hn]
  · rw [if_neg e]
    cases lookI (ks.take i) j with
    | none=>simp [Ne.symm e]
    | some w=>rfl
end L2
set_option maxHeartbeats 0
local macro_rules | `(tactic| walk_at "vis")=>`(tactic| first | exact Or.inl rfl | exact Or.inr (Or.inl rfl) | exact Or.inr (Or.inr rfl))
local macro_rules | `(tactic| walk_at "cond")=>`(tactic| first | assumption | decide | omega | (simp only [L2.CDiv,L2.CMul,L2.CPow]; first | decide | omega))
local macro_rules | `(tactic| walk_at "sq")=>`(tactic| first | assumption | exact L2.SqL.of (by assumption) | exact L2.SqT.of (by assumption) | exact L2.SqL.of L2.upd_same | exact L2.SqT.of L2.upd_same)
local macro_rules | `(tactic| walk_at "lk")=>`(tactic| first | assumption | exact L2.upd_same)
local macro_rules | `(tactic| walk_at "ty")=>`(tactic| first | assumption | exact L2.TyS.non | exact L2.TyS.bl _ | exact L2.TyS.int _ | exact L2.TyS.str _ | exact L2.TyS.tup (by assumption) | exact L2.TyS.lst (by assumption))
local macro_rules | `(tactic| walk_at "b1")=>`(tactic| first | (with_reducible first | refine L2.rd_if ?_ | refine L2.rd_asg ?_ | refine L2.rd_drop ?_ | refine L2.rd_ret ?_ | refine L2.rd_next ?_ | refine L2.rd_op ?_ | refine L2.rd_un ?_) | ((with_reducible apply L2.rd_var); (case e=>exact rfl)) | (with_reducible first | refine L2.rd_c ?_ | refine L2.rd_I0 ?_) | ((with_reducible apply L2.rd_I); (case hc=>walk_at "cond")) | (with_reducible first | refine L2.rd_U ?_ | refine L2.rd_test ?_ | refine L2.rd_tB ?_ | refine L2.rd_bl' ?_) | ((with_reducible apply L2.rd_eq); (case hs=>exact rfl)) | ((with_reducible apply L2.rd_ne); (case hs=>exact rfl)) | ((with_reducible apply L2.rd_ixL); (case hq=>walk_at "sq"); (case ha=>exact rfl)) | ((with_reducible apply L2.rd_ixT); (case hq=>walk_at "sq"); (case ha=>exact rfl)) | (with_reducible first | refine L2.rd_name ?_ | refine L2.rd_sub ?_) | ((with_reducible apply L2.rd_setL); (case hp=>walk_at "lk"); (case hi=>exact rfl)) | (with_reducible first | refine L2.rd_CB ?_ | refine L2.rd_nil ?_ | refine L2.rd_cons ?_ | refine L2.rd_or ?_ | refine L2.rd_not ?_ | refine L2.rd_andV ?_ | refine L2.rd_notV ?_ | refine L2.rd_call ?_ | refine L2.rd_callX ?_ | refine L2.rd_raise1 ?_ | refine L2.rd_try ?_ | refine L2.rd_xat ?_ | refine L2.rd_unx ?_ | refine L2.rd_din ?_ | refine L2.rd_dget ?_ | refine L2.rd_dput ?_ | refine L2.rd_starL ?_ | refine L2.rd_izipL ?_ | refine L2.rd_izipM ?_) | ((with_reducible apply L2.rd_glst); (case hq=>walk_at "sq"); (case hl=>exact rfl)) | (with_reducible first | refine L2.rd_callK ?_ | refine L2.rd_fld ?_ | refine L2.rd_sfld ?_ | refine L2.rd_meth ?_ | refine L2.rd_ddel ?_ | refine L2.rd_dget2 ?_ | refine L2.rd_methX ?_ | refine L2.rd_intB ?_ | refine L2.rd_makeX ?_ | refine L2.rd_BM0 ?_) | (with_reducible first | refine L2.rd_tup ?_ | refine L2.rd_tupA ?_ | refine L2.rd_lstA ?_ | refine L2.rd_lst ?_ | refine L2.rd_chain ?_ | refine L2.rd_sl ?_ | refine L2.rd_nopart ?_ | refine L2.rd_part ?_ | refine L2.rd_int ?_) | ((with_reducible apply L2.rd_slL); (case hq=>walk_at "sq")) | (with_reducible first | refine L2.rd_gnil ?_ | refine L2.rd_gcons ?_) | ((with_reducible apply L2.rd_tupT); (case hq=>walk_at "sq"); (case hl=>exact rfl)) | (with_reducible first | refine L2.rd_BM ?_ | refine L2.rd_for ?_ | refine L2.rd_rng1 ?_ | refine L2.rd_rngV ?_ | refine L2.rd_ilist ?_ | refine L2.rd_itup ?_ | refine L2.rd_comp ?_) | ((with_reducible apply L2.rd_tupleAL); (case hq=>walk_at "sq")) | ((with_reducible apply L2.rd_lenL); (case hq=>walk_at "sq")) | ((with_reducible apply L2.rd_lenT); (case hq=>walk_at "sq")) | ((with_reducible apply L2.rd_listL); (case hq=>walk_at "sq")) | ((with_reducible apply L2.rd_tupleL); (case hq=>walk_at "sq")) | ((with_reducible apply L2.rd_isiTup); (case hd=>assumption)) | ((with_reducible apply L2.rd_isiInt); (case hd=>assumption)) | ((with_reducible apply L2.rd_isiBool); (case hd=>assumption)) | ((with_reducible apply L2.rd_isiStr); (case hd=>assumption)) | ((with_reducible apply L2.rd_isiList); (case hd=>assumption)) | (with_reducible first | refine L2.rd_max ?_))
local macro_rules | `(tactic| walk_at "b2")=>`(tactic| first | (with_reducible first | refine L2.rd_isN ?_ | refine L2.rd_isnB ?_ | refine L2.rd_notN ?_) | dsimp only)
local macro_rules | `(tactic| walk_at "rs")=>`(tactic| repeat (first | walk_at "b1" | refine L2.rd_iteT ?_ | refine L2.rd_iteF ?_ | walk_at "b2"))
local macro_rules | `(tactic| walk_at "rd")=>`(tactic| repeat (first | with_reducible refine L2.rd_seq ?_ | walk_at "b1" | refine L2.rd_iteT ?_ | refine L2.rd_iteF ?_ | walk_at "b2"))
local macro_rules | `(tactic| walk_at "rq")=>`(tactic| repeat (first | with_reducible refine L2.rd_seq ?_ | walk_at "b1" | ((with_reducible refine L2.rd_iteG ?_); first | refine L2.rd_iteT ?_ | refine L2.rd_iteF ?_) | walk_at "b2"))
namespace My
open PySem L2
noncomputable abbrev s_is_number:Stmt:=top 10
noncomputable abbrev s_is_within:Stmt:=top 11
noncomputable abbrev s_require_within:Stmt:=top 12
noncomputable abbrev s_is_place:Stmt:=top 13
noncomputable abbrev s_require_place:Stmt:=top 15
noncomputable abbrev s_is_house:Stmt:=top 18
noncomputable abbrev s_require_house:Stmt:=top 19
noncomputable abbrev s_require_room:Stmt:=top 22
noncomputable abbrev s_cut_of:Stmt:=top 23
noncomputable abbrev s_Slots_init:Stmt:=inClass (top 24) 0
noncomputable abbrev s_Slots_hold:Stmt:=inClass (top 24) 1
noncomputable abbrev s_Slots_anew:Stmt:=inClass (top 24) 2
noncomputable abbrev s_Slots_free:Stmt:=inClass (top 24) 3
noncomputable abbrev s_Slots_held:Stmt:=inClass (top 24) 4
noncomputable abbrev s_Slots_cut_for:Stmt:=inClass (top 24) 5
noncomputable abbrev s_Slots___len:Stmt:=inClass (top 24) 6
noncomputable abbrev s_Slots___eq:Stmt:=inClass (top 24) 7
noncomputable abbrev s_law_deck:Stmt:=top 26
noncomputable abbrev s_law_take:Stmt:=top 27
noncomputable abbrev s_law_same:Stmt:=top 28
noncomputable abbrev s_law_names:Stmt:=top 29
noncomputable abbrev s_law_caught:Stmt:=top 30
noncomputable abbrev s_law_refused:Stmt:=top 31
noncomputable abbrev s_law_place:Stmt:=top 32
noncomputable abbrev s_law_odd:Stmt:=top 33
noncomputable abbrev s_law_wrong:Stmt:=top 34
noncomputable abbrev s_law_cuts:Stmt:=top 35
noncomputable abbrev s_law_put:Stmt:=top 36
noncomputable abbrev s_law_deed:Stmt:=top 37
noncomputable abbrev s_law_looks:Stmt:=top 38
noncomputable abbrev s_law_room:Stmt:=top 39
noncomputable abbrev s_law_no_room:Stmt:=top 40
noncomputable abbrev s_law:Stmt:=top 41
theorem sc_is_number:FnScope ["thing"] ["thing"] (defScope s_is_number):=⟨rfl,rfl,rfl,by decide +kernel,rfl,by decide +kernel,by decide +kernel⟩
theorem sc_is_within:FnScope ["thing","least","most"] ["thing","least","most"] (defScope s_is_within):=⟨rfl,rfl,rfl,by decide +kernel,rfl,by decide +kernel,by decide +kernel⟩
theorem sc_require_within:FnScope ["thing","least","most","what"] ["thing","least","most","what"] (defScope s_require_within):=⟨rfl,rfl,rfl,by decide +kernel,rfl,by decide +kernel,by decide +kernel⟩
theorem sc_is_place:FnScope ["thing"] ["thing"] (defScope s_is_place):=⟨rfl,rfl,rfl,by decide +kernel,rfl,by decide +kernel,by decide +kernel⟩
theorem sc_require_place:FnScope ["thing"] ["thing"] (defScope s_require_place):=⟨rfl,rfl,rfl,by decide +kernel,rfl,by decide +kernel,by decide +kernel⟩
theorem sc_is_house:FnScope ["thing","houses"] ["thing","houses"] (defScope s_is_house):=⟨rfl,rfl,rfl,by decide +kernel,rfl,by decide +kernel,by decide +kernel⟩
theorem sc_require_house:FnScope ["thing","houses"] ["thing","houses"] (defScope s_require_house):=⟨rfl,rfl,rfl,by decide +kernel,rfl,by decide +kernel,by decide +kernel⟩
theorem sc_require_room:FnScope ["room"] ["room"] (defScope s_require_room):=⟨rfl,rfl,rfl,by decide +kernel,rfl,by decide +kernel,by decide +kernel⟩
theorem sc_cut_of:FnScope ["room","slots","end","applied","broken","left"] ["room","slots","end","applied"] (defScope s_cut_of):=⟨rfl,rfl,rfl,by decide +kernel,rfl,by decide +kernel,by decide +kernel⟩
theorem sc_Slots_init:FnScope ["self","room"] ["self","room"] (defScope s_Slots_init):=⟨rfl,rfl,rfl,by decide +kernel,rfl,by decide +kernel,by decide +kernel⟩
theorem sc_Slots_hold:FnScope ["self","house","place"] ["self","house","place"] (defScope s_Slots_hold):=⟨rfl,rfl,rfl,by decide +kernel,rfl,by decide +kernel,by decide +kernel⟩
theorem sc_Slots_anew:FnScope ["self","house","place"] ["self","house","place"] (defScope s_Slots_anew):=⟨rfl,rfl,rfl,by decide +kernel,rfl,by decide +kernel,by decide +kernel⟩
theorem sc_Slots_free:FnScope ["self","house"] ["self","house"] (defScope s_Slots_free):=⟨rfl,rfl,rfl,by decide +kernel,rfl,by decide +kernel,by decide +kernel⟩
theorem sc_Slots_held:FnScope ["self"] ["self"] (defScope s_Slots_held):=⟨rfl,rfl,rfl,by decide +kernel,rfl,by decide +kernel,by decide +kernel⟩
theorem sc_Slots_cut_for:FnScope ["self","end","applied","floor","broken","house"] ["self","end","applied"] (defScope s_Slots_cut_for):=⟨rfl,rfl,rfl,by decide +kernel,rfl,by decide +kernel,by decide +kernel⟩
theorem sc_Slots___len:FnScope ["self"] ["self"] (defScope s_Slots___len):=⟨rfl,rfl,rfl,by decide +kernel,rfl,by decide +kernel,by decide +kernel⟩
theorem sc_Slots___eq:FnScope ["self","other"] ["self","other"] (defScope s_Slots___eq):=⟨rfl,rfl,rfl,by decide +kernel,rfl,by decide +kernel,by decide +kernel⟩
theorem sc_law_deck:FnScope ["_law_script","_law_cells"] ["_law_script"] (defScope s_law_deck):=⟨rfl,rfl,rfl,by decide +kernel,rfl,by decide +kernel,by decide +kernel⟩
theorem sc_law_take:FnScope ["_law_deck_here","_law_many","_law_cells","_law_count","_law_rests","_law_place_here","_law_digits","_law_mixed"] ["_law_deck_here","_law_many"] (defScope s_law_take):=⟨rfl,rfl,rfl,by decide +kernel,rfl,by decide +kernel,by decide +kernel⟩
theorem sc_law_same:FnScope ["_law_found","_law_due","_law_one","_law_other"] ["_law_found","_law_due"] (defScope s_law_same):=⟨rfl,rfl,rfl,by decide +kernel,rfl,by decide +kernel,by decide +kernel⟩
theorem sc_law_names:FnScope ["_law_error","_law_said","_law_names_here"] ["_law_error"] (defScope s_law_names):=⟨rfl,rfl,rfl,by decide +kernel,rfl,by decide +kernel,by decide +kernel⟩
theorem sc_law_caught:FnScope ["_law_way","_law_slots","_law_one","_law_other","_law_caught_here","_law_error"] ["_law_way","_law_slots","_law_one","_law_other"] (defScope s_law_caught):=⟨rfl,rfl,rfl,by decide +kernel,rfl,by decide +kernel,by decide +kernel⟩
theorem sc_law_refused:FnScope ["_law_way","_law_slots","_law_handed","_law_name","_law_field","_law_caught_here"] ["_law_way","_law_slots","_law_handed","_law_name","_law_field"] (defScope s_law_refused):=⟨rfl,rfl,rfl,by decide +kernel,rfl,by decide +kernel,by decide +kernel⟩
theorem sc_law_place:FnScope ["_law_deck_here"] ["_law_deck_here"] (defScope s_law_place):=⟨rfl,rfl,rfl,by decide +kernel,rfl,by decide +kernel,by decide +kernel⟩
theorem sc_law_odd:FnScope ["_law_deck_here","_law_most","_law_some"] ["_law_deck_here","_law_most"] (defScope s_law_odd):=⟨rfl,rfl,rfl,by decide +kernel,rfl,by decide +kernel,by decide +kernel⟩
theorem sc_law_wrong:FnScope ["_law_deck_here","_law_slots","_law_way","_law_end","_law_odd_here","_law_place_here"] ["_law_deck_here","_law_slots"] (defScope s_law_wrong):=⟨rfl,rfl,rfl,by decide +kernel,rfl,by decide +kernel,by decide +kernel⟩
theorem sc_law_cuts:FnScope ["_law_deck_here","_law_slots","_law_room_here","_law_model","_law_end","_law_applied","_law_broken","_law_left","_law_due","_law_found"] ["_law_deck_here","_law_slots","_law_room_here","_law_model"] (defScope s_law_cuts):=⟨rfl,rfl,rfl,by decide +kernel,rfl,by decide +kernel,by decide +kernel⟩
theorem sc_law_put:FnScope ["_law_deck_here","_law_slots","_law_model","_law_way","_law_one","_law_place_here","_law_known","_law_left"] ["_law_deck_here","_law_slots","_law_model","_law_way"] (defScope s_law_put):=⟨rfl,rfl,rfl,by decide +kernel,rfl,by decide +kernel,by decide +kernel⟩
theorem sc_law_deed:FnScope ["_law_deck_here","_law_slots","_law_room_here","_law_model","_law_way","_law_one","_law_left"] ["_law_deck_here","_law_slots","_law_room_here","_law_model"] (defScope s_law_deed):=⟨rfl,rfl,rfl,by decide +kernel,rfl,by decide +kernel,by decide +kernel⟩
theorem sc_law_looks:FnScope ["_law_slots","_law_model"] ["_law_slots","_law_model"] (defScope s_law_looks):=⟨rfl,rfl,rfl,by decide +kernel,rfl,by decide +kernel,by decide +kernel⟩
theorem sc_law_room:FnScope ["_law_deck_here"] ["_law_deck_here"] (defScope s_law_room):=⟨rfl,rfl,rfl,by decide +kernel,rfl,by decide +kernel,by decide +kernel⟩
theorem sc_law_no_room:FnScope ["_law_deck_here","_law_some","_law_room_here","_law_caught_here","_law_error"] ["_law_deck_here"] (defScope s_law_no_room):=⟨rfl,rfl,rfl,by decide +kernel,rfl,by decide +kernel,by decide +kernel⟩
theorem sc_law:FnScope ["_law_script","_law_deck_here","_law_rooms","_law_both","_law_models","_law_turn","_law_k","_law_same_here","_law_twin","_law_one","_law_place_here"] ["_law_script"] (defScope s_law):=⟨rfl,rfl,rfl,by decide +kernel,rfl,by decide +kernel,by decide +kernel⟩
noncomputable abbrev t_NoCount:Stmt:=inClass (top 7) 0
noncomputable abbrev t_NoHouse:Stmt:=inClass (top 5) 0
noncomputable abbrev t_NoPlace:Stmt:=inClass (top 4) 0
theorem ib_NoCount:IBody t_NoCount "what" "what":=⟨⟨rfl,rfl,rfl,rfl,by decide +kernel,rfl,rfl,rfl,by decide +kernel,by decide +kernel⟩,⟨_,rfl,rfl⟩,fun _ _ _ _ _ _ _ _ _ _ _=>rfl,⟨_,_,_,_,_,_,_,_,_,_,_,_,_,rfl,fun _=>rfl⟩⟩
theorem ib_NoHouse:IBody t_NoHouse "house" "house":=⟨⟨rfl,rfl,rfl,rfl,by decide +kernel,rfl,rfl,rfl,by decide +kernel,by decide +kernel⟩,⟨_,rfl,rfl⟩,fun _ _ _ _ _ _ _ _ _ _ _=>rfl,⟨_,_,_,_,_,_,_,_,_,_,_,_,_,rfl,fun _=>rfl⟩⟩
theorem ib_NoPlace:IBody t_NoPlace "place" "place":=⟨⟨rfl,rfl,rfl,rfl,by decide +kernel,rfl,rfl,rfl,by decide +kernel,by decide +kernel⟩,⟨_,rfl,rfl⟩,fun _ _ _ _ _ _ _ _ _ _ _=>rfl,⟨_,_,_,_,_,_,_,_,_,_,_,_,_,rfl,fun _=>rfl⟩⟩
set_option genInjectivity false in
set_option genSizeOfSpec false in
structure Adr where
  f_is_number:Addr
  d_is_number:FuncData
  f_is_within:Addr
  d_is_within:FuncData
  f_require_within:Addr
  d_require_within:FuncData
  f_is_place:Addr
  d_is_place:FuncData
  f_require_place:Addr
  d_require_place:FuncData
  f_is_house:Addr
  d_is_house:FuncData
  f_require_house:Addr
  d_require_house:FuncData
  f_require_room:Addr
  d_require_room:FuncData
  f_cut_of:Addr
  d_cut_of:FuncData
  f_Slots_init:Addr
  d_Slots_init:FuncData
  f_Slots_hold:Addr
  d_Slots_hold:FuncData
  f_Slots_anew:Addr
  d_Slots_anew:FuncData
  f_Slots_free:Addr
  d_Slots_free:FuncData
  f_Slots_held:Addr
  d_Slots_held:FuncData
  f_Slots_cut_for:Addr
  d_Slots_cut_for:FuncData
  f_Slots___len:Addr
  d_Slots___len:FuncData
  f_Slots___eq:Addr
  d_Slots___eq:FuncData
  f_law_deck:Addr
  d_law_deck:FuncData
  f_law_take:Addr
  d_law_take:FuncData
  f_law_same:Addr
  d_law_same:FuncData
  f_law_names:Addr
  d_law_names:FuncData
  f_law_caught:Addr
  d_law_caught:FuncData
  f_law_refused:Addr
  d_law_refused:FuncData
  f_law_place:Addr
  d_law_place:FuncData
  f_law_odd:Addr
  d_law_odd:FuncData
  f_law_wrong:Addr
  d_law_wrong:FuncData
  f_law_cuts:Addr
  d_law_cuts:FuncData
  f_law_put:Addr
  d_law_put:FuncData
  f_law_deed:Addr
  d_law_deed:FuncData
  f_law_looks:Addr
  d_law_looks:FuncData
  f_law_room:Addr
  d_law_room:FuncData
  f_law_no_room:Addr
  d_law_no_room:FuncData
  f_law:Addr
  d_law:FuncData
  u_HOUSES:Value
  u_LAST_PLACE:Value
  u_MOST_ROOM:Value
  C_LineError:Addr
  C_NoCount:Addr
  C_NoHouse:Addr
  C_NoKey:Addr
  C_NoPlace:Addr
  C_NoRow:Addr
  C_NoRule:Addr
  C_Slots:Addr
  I_NoCount:Addr
  I_NoHouse:Addr
  I_NoPlace:Addr
set_option genInjectivity false in
set_option genSizeOfSpec false in
structure Txt (P:Program) (K:PySem.W.Frag) (mg:Str→Option Value) (a:Adr):Prop where
  mC_LineError:mg "LineError" = some (.ref a.C_LineError)
  mC_NoCount:mg "NoCount" = some (.ref a.C_NoCount)
  mC_NoHouse:mg "NoHouse" = some (.ref a.C_NoHouse)
  mC_NoKey:mg "NoKey" = some (.ref a.C_NoKey)
  mC_NoPlace:mg "NoPlace" = some (.ref a.C_NoPlace)
  mC_NoRow:mg "NoRow" = some (.ref a.C_NoRow)
  mC_NoRule:mg "NoRule" = some (.ref a.C_NoRule)
  mC_Slots:mg "Slots" = some (.ref a.C_Slots)
  Z_NoCount:XIni P K a.C_NoCount a.C_LineError a.I_NoCount "what"
  Z_NoHouse:XIni P K a.C_NoHouse a.C_LineError a.I_NoHouse "house"
  Z_NoPlace:XIni P K a.C_NoPlace a.C_LineError a.I_NoPlace "place"
  xg_NoCount:XG K a.C_NoCount
  ex_NoCount_LineError:PySem.W.exmOne K (.ref a.C_NoCount) (.ref a.C_LineError)=some true
  is_NoCount_NoCount:PySem.W.kitOne K (.ref a.C_NoCount) (.ref a.C_NoCount)=some true
  is_NoCount_NoHouse:PySem.W.kitOne K (.ref a.C_NoCount) (.ref a.C_NoHouse)=some false
  is_NoCount_NoKey:PySem.W.kitOne K (.ref a.C_NoCount) (.ref a.C_NoKey)=some false
  is_NoCount_NoPlace:PySem.W.kitOne K (.ref a.C_NoCount) (.ref a.C_NoPlace)=some false
  is_NoCount_NoRow:PySem.W.kitOne K (.ref a.C_NoCount) (.ref a.C_NoRow)=some false
  is_NoCount_NoRule:PySem.W.kitOne K (.ref a.C_NoCount) (.ref a.C_NoRule)=some false
  is_NoCount_ValueError:PySem.W.kitOne K (.ref a.C_NoCount) (.type "ValueError")=some true
  xg_NoHouse:XG K a.C_NoHouse
  ex_NoHouse_LineError:PySem.W.exmOne K (.ref a.C_NoHouse) (.ref a.C_LineError)=some true
  is_NoHouse_NoCount:PySem.W.kitOne K (.ref a.C_NoHouse) (.ref a.C_NoCount)=some false
  is_NoHouse_NoHouse:PySem.W.kitOne K (.ref a.C_NoHouse) (.ref a.C_NoHouse)=some true
  is_NoHouse_NoKey:PySem.W.kitOne K (.ref a.C_NoHouse) (.ref a.C_NoKey)=some false
  is_NoHouse_NoPlace:PySem.W.kitOne K (.ref a.C_NoHouse) (.ref a.C_NoPlace)=some false
  is_NoHouse_NoRow:PySem.W.kitOne K (.ref a.C_NoHouse) (.ref a.C_NoRow)=some false
  is_NoHouse_NoRule:PySem.W.kitOne K (.ref a.C_NoHouse) (.ref a.C_NoRule)=some false
  is_NoHouse_ValueError:PySem.W.kitOne K (.ref a.C_NoHouse) (.type "ValueError")=some true
  xg_NoPlace:XG K a.C_NoPlace
  ex_NoPlace_LineError:PySem.W.exmOne K (.ref a.C_NoPlace) (.ref a.C_LineError)=some true
  is_NoPlace_NoCount:PySem.W.kitOne K (.ref a.C_NoPlace) (.ref a.C_NoCount)=some false
  is_NoPlace_NoHouse:PySem.W.kitOne K (.ref a.C_NoPlace) (.ref a.C_NoHouse)=some false
  is_NoPlace_NoKey:PySem.W.kitOne K (.ref a.C_NoPlace) (.ref a.C_NoKey)=some false
  is_NoPlace_NoPlace:PySem.W.kitOne K (.ref a.C_NoPlace) (.ref a.C_NoPlace)=some true
  is_NoPlace_NoRow:PySem.W.kitOne K (.ref a.C_NoPlace) (.ref a.C_NoRow)=some false
  is_NoPlace_NoRule:PySem.W.kitOne K (.ref a.C_NoPlace) (.ref a.C_NoRule)=some false
  is_NoPlace_ValueError:PySem.W.kitOne K (.ref a.C_NoPlace) (.type "ValueError")=some true
  c_HOUSES:mg "HOUSES" = some a.u_HOUSES∧RelV (.int 8) a.u_HOUSES
  c_LAST_PLACE:mg "LAST_PLACE" = some a.u_LAST_PLACE∧RelV (.int 1000000) a.u_LAST_PLACE
  c_MOST_ROOM:mg "MOST_ROOM" = some a.u_MOST_ROOM∧RelV (.int 400) a.u_MOST_ROOM
  b_ValueError:mg "ValueError" = none
  b_bool:mg "bool" = none
  b_int:mg "int" = none
  b_isinstance:mg "isinstance" = none
  b_len:mg "len" = none
  b_list:mg "list" = none
  b_max:mg "max" = none
  b_min:mg "min" = none
  b_range:mg "range" = none
  b_sorted:mg "sorted" = none
  b_str:mg "str" = none
  b_tuple:mg "tuple" = none
  b_zip:mg "zip" = none
  cl_Slots:Cls K a.C_Slots
  is_Slots:IsO K a.C_Slots
  ko_Slots:PySem.W.kitOne K (.ref a.C_Slots) (.ref a.C_Slots)=some true
  kt_Slots:PySem.W.kitOne K (.type "tuple") (.ref a.C_Slots)=some false
  kd_Slots:PySem.W.kitOne K (.type "dict") (.ref a.C_Slots)=some false
  nt_Slots:PySem.W.notFirst K a.C_Slots (.type "tuple")=true
  nd_Slots:PySem.W.notFirst K a.C_Slots (.type "dict")=true
  ne_Slots:PySem.W.findIn K (.ref a.C_Slots) "__ne__" = some (some (.builtin "object.__ne__"))
  na_Slots_places:NoAttr K a.C_Slots "places"
  na_Slots_room:NoAttr K a.C_Slots "room"
  mk_Slots:Mk K a.C_Slots a.f_Slots_init
  F_is_number:Fun K "is_number" "is_number" s_is_number a.f_is_number a.d_is_number
  m_is_number:mg "is_number" = some (.ref a.f_is_number)
  k_is_number:PySem.W.keepIn K (.ref a.f_is_number)=true
  bd_is_number:Binds K a.d_is_number ["thing"] []
  F_is_within:Fun K "is_within" "is_within" s_is_within a.f_is_within a.d_is_within
  m_is_within:mg "is_within" = some (.ref a.f_is_within)
  k_is_within:PySem.W.keepIn K (.ref a.f_is_within)=true
  bd_is_within:Binds K a.d_is_within ["thing","least","most"] []
  F_require_within:Fun K "require_within" "require_within" s_require_within a.f_require_within a.d_require_within
  m_require_within:mg "require_within" = some (.ref a.f_require_within)
  k_require_within:PySem.W.keepIn K (.ref a.f_require_within)=true
  bd_require_within:Binds K a.d_require_within ["thing","least","most","what"] []
  F_is_place:Fun K "is_place" "is_place" s_is_place a.f_is_place a.d_is_place
  m_is_place:mg "is_place" = some (.ref a.f_is_place)
  k_is_place:PySem.W.keepIn K (.ref a.f_is_place)=true
  bd_is_place:Binds K a.d_is_place ["thing"] []
  F_require_place:Fun K "require_place" "require_place" s_require_place a.f_require_place a.d_require_place
  m_require_place:mg "require_place" = some (.ref a.f_require_place)
  k_require_place:PySem.W.keepIn K (.ref a.f_require_place)=true
  bd_require_place:Binds K a.d_require_place ["thing"] []
  F_is_house:Fun K "is_house" "is_house" s_is_house a.f_is_house a.d_is_house
  m_is_house:mg "is_house" = some (.ref a.f_is_house)
  k_is_house:PySem.W.keepIn K (.ref a.f_is_house)=true
  kb_is_house:KBinds K a.d_is_house ["thing","houses"] ["houses"] kg2 kg2
  F_require_house:Fun K "require_house" "require_house" s_require_house a.f_require_house a.d_require_house
  m_require_house:mg "require_house" = some (.ref a.f_require_house)
  k_require_house:PySem.W.keepIn K (.ref a.f_require_house)=true
  kb_require_house:KBinds K a.d_require_house ["thing","houses"] ["houses"] kg2 kg2
  F_require_room:Fun K "require_room" "require_room" s_require_room a.f_require_room a.d_require_room
  m_require_room:mg "require_room" = some (.ref a.f_require_room)
  k_require_room:PySem.W.keepIn K (.ref a.f_require_room)=true
  bd_require_room:Binds K a.d_require_room ["room"] []
  F_cut_of:Fun K "cut_of" "cut_of" s_cut_of a.f_cut_of a.d_cut_of
  m_cut_of:mg "cut_of" = some (.ref a.f_cut_of)
  k_cut_of:PySem.W.keepIn K (.ref a.f_cut_of)=true
  bd_cut_of:Binds K a.d_cut_of ["room","slots","end","applied"] []
  F_Slots_init:Fun K "__init__" "Slots.__init__" s_Slots_init a.f_Slots_init a.d_Slots_init
  bd_Slots_init:Binds K a.d_Slots_init ["self","room"] []
  F_Slots_hold:Fun K "hold" "Slots.hold" s_Slots_hold a.f_Slots_hold a.d_Slots_hold
  mt_Slots_hold:Meth K a.C_Slots "hold" a.f_Slots_hold
  bd_Slots_hold:Binds K a.d_Slots_hold ["self","house","place"] []
  F_Slots_anew:Fun K "anew" "Slots.anew" s_Slots_anew a.f_Slots_anew a.d_Slots_anew
  mt_Slots_anew:Meth K a.C_Slots "anew" a.f_Slots_anew
  bd_Slots_anew:Binds K a.d_Slots_anew ["self","house","place"] []
  F_Slots_free:Fun K "free" "Slots.free" s_Slots_free a.f_Slots_free a.d_Slots_free
  mt_Slots_free:Meth K a.C_Slots "free" a.f_Slots_free
  bd_Slots_free:Binds K a.d_Slots_free ["self","house"] []
  F_Slots_held:Fun K "held" "Slots.held" s_Slots_held a.f_Slots_held a.d_Slots_held
  mt_Slots_held:Meth K a.C_Slots "held" a.f_Slots_held
  bd_Slots_held:Binds K a.d_Slots_held ["self"] []
  F_Slots_cut_for:Fun K "cut_for" "Slots.cut_for" s_Slots_cut_for a.f_Slots_cut_for a.d_Slots_cut_for
  mt_Slots_cut_for:Meth K a.C_Slots "cut_for" a.f_Slots_cut_for
  bd_Slots_cut_for:Binds K a.d_Slots_cut_for ["self","end","applied"] []
  F_Slots___len:Fun K "__len__" "Slots.__len__" s_Slots___len a.f_Slots___len a.d_Slots___len
  mt_Slots___len:Meth K a.C_Slots "__len__" a.f_Slots___len
  bd_Slots___len:Binds K a.d_Slots___len ["self"] []
  F_Slots___eq:Fun K "__eq__" "Slots.__eq__" s_Slots___eq a.f_Slots___eq a.d_Slots___eq
  mt_Slots___eq:Meth K a.C_Slots "__eq__" a.f_Slots___eq
  bd_Slots___eq:Binds K a.d_Slots___eq ["self","other"] []
  F_law_deck:Fun K "_law_deck" "_law_deck" s_law_deck a.f_law_deck a.d_law_deck
  m__law_deck:mg "_law_deck" = some (.ref a.f_law_deck)
  k__law_deck:PySem.W.keepIn K (.ref a.f_law_deck)=true
  bd__law_deck:Binds K a.d_law_deck ["_law_script"] []
  F_law_take:Fun K "_law_take" "_law_take" s_law_take a.f_law_take a.d_law_take
  m__law_take:mg "_law_take" = some (.ref a.f_law_take)
  k__law_take:PySem.W.keepIn K (.ref a.f_law_take)=true
  bd__law_take:Binds K a.d_law_take ["_law_deck_here","_law_many"] []
  F_law_same:Fun K "_law_same" "_law_same" s_law_same a.f_law_same a.d_law_same
  m__law_same:mg "_law_same" = some (.ref a.f_law_same)
  k__law_same:PySem.W.keepIn K (.ref a.f_law_same)=true
  bd__law_same:Binds K a.d_law_same ["_law_found","_law_due"] []
  F_law_names:Fun K "_law_names" "_law_names" s_law_names a.f_law_names a.d_law_names
  m__law_names:mg "_law_names" = some (.ref a.f_law_names)
  k__law_names:PySem.W.keepIn K (.ref a.f_law_names)=true
  bd__law_names:Binds K a.d_law_names ["_law_error"] []
  F_law_caught:Fun K "_law_caught" "_law_caught" s_law_caught a.f_law_caught a.d_law_caught
  m__law_caught:mg "_law_caught" = some (.ref a.f_law_caught)
  k__law_caught:PySem.W.keepIn K (.ref a.f_law_caught)=true
  bd__law_caught:Binds K a.d_law_caught ["_law_way","_law_slots","_law_one","_law_other"] []
  F_law_refused:Fun K "_law_refused" "_law_refused" s_law_refused a.f_law_refused a.d_law_refused
  m__law_refused:mg "_law_refused" = some (.ref a.f_law_refused)
  k__law_refused:PySem.W.keepIn K (.ref a.f_law_refused)=true
  bd__law_refused:Binds K a.d_law_refused ["_law_way","_law_slots","_law_handed","_law_name","_law_field"] []
  F_law_place:Fun K "_law_place" "_law_place" s_law_place a.f_law_place a.d_law_place
  m__law_place:mg "_law_place" = some (.ref a.f_law_place)
  k__law_place:PySem.W.keepIn K (.ref a.f_law_place)=true
  bd__law_place:Binds K a.d_law_place ["_law_deck_here"] []
  F_law_odd:Fun K "_law_odd" "_law_odd" s_law_odd a.f_law_odd a.d_law_odd
  m__law_odd:mg "_law_odd" = some (.ref a.f_law_odd)
  k__law_odd:PySem.W.keepIn K (.ref a.f_law_odd)=true
  bd__law_odd:Binds K a.d_law_odd ["_law_deck_here","_law_most"] []
  F_law_wrong:Fun K "_law_wrong" "_law_wrong" s_law_wrong a.f_law_wrong a.d_law_wrong
  m__law_wrong:mg "_law_wrong" = some (.ref a.f_law_wrong)
  k__law_wrong:PySem.W.keepIn K (.ref a.f_law_wrong)=true
  bd__law_wrong:Binds K a.d_law_wrong ["_law_deck_here","_law_slots"] []
  F_law_cuts:Fun K "_law_cuts" "_law_cuts" s_law_cuts a.f_law_cuts a.d_law_cuts
  m__law_cuts:mg "_law_cuts" = some (.ref a.f_law_cuts)
  k__law_cuts:PySem.W.keepIn K (.ref a.f_law_cuts)=true
  bd__law_cuts:Binds K a.d_law_cuts ["_law_deck_here","_law_slots","_law_room_here","_law_model"] []
  F_law_put:Fun K "_law_put" "_law_put" s_law_put a.f_law_put a.d_law_put
  m__law_put:mg "_law_put" = some (.ref a.f_law_put)
  k__law_put:PySem.W.keepIn K (.ref a.f_law_put)=true
  bd__law_put:Binds K a.d_law_put ["_law_deck_here","_law_slots","_law_model","_law_way"] []
  F_law_deed:Fun K "_law_deed" "_law_deed" s_law_deed a.f_law_deed a.d_law_deed
  m__law_deed:mg "_law_deed" = some (.ref a.f_law_deed)
  k__law_deed:PySem.W.keepIn K (.ref a.f_law_deed)=true
  bd__law_deed:Binds K a.d_law_deed ["_law_deck_here","_law_slots","_law_room_here","_law_model"] []
  F_law_looks:Fun K "_law_looks" "_law_looks" s_law_looks a.f_law_looks a.d_law_looks
  m__law_looks:mg "_law_looks" = some (.ref a.f_law_looks)
  k__law_looks:PySem.W.keepIn K (.ref a.f_law_looks)=true
  bd__law_looks:Binds K a.d_law_looks ["_law_slots","_law_model"] []
  F_law_room:Fun K "_law_room" "_law_room" s_law_room a.f_law_room a.d_law_room
  m__law_room:mg "_law_room" = some (.ref a.f_law_room)
  k__law_room:PySem.W.keepIn K (.ref a.f_law_room)=true
  bd__law_room:Binds K a.d_law_room ["_law_deck_here"] []
  F_law_no_room:Fun K "_law_no_room" "_law_no_room" s_law_no_room a.f_law_no_room a.d_law_no_room
  m__law_no_room:mg "_law_no_room" = some (.ref a.f_law_no_room)
  k__law_no_room:PySem.W.keepIn K (.ref a.f_law_no_room)=true
  bd__law_no_room:Binds K a.d_law_no_room ["_law_deck_here"] []
  F_law:Fun K "law" "law" s_law a.f_law a.d_law
  m_law:mg "law" = some (.ref a.f_law)
  k_law:PySem.W.keepIn K (.ref a.f_law)=true
  bd_law:Binds K a.d_law ["_law_script"] []
  dB_require_house:Binds K a.d_require_house ["thing","houses"] [a.u_HOUSES]
  bl_law:∀ (s:Shared) (u:Value),BindsTo s a.d_law ⟨[u],[]⟩ [("_law_script",u)]
section
variable {P:Program}{w:World}{K:PySem.W.Frag}{mg:Str→Option Value}{base:Heap}{a:Adr}
noncomputable def sp_is_number (K:PySem.W.Frag):Sp:=fun vs H Q _=>∃ (N:List Addr) (x:V) (d:PyData),vs = [x]∧Dt K N H x d∧Q (.bl (Mt.numD d)) H
theorem ok_is_number (T:Txt P K mg a)  : FnOk P w K mg base CX0 1 a.f_is_number a.d_is_number ["thing"] (sp_is_number K):=by
  refine T.F_is_number.ok sc_is_number (fun vs H Q E h=>?_) (fun cdv A outer s H vs Q E hr h=>?_)
  · obtain ⟨N,x,d,rfl,_⟩:=h; rfl
  · obtain ⟨N,x,d,rfl,hd,k⟩:=h
    refine exW ⟨_,(qss_one (qs_ret (pe_and (qe_callB cn_isi (by rfl) T.b_isinstance (by decide +kernel) (qa (pv 0 (by rfl) (by walk_at "vis") (by decide) (by decide)) (qa (pe_bltn (by rfl) T.b_int (by decide +kernel) (v:=.ty "int") rfl (by decide) (by decide)) qa_nil (by rfl)) (by rfl)) (by decide) (by decide) (by rfl) (by rfl)) (pe_one (pe_not (qe_callB cn_isi (by rfl) T.b_isinstance (by decide +kernel) (qa (pv 0 (by rfl) (by walk_at "vis") (by decide) (by decide)) (qa (pe_bltn (by rfl) T.b_bool (by decide +kernel) (v:=.ty "bool") rfl (by decide) (by decide)) qa_nil (by rfl)) (by rfl)) (by decide) (by decide) (by rfl) (by rfl))))))),?_⟩
    try dsimp only [cxOf]
    walk_at "rd"
    cases d with
    | int i=>dsimp only [isIntD]; walk_at "rd"; dsimp only [isBoolD]; walk_at "rd"; exact k
    | bool b=>dsimp only [isIntD]; walk_at "rd"; dsimp only [isBoolD]; walk_at "rd"; exact k
    | _=>dsimp only [isIntD]; walk_at "rd"; exact k
noncomputable def sp_is_within (K:PySem.W.Frag):Sp:=fun vs H Q _=>∃ (N:List Addr) (x:V) (d:PyData) (lo hi:Int),vs = [x,.int lo,.int hi]∧Dt K N H x d∧Q (.bl (Mt.withinD lo hi d)) H
theorem ok_is_within (T:Txt P K mg a) (G_is_number:FnOk P w K mg base CX0 1 a.f_is_number a.d_is_number ["thing"] (sp_is_number K)):FnOk P w K mg base CX0 2 a.f_is_within a.d_is_within ["thing","least","most"] (sp_is_within K):=by
  refine T.F_is_within.ok sc_is_within (fun vs H Q E h=>?_) (fun cdv A outer s H vs Q E hr h=>?_)
  · obtain ⟨N,x,d,lo,hi,rfl,_⟩:=h; rfl
  · obtain ⟨N,x,d,lo,hi,rfl,hd,k⟩:=h
    refine exW ⟨_,(qss_one (qs_ret (pe_and (qe_call G_is_number (hr.mono (by decide)) (by rfl) T.m_is_number T.k_is_number T.bd_is_number .nil pass0 (qa (pv 0 (by rfl) (by walk_at "vis") (by decide) (by decide)) qa_nil (by rfl)) (by decide) (by rfl) (by rfl)) (pe_one (pe_chain op_le op_le (pv 1 (by rfl) (by walk_at "vis") (by decide) (by decide)) (pv 0 (by rfl) (by walk_at "vis") (by decide) (by decide)) (pv 2 (by rfl) (by walk_at "vis") (by decide) (by decide)) (by with_unfolding_all rfl)))))),?_⟩
    try dsimp only [cxOf]
    walk_at "rd"
    refine ⟨N,x,d,rfl,hd,rd_bl' ?_⟩
    cases hd with
    | int i =>
      dsimp only [Mt.numD]
      walk_at "rd"
      refine rd_ite2 (fun hc=>?_) (fun hc=>?_)
      · walk_at "rd"
        simpa only [Mt.withinD,hc,Bool.true_and] using k
      · simpa only [Mt.withinD,hc,Bool.false_and] using k
    | _=>dsimp only [Mt.numD]; walk_at "rd"; exact k
noncomputable def sp_require_within (K:PySem.W.Frag) (a:Adr):Sp:=fun vs H Q E=>∃ (N:List Addr) (x:V) (d:PyData) (lo hi:Int) (w:Str),vs = [x,.int lo,.int hi,.str w]∧Dt K N H x d∧(Mt.withinD lo hi d=true→Q .non H)∧(Mt.withinD lo hi d=false→∀ dx,H dx=none→E (.ref a.C_NoCount) (some dx) (upd H dx (.xd [("what",.str w)])))
theorem ok_require_within (T:Txt P K mg a) (G_is_within:FnOk P w K mg base CX0 2 a.f_is_within a.d_is_within ["thing","least","most"] (sp_is_within K)):FnOk P w K mg base (CX1 P w) 3 a.f_require_within a.d_require_within ["thing","least","most","what"] (sp_require_within K a):=by
  refine T.F_require_within.okX sc_require_within (fun vs H Q E h=>?_) (fun cdv A outer s H vs Q E hr h=>?_)
  · obtain ⟨N,x,d,lo,hi,w,rfl,_⟩:=h; rfl
  · obtain ⟨N,x,d,lo,hi,w,rfl,hd,k1,k2⟩:=h
    refine exW ⟨_,(qss_one (qs_if (pt_not (pt_val (qe_call G_is_within (hr.mono (by decide)) (by rfl) T.m_is_within T.k_is_within T.bd_is_within .nil pass0 (qa (pv 0 (by rfl) (by walk_at "vis") (by decide) (by decide)) (qa (pv 1 (by rfl) (by walk_at "vis") (by decide) (by decide)) (qa (pv 2 (by rfl) (by walk_at "vis") (by decide) (by decide)) qa_nil (by rfl)) (by rfl)) (by rfl)) (by decide) (by rfl) (by rfl)) (by intro _; rfl)))
        (qss_one (qs_raise1 px1 (by rfl) (hr.mono (by decide)) (by rfl) T.mC_NoCount T.Z_NoCount (qa (pv 3 (by rfl) (by walk_at "vis") (by decide) (by decide)) qa_nil (by rfl)) (by rfl) (by decide)))
        qss_nil)),?_⟩
    try dsimp only [cxOf]
    walk_at "rd"
    refine ⟨N,x,d,lo,hi,rfl,hd,?_⟩
    cases hh:Mt.withinD lo hi d with
    | true =>
      walk_at "rd"
      exact k1 hh
    | false =>
      walk_at "rd"
      exact ⟨_,rfl,k2 hh⟩
noncomputable def sp_is_place (K:PySem.W.Frag):Sp:=fun vs H Q _=>∃ (N:List Addr) (x:V) (d:PyData),vs = [x]∧Dt K N H x d∧Q (.bl (Mt.withinD 0 1000000 d)) H
theorem ok_is_place (T:Txt P K mg a) (G_is_within:FnOk P w K mg base CX0 2 a.f_is_within a.d_is_within ["thing","least","most"] (sp_is_within K)):FnOk P w K mg base CX0 3 a.f_is_place a.d_is_place ["thing"] (sp_is_place K):=by
  refine T.F_is_place.ok sc_is_place (fun vs H Q E h=>?_) (fun cdv A outer s H vs Q E hr h=>?_)
  · obtain ⟨N,x,d,rfl,_⟩:=h; rfl
  · obtain ⟨N,x,d,rfl,hd,k⟩:=h
    refine exW ⟨_,(qss_one (qs_ret (qe_call G_is_within (hr.mono (by decide)) (by rfl) T.m_is_within T.k_is_within T.bd_is_within .nil pass0 (qa (pv 0 (by rfl) (by walk_at "vis") (by decide) (by decide)) (qa pe_int (qa (pe_glob (by rfl) T.c_LAST_PLACE.1 T.c_LAST_PLACE.2 (by decide)) qa_nil (by rfl)) (by rfl)) (by rfl)) (by decide) (by rfl) (by rfl)))),?_⟩
    try dsimp only [cxOf]
    walk_at "rd"
    exact ⟨N,x,d,0,1000000,rfl,hd,k⟩
noncomputable def sp_require_place (K:PySem.W.Frag) (a:Adr):Sp:=fun vs H Q E=>∃ (N:List Addr) (x:V) (d:PyData),vs = [x]∧Dt K N H x d∧(Mt.withinD 0 1000000 d=true→Q .non H)∧(Mt.withinD 0 1000000 d=false→∀ dx,H dx=none→E (.ref a.C_NoPlace) (some dx) (upd H dx (.xd [("place",x)])))
theorem ok_require_place (T:Txt P K mg a) (G_is_place:FnOk P w K mg base CX0 3 a.f_is_place a.d_is_place ["thing"] (sp_is_place K)):FnOk P w K mg base (CX1 P w) 4 a.f_require_place a.d_require_place ["thing"] (sp_require_place K a):=by
  refine T.F_require_place.okX sc_require_place (fun vs H Q E h=>?_) (fun cdv A outer s H vs Q E hr h=>?_)
  · obtain ⟨N,x,d,rfl,_⟩:=h; rfl
  · obtain ⟨N,x,d,rfl,hd,k1,k2⟩:=h
    refine exW ⟨_,(qss_one (qs_if (pt_not (pt_val (qe_call G_is_place (hr.mono (by decide)) (by rfl) T.m_is_place T.k_is_place T.bd_is_place .nil pass0 (qa (pv 0 (by rfl) (by walk_at "vis") (by decide) (by decide)) qa_nil (by rfl)) (by decide) (by rfl) (by rfl)) (by intro _; rfl)))
        (qss_one (qs_raise1 px1 (by rfl) (hr.mono (by decide)) (by rfl) T.mC_NoPlace T.Z_NoPlace (qa (pv 0 (by rfl) (by walk_at "vis") (by decide) (by decide)) qa_nil (by rfl)) (by rfl) (by decide)))
        qss_nil)),?_⟩
    try dsimp only [cxOf]
    walk_at "rd"
    refine ⟨N,x,d,rfl,hd,?_⟩
    cases hh:Mt.withinD 0 1000000 d with
    | true =>
      walk_at "rd"
      exact k1 hh
    | false =>
      walk_at "rd"
      exact ⟨_,rfl,k2 hh⟩
noncomputable def sp_is_house (K:PySem.W.Frag):Sp:=fun vs H Q _=>∃ (N:List Addr) (x:V) (d:PyData) (m:Int),vs = [x,.int m]∧Dt K N H x d∧Q (.bl (Mt.withinD 0 (m - 1) d)) H
theorem ok_is_house (T:Txt P K mg a) (G_is_within:FnOk P w K mg base CX0 2 a.f_is_within a.d_is_within ["thing","least","most"] (sp_is_within K)):FnOk P w K mg base CX0 3 a.f_is_house a.d_is_house ["thing","houses"] (sp_is_house K):=by
  refine T.F_is_house.ok sc_is_house (fun vs H Q E h=>?_) (fun cdv A outer s H vs Q E hr h=>?_)
  · obtain ⟨N,x,d,m,rfl,_⟩:=h; rfl
  · obtain ⟨N,x,d,m,rfl,hd,k⟩:=h
    refine exW ⟨_,(qss_one (qs_ret (qe_call G_is_within (hr.mono (by decide)) (by rfl) T.m_is_within T.k_is_within T.bd_is_within .nil pass0 (qa (pv 0 (by rfl) (by walk_at "vis") (by decide) (by decide)) (qa pe_int (qa (pe_op op_sub (pv 1 (by rfl) (by walk_at "vis") (by decide) (by decide)) pe_int) qa_nil (by rfl)) (by rfl)) (by rfl)) (by decide) (by rfl) (by rfl)))),?_⟩
    try dsimp only [cxOf]
    walk_at "rd"
    exact ⟨N,x,d,0,m - 1,rfl,hd,k⟩
noncomputable def sp_require_house (K:PySem.W.Frag) (a:Adr):Sp:=fun vs H Q E=>∃ (N:List Addr) (x:V) (d:PyData) (m:Int),vs = [x,.int m]∧Dt K N H x d∧(Mt.withinD 0 (m - 1) d=true→Q .non H)∧(Mt.withinD 0 (m - 1) d=false→∀ dx,H dx=none→E (.ref a.C_NoHouse) (some dx) (upd H dx (.xd [("house",x)])))
theorem ok_require_house (T:Txt P K mg a) (G_is_house:FnOk P w K mg base CX0 3 a.f_is_house a.d_is_house ["thing","houses"] (sp_is_house K)):FnOk P w K mg base (CX1 P w) 4 a.f_require_house a.d_require_house ["thing","houses"] (sp_require_house K a):=by
  refine T.F_require_house.okX sc_require_house (fun vs H Q E h=>?_) (fun cdv A outer s H vs Q E hr h=>?_)
  · obtain ⟨N,x,d,m,rfl,_⟩:=h; rfl
  · obtain ⟨N,x,d,m,rfl,hd,k1,k2⟩:=h
    refine exW ⟨_,(qss_one (qs_if (pt_not (pt_val (qe_callK G_is_house (hr.mono (by decide)) (by rfl) T.m_is_house T.k_is_house T.kb_is_house pass0 (qa (pv 0 (by rfl) (by walk_at "vis") (by decide) (by decide)) qa_nil (by rfl)) (qk (pv 1 (by rfl) (by walk_at "vis") (by decide) (by decide)) qk_nil) (by rfl) (by rfl) (by decide) (by rfl) (by rfl)) (by intro _; rfl)))
        (qss_one (qs_raise1 px1 (by rfl) (hr.mono (by decide)) (by rfl) T.mC_NoHouse T.Z_NoHouse (qa (pv 0 (by rfl) (by walk_at "vis") (by decide) (by decide)) qa_nil (by rfl)) (by rfl) (by decide)))
        qss_nil)),?_⟩
    try dsimp only [cxOf]
    walk_at "rd"
    refine ⟨N,x,d,m,rfl,hd,?_⟩
    cases hh:Mt.withinD 0 (m - 1) d with
    | true =>
      walk_at "rd"
      exact k1 hh
    | false =>
      walk_at "rd"
      exact ⟨_,rfl,k2 hh⟩
noncomputable def sp_require_room (K:PySem.W.Frag) (a:Adr):Sp:=fun vs H Q E=>∃ (N:List Addr) (x:V) (d:PyData),vs = [x]∧Dt K N H x d∧(Mt.withinD 1 400 d=true→Q .non H)∧(Mt.withinD 1 400 d=false→∀ dx,H dx=none→E (.ref a.C_NoCount) (some dx) (upd H dx (.xd [("what",.str "room")])))
theorem ok_require_room (T:Txt P K mg a) (G_require_within:FnOk P w K mg base (CX1 P w) 3 a.f_require_within a.d_require_within ["thing","least","most","what"] (sp_require_within K a)):FnOk P w K mg base (CX1 P w) 4 a.f_require_room a.d_require_room ["room"] (sp_require_room K a):=by
  refine T.F_require_room.okX sc_require_room (fun vs H Q E h=>?_) (fun cdv A outer s H vs Q E hr h=>?_)
  · obtain ⟨N,x,d,rfl,_⟩:=h; rfl
  · obtain ⟨N,x,d,rfl,hd,k1,k2⟩:=h
    refine exW ⟨_,(qss_one (qs_expr (qe_callX G_require_within (hr.mono (by decide)) (by rfl) T.m_require_within T.k_require_within T.bd_require_within .nil px1 (qa (pv 0 (by rfl) (by walk_at "vis") (by decide) (by decide)) (qa pe_int (qa (pe_glob (by rfl) T.c_MOST_ROOM.1 T.c_MOST_ROOM.2 (by decide)) (qa pe_str qa_nil (by rfl)) (by rfl)) (by rfl)) (by rfl)) (by decide) (by rfl) (by rfl)) (by rfl))),?_⟩
    try dsimp only [cxOf]
    walk_at "rd"
    refine ⟨N,x,d,1,400,_,rfl,hd,fun hh=>?_,k2⟩
    walk_at "rd"
    exact k1 hh
noncomputable def sp_cut_of (K:PySem.W.Frag) (a:Adr):Sp:=fun vs H Q E=>∃ (N:List Addr) (x e y:V) (d1 d2 d3:PyData) (p:Addr) (ws:List V) (ps:List (Int×Int)),vs = [x,.ref p,e,y]∧Dt K N H x d1∧Dt K N H e d2∧Dt K N H y d3∧SqT K H p ws∧DtAll K N H ws (ps.map pairD)∧ps.length ≤ 60 ∧
  ((Mt.withinD 1 400 d1=false∧∀ dx,H dx=none→E (.ref a.C_NoCount) (some dx) (upd H dx (.xd [("what",.str "room")]))) ∨
   (Mt.withinD 1 400 d1=true∧Mt.withinD 0 1000000 d2=false∧∀ dx,H dx=none→E (.ref a.C_NoPlace) (some dx) (upd H dx (.xd [("place",e)]))) ∨
   (∃ en:Int,e = .int en∧Mt.withinD 1 400 d1=true∧0 ≤ en∧en ≤ 1000000∧Mt.withinD 0 en d3=false∧∀ dx,H dx=none→E (.ref a.C_NoPlace) (some dx) (upd H dx (.xd [("place",y)]))) ∨
   (∃ room en app:Int,x = .int room∧e = .int en∧y = .int app∧1 ≤ room∧room ≤ 400∧0 ≤ en∧en ≤ 1000000∧0 ≤ app∧app ≤ en ∧
     ∀ (m:Int) (ns:List Int) (t q:Addr) (H':Hp),IsCut room en app ps m ns→Same H H'→SqT K H' q (ns.map V.int)→SqT K H' t [.int m,.ref q]→Q (.ref t) H'))
theorem ok_cut_of (T:Txt P K mg a) (G_is_within:FnOk P w K mg base CX0 2 a.f_is_within a.d_is_within ["thing","least","most"] (sp_is_within K)) (G_require_place:FnOk P w K mg base (CX1 P w) 4 a.f_require_place a.d_require_place ["thing"] (sp_require_place K a)) (G_require_room:FnOk P w K mg base (CX1 P w) 4 a.f_require_room a.d_require_room ["room"] (sp_require_room K a)):FnOk P w K mg base (CX1 P w) 5 a.f_cut_of a.d_cut_of ["room","slots","end","applied"] (sp_cut_of K a):=by
  refine T.F_cut_of.okX sc_cut_of (fun vs H Q E h=>?_) (fun cdv A outer s H vs Q E hr h=>?_)
  · obtain ⟨N,x,e,y,d1,d2,d3,p,ws,ps,rfl,_⟩:=h; rfl
  · obtain ⟨N,x,e,y,d1,d2,d3,p,ws,ps,rfl,hx,he,hy,hq,hd,hl,k⟩:=h
    refine exW ⟨_,(qss_cons (qs_expr (qe_callX G_require_room (hr.mono (by decide)) (by rfl) T.m_require_room T.k_require_room T.bd_require_room .nil px1 (qa (pv 0 (by rfl) (by walk_at "vis") (by decide) (by decide)) qa_nil (by rfl)) (by decide) (by rfl) (by rfl)) (by rfl))
      (qss_cons (qs_expr (qe_callX G_require_place (hr.mono (by decide)) (by rfl) T.m_require_place T.k_require_place T.bd_require_place .nil px1 (qa (pv 2 (by rfl) (by walk_at "vis") (by decide) (by decide)) qa_nil (by rfl)) (by decide) (by rfl) (by rfl)) (by rfl))
      (qss_cons (qs_if (pt_not (pt_val (qe_call G_is_within (hr.mono (by decide)) (by rfl) T.m_is_within T.k_is_within T.bd_is_within .nil pass0 (qa (pv 3 (by rfl) (by walk_at "vis") (by decide) (by decide)) (qa pe_int (qa (pv 2 (by rfl) (by walk_at "vis") (by decide) (by decide)) qa_nil (by rfl)) (by rfl)) (by rfl)) (by decide) (by rfl) (by rfl)) (by intro _; rfl)))
        (qss_one (qs_raise1 px1 (by rfl) (hr.mono (by decide)) (by rfl) T.mC_NoPlace T.Z_NoPlace (qa (pv 3 (by rfl) (by walk_at "vis") (by decide) (by decide)) qa_nil (by rfl)) (by rfl) (by decide)))
        qss_nil)
      (qss_cons (by
        refine' qs_setComp (i:=4) (NC:=["house","place","room","end"]) (fr:=[none,none,some 0,some 2]) sc_cut_of.nd rfl (Or.inl rfl) ?B1 rfl ?hi1 ?hg1 ?ht1 ?he1 ?hsw1 (by intro _; rfl) (by first | exact Or.inl rfl | exact Or.inr rfl)
        case B1=>exact ⟨rfl,rfl,by decide +kernel,by decide +kernel,rfl,⟨trivial,trivial,⟨rfl,rfl,Or.inl rfl⟩,⟨rfl,rfl,Or.inl rfl⟩,trivial⟩⟩
        case hi1=>exact (pi_tup (pv 1 (by rfl) (by walk_at "vis") (by decide) (by decide)))
        case hg1=>intro _ _ _; exact (pg_tupK (K:=K) (n:=2) (by rfl) rfl (pgs_cons (pg_name (i:=0) (show (["house","place","room","end"]:List Str).Nodup by decide +kernel) rfl (Or.inl rfl) (by first | exact Or.inl rfl | exact Or.inr rfl)) (pgs_cons (pg_name (i:=1) (show (["house","place","room","end"]:List Str).Nodup by decide +kernel) rfl (Or.inl rfl) (by first | exact Or.inl rfl | exact Or.inr rfl)) pgs_nil (by rfl)) (by rfl)) (by rfl) (by rfl))
        case ht1=>intro _ _ _; exact (pf_one (pt_cmpR op_lt (pe_op op_add (pv 1 (by rfl) (by walk_at "vis") (by decide) (by decide)) (pv 2 (by rfl) (by walk_at "vis") (by decide) (by decide))) (pv 3 (by rfl) (by walk_at "vis") (by decide) (by decide)) (nomark _)))
        case he1=>intro _ _ _; exact (pv 0 (by rfl) (by walk_at "vis") (by decide) (by decide))
        case hsw1=>rfl)
      (qss_cons (by
        refine' qs_setComp (i:=5) (NC:=["house","place","room","end"]) (fr:=[none,none,some 0,some 2]) sc_cut_of.nd rfl (Or.inl rfl) ?B2 rfl ?hi2 ?hg2 ?ht2 ?he2 ?hsw2 (by intro _; rfl) (by first | exact Or.inl rfl | exact Or.inr rfl)
        case B2=>exact ⟨rfl,rfl,by decide +kernel,by decide +kernel,rfl,⟨trivial,trivial,⟨rfl,rfl,Or.inl rfl⟩,⟨rfl,rfl,Or.inl rfl⟩,trivial⟩⟩
        case hi2=>exact (pi_tup (pv 1 (by rfl) (by walk_at "vis") (by decide) (by decide)))
        case hg2=>intro _ _ _; exact (pg_tupK (K:=K) (n:=2) (by rfl) rfl (pgs_cons (pg_name (i:=0) (show (["house","place","room","end"]:List Str).Nodup by decide +kernel) rfl (Or.inl rfl) (by first | exact Or.inl rfl | exact Or.inr rfl)) (pgs_cons (pg_name (i:=1) (show (["house","place","room","end"]:List Str).Nodup by decide +kernel) rfl (Or.inl rfl) (by first | exact Or.inl rfl | exact Or.inr rfl)) pgs_nil (by rfl)) (by rfl)) (by rfl) (by rfl))
        case ht2=>intro _ _ _; exact (pf_one (pt_cmpR op_ge (pe_op op_add (pv 1 (by rfl) (by walk_at "vis") (by decide) (by decide)) (pv 2 (by rfl) (by walk_at "vis") (by decide) (by decide))) (pv 3 (by rfl) (by walk_at "vis") (by decide) (by decide)) (nomark _)))
        case he2=>intro _ _ _; exact (pv 1 (by rfl) (by walk_at "vis") (by decide) (by decide))
        case hsw2=>rfl)
      (qss_one (qs_ret (qe_tup (qa (qe_callB (cn_minL (by rfl)) (by rfl) T.b_min (by decide +kernel) (qa (qe_lst (qa_starL (pv 5 (by rfl) (by walk_at "vis") (by decide) (by decide)) (qa (pv 3 (by rfl) (by walk_at "vis") (by decide) (by decide)) qa_nil (by rfl)))) qa_nil (by rfl)) (by decide) (by decide) (by rfl) (by rfl)) (qa (qe_callTy cn_tuple (by rfl) T.b_tuple (by decide +kernel) (qa (qe_callB cn_sort (by rfl) T.b_sorted (by decide +kernel) (qa (pv 4 (by rfl) (by walk_at "vis") (by decide) (by decide)) qa_nil (by rfl)) (by decide) (by decide) (by rfl) (by rfl)) qa_nil (by rfl)) (by decide) (by decide) (by rfl) (by rfl)) qa_nil (by rfl)) (by rfl)))))))))),?_⟩
    try dsimp only [cxOf]
    walk_at "rd"
    rcases k with ⟨h1,k⟩ | ⟨h1,h2,k⟩ | ⟨en,rfl,h1,e0,e1,h3,k⟩ | ⟨room,en,app,rfl,rfl,rfl,r0,r1,e0,e1,a0,a1,k⟩
    · exact ⟨N,x,d1,rfl,hx,fun q=>(by rw [h1] at q; cases q),fun _=>k⟩
    · refine ⟨N,x,d1,rfl,hx,fun _=>?_,fun q=>(by rw [h1] at q; cases q)⟩
      walk_at "rd"
      exact ⟨N,e,d2,rfl,he,fun q=>(by rw [h2] at q; cases q),fun _=>k⟩
    · refine ⟨N,x,d1,rfl,hx,fun _=>?_,fun q=>(by rw [h1] at q; cases q)⟩
      walk_at "rd"
      refine ⟨[],.int en,.int en,rfl,.int en,fun _=>?_,fun q=>by simp [Mt.withinD] at q; omega⟩
      walk_at "rd"
      refine ⟨N,y,d3,0,en,rfl,hy,?_⟩
      rw [h3]
      walk_at "rd"
      exact ⟨_,rfl,k⟩
    · refine ⟨[],.int room,.int room,rfl,.int room,fun _=>?_,fun q=>by simp [Mt.withinD] at q; omega⟩
      walk_at "rd"
      refine ⟨[],.int en,.int en,rfl,.int en,fun _=>?_,fun q=>by simp [Mt.withinD] at q; omega⟩
      walk_at "rd"
      refine ⟨[],.int app,.int app,0,en,rfl,.int app,?_⟩
      rw [show Mt.withinD 0 en (.int app)=true by simp [Mt.withinD]; omega]
      walk_at "rd"
      refine ⟨p,rfl,⟨_,hq⟩,?_⟩
      intro ac1 na1 ka1
      refine comp_pairs ps ws (fun p=>decide (p.2 + room < en)) (·.1) (fun σ=>∃ o1 o2,σ = [o1,o2,some (.int room),some (.int en)]) (by omega) na1 ⟨none,none,rfl⟩ hq hd ?_ ?_
      · rintro pp q σc H2 R S hm hp sm ⟨o1,o2,rfl⟩ hR hS
        walk_at "rd"
        refine rd_ite2 (fun hc=>?_) (fun hc=>?_)
        · walk_at "rd"
          exact hR hc _ ⟨_,_,rfl⟩
        · exact hS hc _ ⟨_,_,rfl⟩
      · intro H2 s2 g2
        walk_at "rd"
        have hq2:=s2.tupS hq
        have hd2:=hd.ext (Ext.same (N:=N) s2)
        refine ⟨p,rfl,⟨_,hq2⟩,?_⟩
        intro ac2 na2 ka2
        refine comp_pairs ps ws (fun p=>decide (p.2 + room ≥ en)) (·.2) (fun σ=>∃ o1 o2,σ = [o1,o2,some (.int room),some (.int en)]) (by omega) na2 ⟨none,none,rfl⟩ hq2 hd2 ?_ ?_
        · rintro pp q σc H3 R S hm hp sm ⟨o1,o2,rfl⟩ hR hS
          walk_at "rd"
          refine rd_ite2 (fun hc=>?_) (fun hc=>?_)
          · walk_at "rd"
            exact hR hc _ ⟨_,_,rfl⟩
          · exact hS hc _ ⟨_,_,rfl⟩
        · intro H3 s3 g3
          walk_at "rd"
          refine ⟨ac2,_,rfl,SqL.of g3,?_⟩
          walk_at "rd"
          have ll:List.map V.int (List.map (fun x=>x.2) (List.filter (fun p=>decide (p.2 + room ≥ en)) ps)) ++ [V.int app]=(leftL room en ps ++ [app]).map V.int:=by rw [List.map_append]; rfl
          rw [ll]
          refine ⟨sz (by have:=left_len room en ps; simp; omega),fun l4 n4=>?_⟩
          walk_at "rd"
          refine rd_minL (ns:=leftL room en ps ++ [app]) (SqL.of upd_same) (by simp) fun m hm1 hm2=>?_
          walk_at "rd"
          have g2':SqL K (upd H3 l4 (.lst ((leftL room en ps ++ [app]).map V.int))) ac1 ((brokL room en ps).map V.int):=SqL.of ((s3.trans (Same.upd n4)) _ _ g2)
          have hbl:(brokL room en ps).length ≤ ps.length:=by unfold brokL; rw [List.length_map]; exact List.length_filter_le _ _
          refine rd_sort g2' (by omega) fun l5 ns n5 hp hs=>?_
          walk_at "rd"
          intro l6 n6
          walk_at "rd"
          refine ⟨sz (by simp),fun l7 n7=>?_⟩
          refine k m ns l7 l6 _ ⟨hm1,hm2,hp,hs⟩ ((((s2.trans s3).trans (Same.upd n4)).trans (Same.upd n5)).trans ((Same.upd n6).trans (Same.upd n7))) ?_ (SqT.of upd_same)
          exact (Same.upd n7).tupS (SqT.of upd_same)
noncomputable def sp_Slots_init (K:PySem.W.Frag) (a:Adr):Sp:=fun vs H Q E=>∃ (N:List Addr) (p dx:Addr) (x:V) (dd:PyData),vs = [.ref p,x]∧H p=some (.ins a.C_Slots dx [])∧Dt K N H x dd ∧
  ((Mt.withinD 1 400 dd=false∧∀ dy,H dy=none→E (.ref a.C_NoCount) (some dy) (upd H dy (.xd [("what",.str "room")]))) ∨
   (∃ room:Int,x = .int room∧1 ≤ room∧room ≤ 400∧∀ (d:Addr) (H':Hp),H d=none→SlAt a.C_Slots H' p d room []→(∀ b o,H b=some o→b ≠ p→H' b=some o)→Q .non H'))
theorem ok_Slots_init (T:Txt P K mg a) (G_require_room:FnOk P w K mg base (CX1 P w) 4 a.f_require_room a.d_require_room ["room"] (sp_require_room K a)):FnOk P w K mg base (CX1 P w) 5 a.f_Slots_init a.d_Slots_init ["self","room"] (sp_Slots_init K a):=by
  refine T.F_Slots_init.okX sc_Slots_init (fun vs H Q E h=>?_) (fun cdv A outer s H vs Q E hr h=>?_)
  · obtain ⟨N,p,dx,x,dd,rfl,_⟩:=h; rfl
  · obtain ⟨N,p,dx,x,dd,rfl,hp,hd,k⟩:=h
    refine exW ⟨_,(qss_cons (qs_expr (qe_callX G_require_room (hr.mono (by decide)) (by rfl) T.m_require_room T.k_require_room T.bd_require_room .nil px1 (qa (pv 1 (by rfl) (by walk_at "vis") (by decide) (by decide)) qa_nil (by rfl)) (by decide) (by rfl) (by rfl)) (by rfl))
      (qss_cons (qs_fld (pv 0 (by rfl) (by walk_at "vis") (by decide) (by decide)) (pv 1 (by rfl) (by walk_at "vis") (by decide) (by decide)) (by rfl))
      (qss_one (qs_fld (pv 0 (by rfl) (by walk_at "vis") (by decide) (by decide)) pe_dnewK (by rfl))))),?_⟩
    try dsimp only [cxOf]
    walk_at "rd"
    rcases k with ⟨hw,k⟩ | ⟨room,rfl,r0,r1,k⟩
    · exact ⟨N,x,dd,rfl,hd,fun z=>(by rw [hw] at z; cases z),fun _=>k⟩
    · refine ⟨[],.int room,.int room,rfl,.int room,fun _=>?_,fun q=>by simp [Mt.withinD] at q; omega⟩
      walk_at "rd"
      refine ⟨p,_,dx,[],rfl,hp,T.cl_Slots,T.na_Slots_room,by decide,?_⟩
      walk_at "rd"
      intro d hd
      walk_at "rd"
      have npd:p ≠ d:=ne_of_none upd_same hd
      refine ⟨p,_,dx,_,rfl,by rw [upd_ne npd]; exact upd_same,T.cl_Slots,T.na_Slots_places,by show 1 < 1000; decide,?_⟩
      walk_at "rd"
      have hd0:H d=none:=by rw [← hd,upd_ne npd.symm]
      refine k d _ hd0 ⟨⟨dx,upd_same⟩,by rw [upd_ne npd.symm,upd_same]; rfl,List.nodup_nil⟩ fun b o e hb=>?_
      rw [upd_ne hb,upd_ne (ne_of_none e hd0),upd_ne hb]
      exact e
noncomputable def sp_Slots_hold (K:PySem.W.Frag) (a:Adr):Sp:=fun vs H Q E=>∃ (N:List Addr) (p d:Addr) (room:Int) (qs:List (Int×Int)) (x y:V) (d1 d2:PyData),vs = [.ref p,x,y]∧SlAt a.C_Slots H p d room qs∧qs.length < 1000∧Dt K N H x d1∧Dt K N H y d2 ∧
  ((Mt.withinD 0 7 d1=false∧∀ dx,H dx=none→E (.ref a.C_NoHouse) (some dx) (upd H dx (.xd [("house",x)]))) ∨
   (Mt.withinD 0 7 d1=true∧Mt.withinD 0 1000000 d2=false∧∀ dx,H dx=none→E (.ref a.C_NoPlace) (some dx) (upd H dx (.xd [("place",y)]))) ∨
   (∃ k v:Int,x = .int k∧y = .int v∧0 ≤ k∧k ≤ 7∧0 ≤ v∧v ≤ 1000000 ∧
     ∀ (qs':List (Int×Int)) (H':Hp),SlAt a.C_Slots H' p d room qs'→(∀ j,lookI qs' j=if j=k then some (mx v ((lookI qs k).getD 0)) else lookI qs j)→qs'.length ≤ qs.length + 1→Ext [d] H H'→Q .non H'))
theorem ok_Slots_hold (T:Txt P K mg a) (G_require_house:FnOk P w K mg base (CX1 P w) 4 a.f_require_house a.d_require_house ["thing","houses"] (sp_require_house K a)) (G_require_place:FnOk P w K mg base (CX1 P w) 4 a.f_require_place a.d_require_place ["thing"] (sp_require_place K a)):FnOk P w K mg base (CX1 P w) 5 a.f_Slots_hold a.d_Slots_hold ["self","house","place"] (sp_Slots_hold K a):=by
  refine T.F_Slots_hold.okX sc_Slots_hold (fun vs H Q E h=>?_) (fun cdv A outer s H vs Q E hr h=>?_)
  · obtain ⟨N,p,d,room,qs,x,y,d1,d2,rfl,_⟩:=h; rfl
  · obtain ⟨N,p,d,room,qs,x,y,d1,d2,rfl,S,hl,hx,hy,k⟩:=h
    obtain ⟨⟨dx,h1⟩,hd,nd⟩:=id S
    refine exW ⟨_,(qss_cons (qs_expr (qe_callX G_require_house (hr.mono (by decide)) (by rfl) T.m_require_house T.k_require_house T.dB_require_house (.cons T.c_HOUSES.2 .nil) px1 (qa (pv 1 (by rfl) (by walk_at "vis") (by decide) (by decide)) qa_nil (by rfl)) (by decide) (by rfl) (by rfl)) (by rfl))
      (qss_cons (qs_expr (qe_callX G_require_place (hr.mono (by decide)) (by rfl) T.m_require_place T.k_require_place T.bd_require_place .nil px1 (qa (pv 2 (by rfl) (by walk_at "vis") (by decide) (by decide)) qa_nil (by rfl)) (by decide) (by rfl) (by rfl)) (by rfl))
      (qss_one (qs_dput (hu_of hr) (pe_fld (pv 0 (by rfl) (by walk_at "vis") (by decide) (by decide)) (by rfl)) (pv 1 (by rfl) (by walk_at "vis") (by decide) (by decide)) (qe_callB (cn_max (by rfl)) (by rfl) T.b_max (by decide +kernel) (qa (pv 2 (by rfl) (by walk_at "vis") (by decide) (by decide)) (qa (pe_dget2 (hu_of hr) (pe_fld (pv 0 (by rfl) (by walk_at "vis") (by decide) (by decide)) (by rfl)) (pv 1 (by rfl) (by walk_at "vis") (by decide) (by decide)) pe_int ⟨by rfl,by rfl,by rfl,by rfl⟩) qa_nil (by rfl)) (by rfl)) (by decide) (by decide) (by rfl) (by rfl)) (by rfl))))),?_⟩
    try dsimp only [cxOf]
    walk_at "rd"
    rcases k with ⟨w1,k⟩ | ⟨w1,w2,k⟩ | ⟨kk,v,rfl,rfl,k0,k1,v0,v1,k⟩
    · exact ⟨N,x,d1,8,rfl,hx,fun z=>(by rw [show (8 - 1:Int)=7 from rfl,w1] at z; cases z),fun _=>k⟩
    · refine ⟨N,x,d1,8,rfl,hx,fun _=>?_,fun z=>(by rw [show (8 - 1:Int)=7 from rfl,w1] at z; cases z)⟩
      walk_at "rd"
      exact ⟨N,y,d2,rfl,hy,fun z=>(by rw [w2] at z; cases z),fun _=>k⟩
    · refine ⟨[],.int kk,.int kk,8,rfl,.int kk,fun _=>?_,fun q=>by simp [Mt.withinD] at q; omega⟩
      walk_at "rd"
      refine ⟨[],.int v,.int v,rfl,.int v,fun _=>?_,fun q=>by simp [Mt.withinD] at q; omega⟩
      walk_at "rd"
      refine ⟨p,_,dx,_,_,rfl,h1,T.cl_Slots,T.na_Slots_places,slF_places _ _,?_⟩
      refine ⟨d,rfl,.inl ⟨_,.inl hd⟩,?_⟩
      walk_at "rd"
      refine ⟨_,dget_FK hd kk,?_⟩
      have hw:((lookI qs kk).map V.int).getD (.int 0) = .int ((lookI qs kk).getD 0):=by cases lookI qs kk <;> rfl
      rw [hw]
      walk_at "rd"
      refine ⟨p,_,dx,_,_,rfl,h1,T.cl_Slots,T.na_Slots_places,slF_places _ _,?_⟩
      walk_at "rd"
      rw [show (if (lookI qs kk).getD 0 > v then (lookI qs kk).getD 0 else v)=mx v ((lookI qs kk).getD 0) from rfl]
      obtain ⟨gs,g1,g2,g3,g4,g5⟩:=putK_FK kk (mx v ((lookI qs kk).getD 0)) qs
      refine ⟨d,_,rfl,DPut.k (k:=.inl kk) hd (by simp only [FK,List.length_map]; exact Nat.lt_of_lt_of_le hl (by decide)),?_⟩
      rw [g1]
      walk_at "rd"
      have npd:p ≠ d:=S.ne
      exact k gs _ ⟨⟨dx,by rw [upd_ne npd]; exact h1⟩,upd_same,g5 nd⟩ g2 g3 (Ext.at (by simp))
noncomputable def sp_Slots_anew (K:PySem.W.Frag) (a:Adr):Sp:=fun vs H Q E=>∃ (N:List Addr) (p d:Addr) (room:Int) (qs:List (Int×Int)) (x y:V) (d1 d2:PyData),vs = [.ref p,x,y]∧SlAt a.C_Slots H p d room qs∧qs.length < 1000∧Dt K N H x d1∧Dt K N H y d2 ∧
  ((Mt.withinD 0 7 d1=false∧∀ dx,H dx=none→E (.ref a.C_NoHouse) (some dx) (upd H dx (.xd [("house",x)]))) ∨
   (Mt.withinD 0 7 d1=true∧Mt.withinD 0 1000000 d2=false∧∀ dx,H dx=none→E (.ref a.C_NoPlace) (some dx) (upd H dx (.xd [("place",y)]))) ∨
   (∃ k v:Int,x = .int k∧y = .int v∧0 ≤ k∧k ≤ 7∧0 ≤ v∧v ≤ 1000000 ∧
     ∀ (qs':List (Int×Int)) (H':Hp),SlAt a.C_Slots H' p d room qs'→(∀ j,lookI qs' j=if j=k then some v else lookI qs j)→qs'.length ≤ qs.length + 1→Ext [d] H H'→Q .non H'))
theorem ok_Slots_anew (T:Txt P K mg a) (G_require_house:FnOk P w K mg base (CX1 P w) 4 a.f_require_house a.d_require_house ["thing","houses"] (sp_require_house K a)) (G_require_place:FnOk P w K mg base (CX1 P w) 4 a.f_require_place a.d_require_place ["thing"] (sp_require_place K a)):FnOk P w K mg base (CX1 P w) 5 a.f_Slots_anew a.d_Slots_anew ["self","house","place"] (sp_Slots_anew K a):=by
  refine T.F_Slots_anew.okX sc_Slots_anew (fun vs H Q E h=>?_) (fun cdv A outer s H vs Q E hr h=>?_)
  · obtain ⟨N,p,d,room,qs,x,y,d1,d2,rfl,_⟩:=h; rfl
  · obtain ⟨N,p,d,room,qs,x,y,d1,d2,rfl,S,hl,hx,hy,k⟩:=h
    obtain ⟨⟨dx,h1⟩,hd,nd⟩:=id S
    refine exW ⟨_,(qss_cons (qs_expr (qe_callX G_require_house (hr.mono (by decide)) (by rfl) T.m_require_house T.k_require_house T.dB_require_house (.cons T.c_HOUSES.2 .nil) px1 (qa (pv 1 (by rfl) (by walk_at "vis") (by decide) (by decide)) qa_nil (by rfl)) (by decide) (by rfl) (by rfl)) (by rfl))
      (qss_cons (qs_expr (qe_callX G_require_place (hr.mono (by decide)) (by rfl) T.m_require_place T.k_require_place T.bd_require_place .nil px1 (qa (pv 2 (by rfl) (by walk_at "vis") (by decide) (by decide)) qa_nil (by rfl)) (by decide) (by rfl) (by rfl)) (by rfl))
      (qss_one (qs_dput (hu_of hr) (pe_fld (pv 0 (by rfl) (by walk_at "vis") (by decide) (by decide)) (by rfl)) (pv 1 (by rfl) (by walk_at "vis") (by decide) (by decide)) (pv 2 (by rfl) (by walk_at "vis") (by decide) (by decide)) (by rfl))))),?_⟩
    try dsimp only [cxOf]
    walk_at "rd"
    rcases k with ⟨w1,k⟩ | ⟨w1,w2,k⟩ | ⟨kk,v,rfl,rfl,k0,k1,v0,v1,k⟩
    · exact ⟨N,x,d1,8,rfl,hx,fun z=>(by rw [show (8 - 1:Int)=7 from rfl,w1] at z; cases z),fun _=>k⟩
    · refine ⟨N,x,d1,8,rfl,hx,fun _=>?_,fun z=>(by rw [show (8 - 1:Int)=7 from rfl,w1] at z; cases z)⟩
      walk_at "rd"
      exact ⟨N,y,d2,rfl,hy,fun z=>(by rw [w2] at z; cases z),fun _=>k⟩
    · refine ⟨[],.int kk,.int kk,8,rfl,.int kk,fun _=>?_,fun q=>by simp [Mt.withinD] at q; omega⟩
      walk_at "rd"
      refine ⟨[],.int v,.int v,rfl,.int v,fun _=>?_,fun q=>by simp [Mt.withinD] at q; omega⟩
      walk_at "rd"
      refine ⟨p,_,dx,_,_,rfl,h1,T.cl_Slots,T.na_Slots_places,slF_places _ _,?_⟩
      walk_at "rd"
      obtain ⟨gs,g1,g2,g3,g4,g5⟩:=putK_FK kk v qs
      refine ⟨d,_,rfl,DPut.k (k:=.inl kk) hd (by simp only [FK,List.length_map]; exact Nat.lt_of_lt_of_le hl (by decide)),?_⟩
      rw [g1]
      walk_at "rd"
      have npd:p ≠ d:=S.ne
      exact k gs _ ⟨⟨dx,by rw [upd_ne npd]; exact h1⟩,upd_same,g5 nd⟩ g2 g3 (Ext.at (by simp))
noncomputable def sp_Slots_free (K:PySem.W.Frag) (a:Adr):Sp:=fun vs H Q E=>∃ (N:List Addr) (p d:Addr) (room:Int) (qs:List (Int×Int)) (x:V) (d1:PyData),vs = [.ref p,x]∧SlAt a.C_Slots H p d room qs∧Dt K N H x d1 ∧
  ((Mt.withinD 0 7 d1=false∧∀ dx,H dx=none→E (.ref a.C_NoHouse) (some dx) (upd H dx (.xd [("house",x)]))) ∨
   (∃ k:Int,x = .int k∧0 ≤ k∧k ≤ 7 ∧
     ∀ (qs':List (Int×Int)) (H':Hp),SlAt a.C_Slots H' p d room qs'→(∀ j,lookI qs' j=if j=k then none else lookI qs j)→qs'.length ≤ qs.length→Ext [d] H H'→Q .non H'))
theorem ok_Slots_free (T:Txt P K mg a) (G_require_house:FnOk P w K mg base (CX1 P w) 4 a.f_require_house a.d_require_house ["thing","houses"] (sp_require_house K a)):FnOk P w K mg base (CX1 P w) 5 a.f_Slots_free a.d_Slots_free ["self","house"] (sp_Slots_free K a):=by
  refine T.F_Slots_free.okX sc_Slots_free (fun vs H Q E h=>?_) (fun cdv A outer s H vs Q E hr h=>?_)
  · obtain ⟨N,p,d,room,qs,x,d1,rfl,_⟩:=h; rfl
  · obtain ⟨N,p,d,room,qs,x,d1,rfl,S,hx,k⟩:=h
    obtain ⟨⟨dx,h1⟩,hd,nd⟩:=id S
    refine exW ⟨_,(qss_cons (qs_expr (qe_callX G_require_house (hr.mono (by decide)) (by rfl) T.m_require_house T.k_require_house T.dB_require_house (.cons T.c_HOUSES.2 .nil) px1 (qa (pv 1 (by rfl) (by walk_at "vis") (by decide) (by decide)) qa_nil (by rfl)) (by decide) (by rfl) (by rfl)) (by rfl))
      (qss_one (qs_if (pt_cmp (pc_din (hu_of hr) (pv 1 (by rfl) (by walk_at "vis") (by decide) (by decide)) (pe_fld (pv 0 (by rfl) (by walk_at "vis") (by decide) (by decide)) (by rfl))) (by with_unfolding_all rfl))
        (qss_one (qs_ddel (pe_fld (pv 0 (by rfl) (by walk_at "vis") (by decide) (by decide)) (by rfl)) (pv 1 (by rfl) (by walk_at "vis") (by decide) (by decide))))
        qss_nil))),?_⟩
    try dsimp only [cxOf]
    walk_at "rd"
    rcases k with ⟨w1,k⟩ | ⟨kk,rfl,k0,k1,k⟩
    · exact ⟨N,x,d1,8,rfl,hx,fun z=>(by rw [show (8 - 1:Int)=7 from rfl,w1] at z; cases z),fun _=>k⟩
    · refine ⟨[],.int kk,.int kk,8,rfl,.int kk,fun _=>?_,fun q=>by simp [Mt.withinD] at q; omega⟩
      walk_at "rd"
      refine ⟨p,_,dx,_,_,rfl,h1,T.cl_Slots,T.na_Slots_places,slF_places _ _,?_⟩
      walk_at "rd"
      refine ⟨d,_,rfl,dget_FK hd kk,?_⟩
      cases e:lookI qs kk with
      | none =>
        walk_at "rd"
        refine k qs H S (fun j=>?_) (Nat.le_refl _) (fun _ _ e _=>e)
        by_cases h:j=kk
        · subst h; rw [if_pos rfl,e]
        · rw [if_neg h]
      | some v =>
        walk_at "rd"
        refine ⟨p,_,dx,_,_,rfl,h1,T.cl_Slots,T.na_Slots_places,slF_places _ _,?_⟩
        walk_at "rd"
        refine ⟨d,_,.inl kk,rfl,hd,rfl,by rw [val_FK,e]; rfl,?_⟩
        rw [drop_FK]
        have npd:p ≠ d:=S.ne
        exact k _ _ ⟨⟨dx,by rw [upd_ne npd]; exact h1⟩,upd_same,nd_filter nd _⟩ (fun j=>look_filter qs kk j) (List.length_filter_le _ _) (Ext.at (by simp))
noncomputable def sp_Slots_held (K:PySem.W.Frag) (a:Adr):Sp:=fun vs H Q _=>∃ (p d:Addr) (room:Int) (qs:List (Int×Int)),vs = [.ref p]∧SlAt a.C_Slots H p d room qs∧qs.length < 64 ∧
  ∀ (t:Addr) (o:PySem.Obj) (ws:List V) (ps:List (Int×Int)) (H':Hp),H t=none→o.dict=none→H' t=some (.frz o (.tup ws))→PVH K H' ws (FK ps)→IsHeld qs ps→Same H H'→Q (.ref t) H'
theorem ok_Slots_held (T:Txt P K mg a)  : FnOk P w K mg base CX0 1 a.f_Slots_held a.d_Slots_held ["self"] (sp_Slots_held K a):=by
  refine T.F_Slots_held.ok sc_Slots_held (fun vs H Q E h=>?_) (fun cdv A outer s H vs Q E hr h=>?_)
  · obtain ⟨p,d,room,qs,rfl,_⟩:=h; rfl
  · obtain ⟨p,d,room,qs,rfl,S,hl,kk⟩:=h
    obtain ⟨⟨dx,h1⟩,hd,nd⟩:=id S
    refine exW ⟨_,(qss_one (qs_ret (qe_callTy cn_tupleF (by rfl) T.b_tuple (by decide +kernel) (qa (by
        refine' pe_comp (NC:=["house","self"]) (fr:=[none,some 0]) ?B3 rfl ?hi3 ?hg3 ?ht3 ?he3 (by intro _; rfl)
        case B3=>exact ⟨rfl,rfl,by decide +kernel,by decide +kernel,rfl,⟨trivial,⟨rfl,rfl,Or.inl rfl⟩,trivial⟩⟩
        case hi3=>exact (pi_list (qe_callB (cn_sortD (by rfl)) (by rfl) T.b_sorted (by decide +kernel) (qa (pe_fld (pv 0 (by rfl) (by walk_at "vis") (by decide) (by decide)) (by rfl)) qa_nil (by rfl)) (by decide) (by decide) (by rfl) (by rfl)))
        case hg3=>intro _ _ _; exact (pg_name (i:=0) (show (["house","self"]:List Str).Nodup by decide +kernel) rfl (Or.inl rfl) (by first | exact Or.inl rfl | exact Or.inr rfl))
        case ht3=>intro _ _ _; exact pf_nil
        case he3=>intro _ _ _; exact (qe_tup (qa (pv 0 (by rfl) (by walk_at "vis") (by decide) (by decide)) (qa (pe_dget (hu_of hr) (pe_fldK (K:=K) (by rfl) (pv 1 (by rfl) (by walk_at "vis") (by decide) (by decide)) (by rfl)) (pv 0 (by rfl) (by walk_at "vis") (by decide) (by decide)) (fun _ _=>rfl)) qa_nil (by rfl)) (by rfl)))) qa_nil (by rfl)) (by decide) (by decide) (by rfl) (by rfl)))),?_⟩
    try dsimp only [cxOf]
    walk_at "rd"
    refine ⟨p,_,dx,_,_,rfl,h1,T.cl_Slots,T.na_Slots_places,slF_places _ _,?_⟩
    walk_at "rd"
    refine ⟨d,qs.map (fun x=>(x.1,V.int x.2)),rfl,by rw [hd]; simp [FK,Function.comp_def],by simpa using hl,fun l ns H2 nl hp hs s2 g2=>?_⟩
    have hp':ns.Perm (qs.map (·.1)):=by simpa [Function.comp_def] using hp
    have hln:ns.length=qs.length:=by simpa using hp'.length_eq
    walk_at "rd"
    refine ⟨l,rfl,⟨_,SqL.of g2⟩,?_⟩
    intro acc na ka
    have S2:=S.same s2
    refine comp_by ns.length (small1000 (by omega)) (fun i vs σc H'=>Same H2 H'∧(∃ o,σc = [o,some (.ref p)])∧PVH K H' vs (FK ((ns.take i).map fun k=>(k,(lookI qs k).getD 0)))) ?_ ?_ ?_
    · exact ⟨Same.upd na,⟨none,rfl⟩,.nil⟩
    · rintro i vs σc H' hi hlv ha ⟨sm,⟨o,rfl⟩,pv⟩
      have hL:SqL K H' l (ns.map V.int):=SqL.of (sm _ _ g2)
      have ex:(ns.map V.int)[i]? = some (.int ns[i]):=by simp [hi]
      refine ⟨⟨_,_,hL,ex⟩,?_⟩
      rintro x H6 ⟨rfl,hx⟩ R hR
      have e2:=hx _ hL
      rw [ex] at e2; cases e2
      obtain ⟨⟨dy,h1'⟩,hd',_⟩:=S2.same sm
      walk_at "rd"
      refine ⟨p,_,dy,_,_,rfl,h1',T.cl_Slots,T.na_Slots_places,slF_places _ _,?_⟩
      walk_at "rd"
      have hk:ns[i] ∈ qs.map (·.1):=hp'.mem_iff.mp (List.getElem_mem hi)
      obtain ⟨v,hv⟩:∃ v,lookI qs ns[i]=some v:=by
        cases e:lookI qs ns[i] with
        | none=>exact absurd hk (lookI_none.mp e)
        | some v=>exact ⟨v,rfl⟩
      refine ⟨d,.int v,rfl,by have:=dget_FK hd' ns[i]; rw [hv] at this; exact this,?_⟩
      walk_at "rd"
      refine ⟨sz (by simp),fun t7 n7=>?_⟩
      have e7:acc ≠ t7:=ne_of_none ha n7
      refine hR _ _ _ (by rw [upd_ne e7]; exact ha) ⟨fun b u e=>?_,⟨_,rfl⟩,?_⟩
      · rw [upd_ne (ne_of_none e na),upd_ne (ne_of_none (sm b u e) n7)]; exact sm b u e
      · have tk:ns.take (i + 1)=ns.take i ++ [ns[i]]:=by rw [List.take_add_one]; simp [hi]
        rw [tk,List.map_append]
        have ef:FK ((ns.take i).map (fun k=>(k,(lookI qs k).getD 0)) ++ [ns[i]].map (fun k=>(k,(lookI qs k).getD 0)))=FK ((ns.take i).map (fun k=>(k,(lookI qs k).getD 0))) ++ [(.inl ns[i],.int v)]:=by simp [FK,hv]
        rw [ef]
        have nn:∀ b ys,SqT K H6 b ys→SqT K (upd (upd H6 t7 (.tup [.int ns[i],.int v])) acc (.lst (vs ++ [V.ref t7]))) b ys:=fun b ys hb=>SqT.updL ((Same.upd n7).tupS hb) (by rw [upd_ne e7]; exact ha)
        refine PVH.snoc (Paired.mapP pv fun _ _ ⟨a,e,q⟩=>⟨a,e,nn _ _ q⟩) ?_
        exact SqT.of (by rw [upd_ne e7.symm]; exact upd_same)
    · rintro vs σc H' hlv ha ⟨sm,_,pv⟩
      refine ⟨⟨_,SqL.of (sm _ _ g2),by simp⟩,?_⟩
      walk_at "rd"
      refine ⟨acc,_,rfl,SqL.of ha,fun t8 o8 n8 d8=>?_⟩
      rw [List.take_length] at pv
      walk_at "rd"
      refine kk t8 o8 vs _ _ (s2.free (sm.free n8)) d8 upd_same (pv.same (Same.upd n8)) (held_mk nd hp' hs) ((s2.trans sm).trans (Same.upd n8))
noncomputable def sp_Slots_cut_for (K:PySem.W.Frag) (a:Adr):Sp:=fun vs H Q E=>∃ (N:List Addr) (p d:Addr) (room:Int) (qs:List (Int×Int)) (x y:V) (d1 d2:PyData),vs = [.ref p,x,y]∧SlAt a.C_Slots H p d room qs∧qs.length ≤ 60∧1 ≤ room∧room ≤ 400∧Dt K N H x d1∧Dt K N H y d2 ∧
  ((Mt.withinD 0 1000000 d1=false∧∀ (H1:Hp) dx,Same H H1→H1 dx=none→E (.ref a.C_NoPlace) (some dx) (upd H1 dx (.xd [("place",x)]))) ∨
   (∃ en:Int,x = .int en∧0 ≤ en∧en ≤ 1000000∧Mt.withinD 0 en d2=false∧∀ (H1:Hp) dx,Same H H1→H1 dx=none→E (.ref a.C_NoPlace) (some dx) (upd H1 dx (.xd [("place",y)]))) ∨
   (∃ en app:Int,x = .int en∧y = .int app∧0 ≤ en∧en ≤ 1000000∧0 ≤ app∧app ≤ en ∧
     ∀ (m:Int) (ns:List Int) (t q:Addr) (H':Hp),IsCut room en app qs m ns→SlAt a.C_Slots H' p d room (keptL room en qs)→Ext [d] H H'→SqT K H' q (ns.map V.int)→SqT K H' t [.int m,.ref q]→Q (.ref t) H'))
theorem ok_Slots_cut_for (T:Txt P K mg a) (G_Slots_held:FnOk P w K mg base CX0 1 a.f_Slots_held a.d_Slots_held ["self"] (sp_Slots_held K a)) (G_cut_of:FnOk P w K mg base (CX1 P w) 5 a.f_cut_of a.d_cut_of ["room","slots","end","applied"] (sp_cut_of K a)):FnOk P w K mg base (CX1 P w) 6 a.f_Slots_cut_for a.d_Slots_cut_for ["self","end","applied"] (sp_Slots_cut_for K a):=by
  refine T.F_Slots_cut_for.okX sc_Slots_cut_for (fun vs H Q E h=>?_) (fun cdv A outer s H vs Q E hr h=>?_)
  · obtain ⟨N,p,d,room,qs,x,y,d1,d2,rfl,_⟩:=h; rfl
  · obtain ⟨N,p,d,room,qs,x,y,d1,d2,rfl,S,hl,r0,r1,hx,hy,k⟩:=h
    obtain ⟨⟨dx,h1⟩,hd,nd⟩:=id S
    refine exW ⟨_,(qss_cons (qs_asg (qe_callX G_cut_of (hr.mono (by decide)) (by rfl) T.m_cut_of T.k_cut_of T.bd_cut_of .nil px1 (qa (pe_fld (pv 0 (by rfl) (by walk_at "vis") (by decide) (by decide)) (by rfl)) (qa (pe_meth0 (pv 0 (by rfl) (by walk_at "vis") (by decide) (by decide)) T.cl_Slots T.mt_Slots_held G_Slots_held (hr.mono (by decide)) T.bd_Slots_held .nil pass0 (by rfl)) (qa (pv 1 (by rfl) (by walk_at "vis") (by decide) (by decide)) (qa (pv 2 (by rfl) (by walk_at "vis") (by decide) (by decide)) qa_nil (by rfl)) (by rfl)) (by rfl)) (by rfl)) (by decide) (by rfl) (by rfl)) (pg_tup (n:=2) rfl (pgs_cons (pg_name (i:=3) (show (["self","end","applied","floor","broken","house"]:List Str).Nodup by decide +kernel) rfl (Or.inl rfl) (by first | exact Or.inl rfl | exact Or.inr rfl)) (pgs_cons (pg_name (i:=4) (show (["self","end","applied","floor","broken","house"]:List Str).Nodup by decide +kernel) rfl (Or.inl rfl) (by first | exact Or.inl rfl | exact Or.inr rfl)) pgs_nil (by rfl)) (by rfl)) (by rfl) (by rfl)) (by rfl) (by rfl) (by rfl))
      (qss_cons (qs_for PassesOwn.leaving rfl (pi_tup (pv 4 (by rfl) (by walk_at "vis") (by decide) (by decide))) (pg_name (i:=5) sc_Slots_cut_for.nd rfl (Or.inl rfl) (by first | exact Or.inl rfl | exact Or.inr rfl))
        (qss_one (qs_ddel (pe_fld (pv 0 (by rfl) (by walk_at "vis") (by decide) (by decide)) (by rfl)) (pv 5 (by rfl) (by walk_at "vis") (by decide) (by decide)))) (by intro _; rfl))
      (qss_one (qs_ret (qe_tup (qa (pv 3 (by rfl) (by walk_at "vis") (by decide) (by decide)) (qa (pv 4 (by rfl) (by walk_at "vis") (by decide) (by decide)) qa_nil (by rfl)) (by rfl))))))),?_⟩
    try dsimp only [cxOf]
    walk_at "rd"
    refine ⟨p,_,dx,_,_,rfl,h1,T.cl_Slots,T.na_Slots_room,slF_room _ _,?_⟩
    walk_at "rd"
    refine ⟨p,dx,_,rfl,h1,slF_no _ _ (by decide +kernel) (by decide +kernel),?_⟩
    walk_at "rd"
    refine ⟨p,d,room,qs,rfl,S,by omega,fun t1 o1 ws ps H1 n1 do1 g1 pv ih s1=>?_⟩
    walk_at "rd"
    have lp:ps.length=qs.length:=ih.perm.length_eq
    have w0:Mt.withinD 1 400 (.int room)=true:=by simp [Mt.withinD]; omega
    have qt:SqT K H1 t1 ws:=.inl (.inr ⟨o1,g1⟩)
    rcases k with ⟨w1,k⟩ | ⟨en,rfl,e0,e1,w2,k⟩ | ⟨en,app,rfl,rfl,e0,e1,a0,a1,kk⟩
    · exact ⟨[],.int room,x,y,.int room,d1,d2,t1,ws,ps,rfl,.int room,hx.nil.ext (Ext.same s1),hy.nil.ext (Ext.same s1),qt,pvh_dt pv rfl,by omega,.inr (.inl ⟨w0,w1,fun dx hdx=>k H1 dx s1 hdx⟩)⟩
    · exact ⟨[],.int room,.int en,y,.int room,.int en,d2,t1,ws,ps,rfl,.int room,.int en,hy.nil.ext (Ext.same s1),qt,pvh_dt pv rfl,by omega,.inr (.inr (.inl ⟨en,rfl,w0,e0,e1,w2,fun dx hdx=>k H1 dx s1 hdx⟩))⟩
    · refine ⟨[],.int room,.int en,.int app,.int room,.int en,.int app,t1,ws,ps,rfl,.int room,.int en,.int app,qt,pvh_dt pv rfl,by omega,.inr (.inr (.inr ⟨room,en,app,rfl,rfl,rfl,r0,r1,e0,e1,a0,a1,fun m ns t2 q2 H2 hc s2 hq2 ht2=>?_⟩))⟩
      have hc':=hc.ofPerm ih.perm
      walk_at "rd"
      refine ⟨q2,rfl,⟨_,hq2⟩,?_⟩
      have S2:=S.same (s1.trans s2)
      have npd:=S.ne
      have nns:ns.Nodup:=hc'.perm.nodup_iff.mpr (brok_nd nd)
      refine for_tupW (K:=K) (xs:=ns.map V.int) (fun i σ' H'=>∃ o5:Option V,σ' = [some (.ref p),some (.int en),some (.int app),some (.int m),some (.ref q2),o5]∧Ext [d] H2 H'∧H' d=some (.dK (FK (qs.filter fun x=>decide (x.1 ∉ ns.take i))))) ?_ ?_ ?_ ?_
      · exact ⟨none,rfl,fun b u e _=>e,by rw [S2.dc,List.take_zero,List.filter_eq_self.mpr (fun x _=>by simp)]⟩
      · rintro i σ' H' _ ⟨o5,rfl,x3,_⟩
        exact hq2.extD S2.dc x3
      · rintro i x σ' H' hx ⟨o5,rfl,x3,g3⟩
        have hi:i < ns.length:=by have:=(List.getElem?_eq_some_iff.mp hx).1; simpa using this
        rw [List.getElem?_map,List.getElem?_eq_getElem hi] at hx
        cases hx
        obtain ⟨dy,h1'⟩:=S2.ob
        walk_at "rd"
        refine ⟨p,_,dy,_,_,rfl,x3 _ _ h1' (by simpa using npd),T.cl_Slots,T.na_Slots_places,slF_places _ _,?_⟩
        walk_at "rd"
        have hk:ns[i] ∈ qs.map (·.1):=by
          have:=hc'.perm.mem_iff.mp (List.getElem_mem hi)
          obtain ⟨v,h1,_⟩:=brok_mem.mp this
          exact List.mem_map.mpr ⟨_,h1,rfl⟩
        refine ⟨d,_,.inl ns[i],rfl,g3,rfl,filt_has nns hi hk,?_⟩
        refine ⟨_,rfl,x3.trans (Ext.at (by simp)),?_⟩
        rw [upd_same,drop_FK,filt_step hi]
      · rintro σ' H' ⟨o5,rfl,x3,g3⟩
        walk_at "rd"
        refine ⟨sz (by simp),fun t4 n4=>?_⟩
        rw [List.length_map,List.take_length,not_brok nd hc'.perm] at g3
        obtain ⟨dy,h1'⟩:=S2.ob
        refine kk m ns t4 q2 _ hc' ⟨⟨dy,?_⟩,?_,kept_nd nd⟩ ((Ext.same (s1.trans s2)).trans (x3.trans (Ext.new n4))) ((Same.upd n4).tupS (hq2.extD S2.dc x3)) (SqT.of upd_same)
        · exact (Same.upd n4) _ _ (x3 _ _ h1' (by simpa using npd))
        · exact (Same.upd n4) _ _ g3
noncomputable def sp_Slots___len (K:PySem.W.Frag) (a:Adr):Sp:=fun vs H Q _=>∃ (p d:Addr) (room:Int) (qs:List (Int×Int)),vs = [.ref p]∧SlAt a.C_Slots H p d room qs∧Q (.int qs.length) H
theorem ok_Slots___len (T:Txt P K mg a)  : FnOk P w K mg base CX0 1 a.f_Slots___len a.d_Slots___len ["self"] (sp_Slots___len K a):=by
  refine T.F_Slots___len.ok sc_Slots___len (fun vs H Q E h=>?_) (fun cdv A outer s H vs Q E hr h=>?_)
  · obtain ⟨p,d,room,qs,rfl,_⟩:=h; rfl
  · obtain ⟨p,d,room,qs,rfl,S,k⟩:=h
    obtain ⟨⟨dx,h1⟩,hd,nd⟩:=id S
    refine exW ⟨_,(qss_one (qs_ret (qe_callB call_lenD (by rfl) T.b_len (by decide +kernel) (qa (pe_fld (pv 0 (by rfl) (by walk_at "vis") (by decide) (by decide)) (by rfl)) qa_nil (by rfl)) (by decide) (by decide) (by rfl) (by rfl)))),?_⟩
    try dsimp only [cxOf]
    walk_at "rd"
    refine ⟨p,_,dx,_,_,rfl,h1,T.cl_Slots,T.na_Slots_places,slF_places _ _,?_⟩
    walk_at "rd"
    refine ⟨d,_,rfl,hd,?_⟩
    rw [show (FK qs).length=qs.length by simp [FK]]
    exact k
noncomputable def sp_Slots___eq (K:PySem.W.Frag) (a:Adr):Sp:=fun vs H Q _=>∃ (p d b:Addr) (room:Int) (qs:List (Int×Int)),vs = [.ref p,.ref b]∧SlAt a.C_Slots H p d room qs ∧
  ((∃ e room' gs,SlAt a.C_Slots H b e room' gs∧Q (.bl (decide (room=room') && eqI qs gs)) H)∨((∃ ys,SqT K H b ys)∧Q (.bl false) H))
theorem ok_Slots___eq (T:Txt P K mg a)  : FnOk P w K mg base CX0 1 a.f_Slots___eq a.d_Slots___eq ["self","other"] (sp_Slots___eq K a):=by
  refine T.F_Slots___eq.ok sc_Slots___eq (fun vs H Q E h=>?_) (fun cdv A outer s H vs Q E hr h=>?_)
  · obtain ⟨p,d,b,room,qs,rfl,_⟩:=h; rfl
  · obtain ⟨p,d,b,room,qs,rfl,S,k⟩:=h
    obtain ⟨⟨dx,h1⟩,hd,nd⟩:=id S
    refine exW ⟨_,(qss_one (qs_ret (pe_and (qe_callB cn_isiO (by rfl) T.b_isinstance (by decide +kernel) (qa (pv 1 (by rfl) (by walk_at "vis") (by decide) (by decide)) (qa (pe_glob (v:=.ref a.C_Slots) (by rfl) T.mC_Slots rfl (by decide)) qa_nil (by rfl)) (by rfl)) (by decide) (by decide) (by rfl) (by rfl)) (pe_and (pe_cmpR op_eq (pe_fld (pv 0 (by rfl) (by walk_at "vis") (by decide) (by decide)) (by rfl)) (pe_fld (pv 1 (by rfl) (by walk_at "vis") (by decide) (by decide)) (by rfl)) (nomark _)) (pe_one (pe_cmpR (on_eqII (hu_of hr)) (pe_fld (pv 0 (by rfl) (by walk_at "vis") (by decide) (by decide)) (by rfl)) (pe_fld (pv 1 (by rfl) (by walk_at "vis") (by decide) (by decide)) (by rfl)) (nomark _))))))),?_⟩
    try dsimp only [cxOf]
    walk_at "rd"
    rcases k with ⟨e,room',gs,S2,k⟩ | ⟨⟨ys,hq⟩,k⟩
    · obtain ⟨⟨dx2,h2⟩,hd2,nd2⟩:=id S2
      refine ⟨b,a.C_Slots,a.C_Slots,true,rfl,.inl ⟨_,_,h2,T.is_Slots,T.ko_Slots⟩,?_⟩
      walk_at "rd"
      refine ⟨p,_,dx,_,_,rfl,h1,T.cl_Slots,T.na_Slots_room,slF_room _ _,?_⟩
      walk_at "rd"
      refine ⟨b,_,dx2,_,_,rfl,h2,T.cl_Slots,T.na_Slots_room,slF_room _ _,?_⟩
      walk_at "rd"
      have e1:decide (V.int room=V.int room')=decide (room=room'):=by simp
      rw [e1]
      refine rd_ite2 (fun hc=>?_) (fun hc=>?_)
      · rw [hc,Bool.true_and] at k
        walk_at "rd"
        refine ⟨p,_,dx,_,_,rfl,h1,T.cl_Slots,T.na_Slots_places,slF_places _ _,?_⟩
        walk_at "rd"
        refine ⟨b,_,dx2,_,_,rfl,h2,T.cl_Slots,T.na_Slots_places,slF_places _ _,?_⟩
        walk_at "rd"
        exact ⟨d,e,qs,gs,rfl,rfl,.inl hd,.inl hd2,k⟩
      · rw [hc,Bool.false_and] at k
        exact k
    · refine ⟨b,a.C_Slots,a.C_Slots,false,rfl,.inr (.inl ⟨⟨ys,hq⟩,T.kt_Slots⟩),?_⟩
      walk_at "rd"
      exact k
noncomputable def sp_law_deck (K:PySem.W.Frag):Sp:=fun vs H Q _=>∃ (p:Addr) (ns:List Int),vs = [.ref p]∧SqL K H p (ns.map V.int)∧ns.length ≤ 63∧∀ (st c r:Addr) (H':Hp),Dk H' st c r 0→Same H H'→H st=none→Q (.ref st) H'
theorem ok_law_deck (T:Txt P K mg a)  : FnOk P w K mg base CX0 1 a.f_law_deck a.d_law_deck ["_law_script"] (sp_law_deck K):=by
  refine T.F_law_deck.ok sc_law_deck (fun vs H Q E h=>?_) (fun cdv A outer s H vs Q E hr h=>?_)
  · obtain ⟨p,ns,rfl,_⟩:=h; rfl
  · obtain ⟨p,ns,rfl,hq,hl,k⟩:=h
    refine exW ⟨_,(qss_cons (qs_set (i:=1) sc_law_deck.nd rfl (Or.inl rfl) (pe_op op_cat (qe_callTy cn_list (by rfl) T.b_list (by decide +kernel) (qa (pe_slice sl_list (pv 0 (by rfl) (by walk_at "vis") (by decide) (by decide)) po_none (po_some pe_int)) qa_nil (by rfl)) (by decide) (by decide) (by rfl) (by rfl)) (pe_op op_rep (qe_lst (qa pe_int qa_nil (by rfl))) (qe_callTy cn_int (by rfl) T.b_int (by decide +kernel) (qa (pe_cmpR op_eq (qe_callB cn_len (by rfl) T.b_len (by decide +kernel) (qa (pv 0 (by rfl) (by walk_at "vis") (by decide) (by decide)) qa_nil (by rfl)) (by decide) (by decide) (by rfl) (by rfl)) pe_int (nomark _)) qa_nil (by rfl)) (by decide) (by decide) (by rfl) (by rfl)))) (by rfl) (by first | exact Or.inl rfl | exact Or.inr rfl))
      (qss_one (qs_ret (qe_lst (qa (pv 1 (by rfl) (by walk_at "vis") (by decide) (by decide)) (qa pe_int (qa (by
        refine' pe_comp (NC:=["_law_cell"]) (fr:=[none]) ?B4 rfl ?hi4 ?hg4 ?ht4 ?he4 (by intro _; rfl)
        case B4=>exact ⟨rfl,rfl,by decide +kernel,by decide +kernel,rfl,⟨trivial,trivial⟩⟩
        case hi4=>exact (pi_list (pv 1 (by rfl) (by walk_at "vis") (by decide) (by decide)))
        case hg4=>intro _ _ _; exact (pg_name (i:=0) (show (["_law_cell"]:List Str).Nodup by decide +kernel) rfl (Or.inl rfl) (by first | exact Or.inl rfl | exact Or.inr rfl))
        case ht4=>intro _ _ _; exact pf_nil
        case he4=>intro _ _ _; exact (pe_op op_mul (pv 0 (by rfl) (by walk_at "vis") (by decide) (by decide)) (qe_callTy cn_int (by rfl) T.b_int (by decide +kernel) (qa (pe_cmpR op_ge (pv 0 (by rfl) (by walk_at "vis") (by decide) (by decide)) (pe_op op_pow pe_int pe_int) (nomark _)) qa_nil (by rfl)) (by decide) (by decide) (by rfl) (by rfl)))) qa_nil (by rfl)) (by rfl)) (by rfl)))))),?_⟩
    try dsimp only [cxOf]
    walk_at "rd"
    intro l1 n1
    rw [show (some (63:Int))=some ((63:Nat):Int) from rfl,cutV_take,List.take_of_length_le (by simpa using hl)]
    walk_at "rd"
    intro l2 n2
    have s2:Same H (upd (upd H l1 (.lst (ns.map V.int))) l2 (.lst (ns.map V.int))):=(Same.upd n1).trans (Same.upd n2)
    have g2:upd (upd H l1 (.lst (ns.map V.int))) l2 (.lst (ns.map V.int)) l2=some (.lst (ns.map V.int)):=upd_same
    generalize (upd (upd H l1 (.lst (ns.map V.int))) l2 (.lst (ns.map V.int)))=H2 at s2 g2 ⊢
    walk_at "rd"
    refine ⟨sz (by simp),fun l3 n3=>?_⟩
    have hq3:SqL K (upd H2 l3 (.lst [.int 0])) p (ns.map V.int):=(Ext.same (N:=[]) (s2.trans (Same.upd n3))).lst hq (by simp)
    walk_at "rd"
    refine ⟨l3,_,[.int 0],rfl,rfl,upd_same,by split <;> decide,by split <;> decide,by split <;> decide,fun l4 n4=>?_⟩
    have g4:upd (upd H2 l3 (.lst [.int 0])) l4 (.lst (List.replicate ((if decide (V.int ((ns.map V.int).length:Int)=V.int 0)=true then (1:Int) else 0)).toNat [V.int 0]).flatten) l2=some (.lst (ns.map V.int)):=by
      rw [upd_ne (ne_of_none ((Same.upd n3) _ _ g2) n4),upd_ne (ne_of_none g2 n3)]; exact g2
    have s4:Same H (upd (upd H2 l3 (.lst [.int 0])) l4 (.lst (List.replicate ((if decide (V.int ((ns.map V.int).length:Int)=V.int 0)=true then (1:Int) else 0)).toNat [V.int 0]).flatten)):=(s2.trans (Same.upd n3)).trans (Same.upd n4)
    obtain ⟨cs,hcs,hc1,hc2⟩:∃ cs:List Int,ns.map V.int ++ (List.replicate ((if decide (V.int ((ns.map V.int).length:Int)=V.int 0)=true then (1:Int) else 0)).toNat [V.int 0]).flatten=cs.map V.int∧1 ≤ cs.length∧cs.length ≤ 63:=by
      cases ns with
      | nil=>exact ⟨[0],by simp,by decide,by decide⟩
      | cons n ns =>
        have e:decide (V.int (((n :: ns).map V.int).length:Int)=V.int 0)=false:=decide_eq_false fun z=>by injection z with z; rw [List.length_map,List.length_cons] at z; omega
        exact ⟨n :: ns,by rw [e]; simp,by simp,hl⟩
    have z4:upd (upd H2 l3 (.lst [.int 0])) l4 (.lst (List.replicate ((if decide (V.int ((ns.map V.int).length:Int)=V.int 0)=true then (1:Int) else 0)).toNat [V.int 0]).flatten) l4=some (.lst (List.replicate ((if decide (V.int ((ns.map V.int).length:Int)=V.int 0)=true then (1:Int) else 0)).toNat [V.int 0]).flatten):=upd_same
    generalize (List.replicate ((if decide (V.int ((ns.map V.int).length:Int)=V.int 0)=true then (1:Int) else 0)).toNat [V.int 0]).flatten=zs at hcs z4 g4 s4 ⊢
    generalize upd (upd H2 l3 (.lst [.int 0])) l4 (.lst zs)=H4 at z4 g4 s4 ⊢
    refine ⟨l2,l4,_,_,rfl,rfl,g4,z4,by rw [← List.length_append,hcs,List.length_map]; exact sz (by omega),fun l5 n5=>?_⟩
    rw [hcs]
    have s5:=s4.trans (Same.upd (o:=.lst (cs.map V.int)) n5)
    have g5:upd H4 l5 (.lst (cs.map V.int)) l5=some (.lst (cs.map V.int)):=upd_same
    generalize upd H4 l5 (.lst (cs.map V.int))=H5 at s5 g5 ⊢
    walk_at "rd"
    refine ⟨l5,rfl,⟨_,SqL.of g5⟩,?_⟩
    intro acc na ka
    refine comp_by cs.length (small1000 (by omega)) (fun i vs σc H'=>Same H5 H'∧(∃ o,σc = [o])∧∃ rs:List Int,vs=rs.map V.int) ?_ ?_ ?_
    · exact ⟨Same.upd na,⟨none,rfl⟩,[],rfl⟩
    · rintro i vs σc H' hi hl ha ⟨sm,⟨o,rfl⟩,rs,rfl⟩
      have hL:SqL K H' l5 (cs.map V.int):=SqL.of (sm _ _ g5)
      have ex:(cs.map V.int)[i]? = some (.int cs[i]):=by simp [hi]
      refine ⟨⟨_,_,hL,ex⟩,?_⟩
      rintro x H6 ⟨rfl,hx⟩ R hR
      have e2:=hx _ hL
      rw [ex] at e2; cases e2
      walk_at "rd"
      refine hR _ _ _ ha ⟨fun b u e=>?_,⟨_,rfl⟩,rs ++ [_],by rw [List.map_append]; rfl⟩
      rw [upd_ne (ne_of_none e na)]; exact sm b u e
    · rintro vs σc H' hl ha ⟨sm,_,rs,rfl⟩
      refine ⟨⟨_,SqL.of (sm _ _ g5),by simp⟩,?_⟩
      walk_at "rd"
      refine ⟨sz (by simp),fun l6 n6=>?_⟩
      have nc:l5 ≠ acc:=ne_of_none g5 na
      have n65:l5 ≠ l6:=ne_of_none (sm _ _ g5) n6
      have n6a:acc ≠ l6:=ne_of_none ha n6
      refine k l6 l5 acc _ ⟨cs,rs,0,upd_same,by rw [upd_ne n65]; exact sm _ _ g5,by rw [upd_ne n6a]; exact ha,n65,nc,n6a,hc1,hc2,by simpa using hl,Int.le_refl _,Int.le_refl _⟩ ((s5.trans sm).trans (Same.upd n6)) (s5.free (sm.free n6))
noncomputable def sp_law_take (K:PySem.W.Frag):Sp:=fun vs H Q _=>∃ (st c r:Addr) (m:Nat) (b:Int),vs = [.ref st,.int b]∧Dk H st c r m∧m < 1000000000∧0 < b∧b < 1073741824 ∧
  ∀ (v:Int) (H':Hp),0 ≤ v→v < b→Dk H' st c r (m + 1)→Ext [st,r] H H'→Q (.int v) H'
theorem ok_law_take (T:Txt P K mg a)  : FnOk P w K mg base CX0 1 a.f_law_take a.d_law_take ["_law_deck_here","_law_many"] (sp_law_take K):=by
  refine T.F_law_take.ok sc_law_take (fun vs H Q E h=>?_) (fun cdv A outer s H vs Q E hr h=>?_)
  · obtain ⟨st,c,r,m,b,rfl,_⟩:=h; rfl
  · obtain ⟨st,c,r,m,b,rfl,S,hm,hb0,hb1,k⟩:=h
    obtain ⟨cs,rs,n,h1,h2h,h3h,h4,h5,h6,h7,h8,h9,h10,h11⟩:=S.ex
    have h2:SqL K H c (cs.map V.int):=SqL.of h2h
    have q1:SqL K H st [.ref c,.int n,.ref r]:=SqL.of h1
    refine exW ⟨_,(qss_cons (qs_asg (pv 0 (by rfl) (by walk_at "vis") (by decide) (by decide)) (pg_lst (n:=3) rfl (pgs_cons (pg_name (i:=2) (show (["_law_deck_here","_law_many","_law_cells","_law_count","_law_rests","_law_place_here","_law_digits","_law_mixed"]:List Str).Nodup by decide +kernel) rfl (Or.inl rfl) (by first | exact Or.inl rfl | exact Or.inr rfl)) (pgs_cons (pg_name (i:=3) (show (["_law_deck_here","_law_many","_law_cells","_law_count","_law_rests","_law_place_here","_law_digits","_law_mixed"]:List Str).Nodup by decide +kernel) rfl (Or.inl rfl) (by first | exact Or.inl rfl | exact Or.inr rfl)) (pgs_cons (pg_name (i:=4) (show (["_law_deck_here","_law_many","_law_cells","_law_count","_law_rests","_law_place_here","_law_digits","_law_mixed"]:List Str).Nodup by decide +kernel) rfl (Or.inl rfl) (by first | exact Or.inl rfl | exact Or.inr rfl)) pgs_nil (by rfl)) (by rfl)) (by rfl)) (by rfl) (by rfl)) (by rfl) (by rfl) (by rfl))
      (qss_cons (qs_set (i:=5) sc_law_take.nd rfl (Or.inl rfl) (pe_op op_mod (pv 3 (by rfl) (by walk_at "vis") (by decide) (by decide)) (qe_callB cn_len (by rfl) T.b_len (by decide +kernel) (qa (pv 2 (by rfl) (by walk_at "vis") (by decide) (by decide)) qa_nil (by rfl)) (by decide) (by decide) (by rfl) (by rfl))) (by rfl) (by first | exact Or.inl rfl | exact Or.inr rfl))
      (qss_cons (qs_asg (pe_op op_add (pv 3 (by rfl) (by walk_at "vis") (by decide) (by decide)) pe_int) (pg_sub (pv 0 (by rfl) (by walk_at "vis") (by decide) (by decide)) pe_int set_list (by intro _; rfl)) (by rfl) (by rfl) (by rfl))
      (qss_cons (qs_if (pt_cmpR op_gt (pe_ix ix_list (pv 4 (by rfl) (by walk_at "vis") (by decide) (by decide)) (pv 5 (by rfl) (by walk_at "vis") (by decide) (by decide)) (fun _ _=>rfl)) pe_int (nomark _))
        (qss_cons (qs_set (i:=6) sc_law_take.nd rfl (Or.inl rfl) (pe_ix ix_list (pv 4 (by rfl) (by walk_at "vis") (by decide) (by decide)) (pv 5 (by rfl) (by walk_at "vis") (by decide) (by decide)) (fun _ _=>rfl)) (by rfl) (by first | exact Or.inl rfl | exact Or.inr rfl))
        (qss_cons (qs_asg (pe_op op_fdiv (pv 6 (by rfl) (by walk_at "vis") (by decide) (by decide)) (pv 1 (by rfl) (by walk_at "vis") (by decide) (by decide))) (pg_sub (pv 4 (by rfl) (by walk_at "vis") (by decide) (by decide)) (pv 5 (by rfl) (by walk_at "vis") (by decide) (by decide)) set_list (by intro _; rfl)) (by rfl) (by rfl) (by rfl))
        (qss_one (qs_ret (pe_op op_mod (pv 6 (by rfl) (by walk_at "vis") (by decide) (by decide)) (pv 1 (by rfl) (by walk_at "vis") (by decide) (by decide)))))))
        qss_nil)
      (qss_cons (qs_set (i:=7) sc_law_take.nd rfl (Or.inl rfl) (pe_op op_mod (pe_op op_add (pe_op op_mul (pe_op op_mod (pe_ix ix_list (pv 2 (by rfl) (by walk_at "vis") (by decide) (by decide)) (pv 5 (by rfl) (by walk_at "vis") (by decide) (by decide)) (fun _ _=>rfl)) pe_int) pe_int) (pe_op op_mul (pe_op op_mul (pe_op op_add (pv 3 (by rfl) (by walk_at "vis") (by decide) (by decide)) pe_int) (pe_op op_add (pv 3 (by rfl) (by walk_at "vis") (by decide) (by decide)) pe_int)) pe_int)) pe_int) (by rfl) (by first | exact Or.inl rfl | exact Or.inr rfl))
      (qss_cons (qs_set (i:=7) sc_law_take.nd rfl (Or.inl rfl) (pe_op op_mod (pe_op op_pow (pv 7 (by rfl) (by walk_at "vis") (by decide) (by decide)) pe_int) pe_int) (by rfl) (by first | exact Or.inl rfl | exact Or.inr rfl))
      (qss_cons (qs_set (i:=7) sc_law_take.nd rfl (Or.inl rfl) (pe_op op_mod (pe_op op_pow (pe_op op_add (pe_op op_add (pv 7 (by rfl) (by walk_at "vis") (by decide) (by decide)) (pe_op op_mul pe_int (pv 3 (by rfl) (by walk_at "vis") (by decide) (by decide)))) pe_int) pe_int) pe_int) (by rfl) (by first | exact Or.inl rfl | exact Or.inr rfl))
      (qss_one (qs_ret (pe_op op_mod (pe_op op_fdiv (pv 7 (by rfl) (by walk_at "vis") (by decide) (by decide)) pe_int) (pv 1 (by rfl) (by walk_at "vis") (by decide) (by decide)))))))))))),?_⟩
    try dsimp only [cxOf]
    walk_at "rd"
    have hlm:((cs.map V.int).length:Int)=cs.length:=by rw [List.length_map]
    have hl0:(0:Int) < (cs.map V.int).length:=by omega
    walk_at "rd"
    have i0:=Int.emod_nonneg n (b:=((cs.map V.int).length:Int)) (by omega)
    have i1:=Int.emod_lt_of_pos n hl0
    generalize n % ((cs.map V.int).length:Int)=i at i0 i1 ⊢
    obtain ⟨j,rfl⟩:=Int.eq_ofNat_of_zero_le i0
    have hj:j < cs.length:=by omega
    obtain ⟨y,hy,_⟩:=atI_ints (ns:=rs) (i:=(j:Int)) i0 (by omega)
    obtain ⟨x,hx,_⟩:=atI_ints (ns:=cs) (i:=(j:Int)) i0 (by omega)
    have e1:Ext [st,r] H (upd H st (.lst ([V.ref c,.int n,.ref r].set (Int.toNat 1) (.int (n + 1))))):=Ext.at (by simp)
    have h3':upd H st (.lst ([V.ref c,.int n,.ref r].set (Int.toNat 1) (.int (n + 1)))) r=some (.lst (rs.map V.int)):=by rw [upd_ne h6]; exact h3h
    have h2':upd H st (.lst ([V.ref c,.int n,.ref r].set (Int.toNat 1) (.int (n + 1)))) c=some (.lst (cs.map V.int)):=by rw [upd_ne h4]; exact h2h
    have h1':upd H st (.lst ([V.ref c,.int n,.ref r].set (Int.toNat 1) (.int (n + 1)))) st=some (.lst [.ref c,.int (n + 1),.ref r]):=upd_same
    generalize upd H st (.lst ([V.ref c,.int n,.ref r].set (Int.toNat 1) (.int (n + 1))))=H1 at e1 h3' h2' h1' ⊢
    have fin:∀ v,0 ≤ v→v < b→Q (.int v) H1:=fun v g1 g2=>k v H1 g1 g2 ⟨cs,rs,n + 1,h1',h2',h3',h4,h5,h6,h7,h8,h9,by omega,by omega⟩ e1
    refine rd_ixL (SqL.of h3') hy ?_
    walk_at "rd"
    refine rd_ite2 (fun hc=>?_) (fun hc=>?_)
    · walk_at "rd"
      refine rd_ixL (SqL.of h3') hy ?_
      walk_at "rd"
      refine rd_setL h3' (ixN_nat (by simp; omega)) ?_
      walk_at "rd"
      have e2:(rs.map V.int).set j (.int (y / b))=(rs.set j (y / b)).map V.int:=by rw [List.map_set]
      rw [e2]
      refine k _ _ (Int.emod_nonneg _ (by omega)) (Int.emod_lt_of_pos _ hb0) ⟨cs,rs.set j (y / b),n + 1,?_,?_,upd_same,h4,h5,h6,h7,h8,by rw [List.length_set]; exact h9,by omega,by omega⟩ (e1.trans (Ext.at (by simp)))
      · rw [upd_ne (Ne.symm h6)]; exact h1'
      · rw [upd_ne h5]; exact h2'
    · walk_at "rd"
      refine rd_ixL (SqL.of h2') hx ?_
      walk_at "rd"
      exact fin _ (Int.emod_nonneg _ (by omega)) (Int.emod_lt_of_pos _ hb0)
noncomputable def spr_law_same (K:PySem.W.Frag) (m:Nat):Sp:=fun vs H Q _=>∃ (N:List Addr) (x y:V) (d:PyData),vs = [x,y]∧Dt K N H x d∧Dt K N H y d∧(Mt.tupB d=true∨∃ es,d = .list es∧Mt.tupBAll es=true)∧d.depth < m∧∀ H',Same H H'→Q (.bl true) H'
theorem spr_law_same_zero {K:PySem.W.Frag}{vs:List V}{H:Hp}{Q:VK}{E:XK}:¬ spr_law_same K 0 vs H Q E:=fun ⟨_,_,_,_,_,_,_,_,h,_⟩=>absurd h (Nat.not_lt_zero _)
noncomputable def sp_law_same (K:PySem.W.Frag):Sp:=spr_law_same K 3
theorem okr_law_same (T:Txt P K mg a) {k m:Nat}(G__law_same:FnOk P w K mg base CX0 k a.f_law_same a.d_law_same ["_law_found","_law_due"] (spr_law_same K m))  : FnOk P w K mg base CX0 (k + 1) a.f_law_same a.d_law_same ["_law_found","_law_due"] (spr_law_same K (m + 1)):=by
  refine T.F_law_same.ok sc_law_same (fun vs H Q E h=>?_) (fun cdv A outer s H vs Q E hr h=>?_)
  · obtain ⟨N,x,y,d,rfl,_⟩:=h; rfl
  · obtain ⟨N,x,y,d,rfl,hx,hy,ht,hm,k⟩:=h
    refine exW ⟨_,(qss_cons (qs_if (pt_cmpR on_isN (pv 1 (by rfl) (by walk_at "vis") (by decide) (by decide)) pe_non (nomark _))
        (qss_one (qs_ret (pe_cmpR on_isN (pv 0 (by rfl) (by walk_at "vis") (by decide) (by decide)) pe_non (nomark _))))
        qss_nil)
      (qss_cons (qs_if (pw_or (pt_val (qe_callB cn_isi (by rfl) T.b_isinstance (by decide +kernel) (qa (pv 1 (by rfl) (by walk_at "vis") (by decide) (by decide)) (qa (pe_bltn (by rfl) T.b_bool (by decide +kernel) (v:=.ty "bool") rfl (by decide) (by decide)) qa_nil (by rfl)) (by rfl)) (by decide) (by decide) (by rfl) (by rfl)) (by intro _; rfl)) (pw_or1 (pt_val (qe_callB cn_isi (by rfl) T.b_isinstance (by decide +kernel) (qa (pv 0 (by rfl) (by walk_at "vis") (by decide) (by decide)) (qa (pe_bltn (by rfl) T.b_bool (by decide +kernel) (v:=.ty "bool") rfl (by decide) (by decide)) qa_nil (by rfl)) (by rfl)) (by decide) (by decide) (by rfl) (by rfl)) (by intro _; rfl)))).pt
        (qss_one (qs_ret (pe_and (qe_callB cn_isi (by rfl) T.b_isinstance (by decide +kernel) (qa (pv 0 (by rfl) (by walk_at "vis") (by decide) (by decide)) (qa (pe_bltn (by rfl) T.b_bool (by decide +kernel) (v:=.ty "bool") rfl (by decide) (by decide)) qa_nil (by rfl)) (by rfl)) (by decide) (by decide) (by rfl) (by rfl)) (pe_and (qe_callB cn_isi (by rfl) T.b_isinstance (by decide +kernel) (qa (pv 1 (by rfl) (by walk_at "vis") (by decide) (by decide)) (qa (pe_bltn (by rfl) T.b_bool (by decide +kernel) (v:=.ty "bool") rfl (by decide) (by decide)) qa_nil (by rfl)) (by rfl)) (by decide) (by decide) (by rfl) (by rfl)) (pe_one (pe_cmpR op_eq (pv 0 (by rfl) (by walk_at "vis") (by decide) (by decide)) (pv 1 (by rfl) (by walk_at "vis") (by decide) (by decide)) (nomark _)))))))
        qss_nil)
      (qss_cons (qs_if (pt_val (qe_callB cn_isi (by rfl) T.b_isinstance (by decide +kernel) (qa (pv 1 (by rfl) (by walk_at "vis") (by decide) (by decide)) (qa (pe_bltn (by rfl) T.b_int (by decide +kernel) (v:=.ty "int") rfl (by decide) (by decide)) qa_nil (by rfl)) (by rfl)) (by decide) (by decide) (by rfl) (by rfl)) (by intro _; rfl))
        (qss_one (qs_ret (pe_and (qe_callB cn_isi (by rfl) T.b_isinstance (by decide +kernel) (qa (pv 0 (by rfl) (by walk_at "vis") (by decide) (by decide)) (qa (pe_bltn (by rfl) T.b_int (by decide +kernel) (v:=.ty "int") rfl (by decide) (by decide)) qa_nil (by rfl)) (by rfl)) (by decide) (by decide) (by rfl) (by rfl)) (pe_one (pe_cmpR op_eq (pv 0 (by rfl) (by walk_at "vis") (by decide) (by decide)) (pv 1 (by rfl) (by walk_at "vis") (by decide) (by decide)) (nomark _))))))
        qss_nil)
      (qss_cons (qs_if (pt_val (qe_callB cn_isi (by rfl) T.b_isinstance (by decide +kernel) (qa (pv 1 (by rfl) (by walk_at "vis") (by decide) (by decide)) (qa (pe_bltn (by rfl) T.b_str (by decide +kernel) (v:=.ty "str") rfl (by decide) (by decide)) qa_nil (by rfl)) (by rfl)) (by decide) (by decide) (by rfl) (by rfl)) (by intro _; rfl))
        (qss_one (qs_ret (pe_and (qe_callB cn_isi (by rfl) T.b_isinstance (by decide +kernel) (qa (pv 0 (by rfl) (by walk_at "vis") (by decide) (by decide)) (qa (pe_bltn (by rfl) T.b_str (by decide +kernel) (v:=.ty "str") rfl (by decide) (by decide)) qa_nil (by rfl)) (by rfl)) (by decide) (by decide) (by rfl) (by rfl)) (pe_one (pe_cmpR op_eq (pv 0 (by rfl) (by walk_at "vis") (by decide) (by decide)) (pv 1 (by rfl) (by walk_at "vis") (by decide) (by decide)) (nomark _))))))
        qss_nil)
      (qss_cons (qs_if (pw_or (pt_cmpR op_ne (qe_callB cn_isi (by rfl) T.b_isinstance (by decide +kernel) (qa (pv 1 (by rfl) (by walk_at "vis") (by decide) (by decide)) (qa (pe_bltn (by rfl) T.b_list (by decide +kernel) (v:=.ty "list") rfl (by decide) (by decide)) qa_nil (by rfl)) (by rfl)) (by decide) (by decide) (by rfl) (by rfl)) (qe_callB cn_isi (by rfl) T.b_isinstance (by decide +kernel) (qa (pv 0 (by rfl) (by walk_at "vis") (by decide) (by decide)) (qa (pe_bltn (by rfl) T.b_list (by decide +kernel) (v:=.ty "list") rfl (by decide) (by decide)) qa_nil (by rfl)) (by rfl)) (by decide) (by decide) (by rfl) (by rfl)) (nomark _)) (pw_or1 (pt_cmpR op_ne (qe_callB cn_isi (by rfl) T.b_isinstance (by decide +kernel) (qa (pv 1 (by rfl) (by walk_at "vis") (by decide) (by decide)) (qa (pe_bltn (by rfl) T.b_tuple (by decide +kernel) (v:=.ty "tuple") rfl (by decide) (by decide)) qa_nil (by rfl)) (by rfl)) (by decide) (by decide) (by rfl) (by rfl)) (qe_callB cn_isi (by rfl) T.b_isinstance (by decide +kernel) (qa (pv 0 (by rfl) (by walk_at "vis") (by decide) (by decide)) (qa (pe_bltn (by rfl) T.b_tuple (by decide +kernel) (v:=.ty "tuple") rfl (by decide) (by decide)) qa_nil (by rfl)) (by rfl)) (by decide) (by decide) (by rfl) (by rfl)) (nomark _)))).pt
        (qss_one (qs_ret pe_bl))
        qss_nil)
      (qss_cons (qs_if (pt_cmpR op_ne (qe_callB cn_len (by rfl) T.b_len (by decide +kernel) (qa (pv 0 (by rfl) (by walk_at "vis") (by decide) (by decide)) qa_nil (by rfl)) (by decide) (by decide) (by rfl) (by rfl)) (qe_callB cn_len (by rfl) T.b_len (by decide +kernel) (qa (pv 1 (by rfl) (by walk_at "vis") (by decide) (by decide)) qa_nil (by rfl)) (by decide) (by decide) (by rfl) (by rfl)) (nomark _))
        (qss_one (qs_ret pe_bl))
        qss_nil)
      (qss_cons (qs_for PassesOwn.never rfl (qi_zipM (by rfl) T.b_zip (qa (pv 0 (by rfl) (by walk_at "vis") (by decide) (by decide)) (qa (pv 1 (by rfl) (by walk_at "vis") (by decide) (by decide)) qa_nil (by rfl)) (by rfl)) (by rfl) (by rfl)) (pg_tup (n:=2) rfl (pgs_cons (pg_name (i:=2) (show (["_law_found","_law_due","_law_one","_law_other"]:List Str).Nodup by decide +kernel) rfl (Or.inl rfl) (by first | exact Or.inl rfl | exact Or.inr rfl)) (pgs_cons (pg_name (i:=3) (show (["_law_found","_law_due","_law_one","_law_other"]:List Str).Nodup by decide +kernel) rfl (Or.inl rfl) (by first | exact Or.inl rfl | exact Or.inr rfl)) pgs_nil (by rfl)) (by rfl)) (by rfl) (by rfl))
        (qss_one (qs_if (pt_not (pt_val (qe_call G__law_same (hr.mono (Nat.le_refl _)) (by rfl) T.m__law_same T.k__law_same T.bd__law_same .nil pass0 (qa (pv 2 (by rfl) (by walk_at "vis") (by decide) (by decide)) (qa (pv 3 (by rfl) (by walk_at "vis") (by decide) (by decide)) qa_nil (by rfl)) (by rfl)) (by decide) (by rfl) (by rfl)) (by intro _; rfl)))
          (qss_one (qs_ret pe_bl))
          qss_nil)) (by intro _; rfl))
      (qss_one (qs_ret pe_bl))))))))),?_⟩
    try dsimp only [cxOf]
    have hx0:=hx
    have hy0:=hy
    have r0:=Same.refl H
    cases hy with
    | non =>
      cases hx
      walk_at "rd"
      exact k _ r0
    | bl b =>
      cases hx
      walk_at "rd"
      rw [show decide (V.bl b=V.bl b)=true from decide_eq_true rfl]
      exact k _ r0
    | int j =>
      cases hx
      walk_at "rd"
      rw [show decide (V.int j=V.int j)=true from decide_eq_true rfl]
      exact k _ r0
    | str t =>
      cases hx
      walk_at "rd"
      rw [show decide (V.str t=V.str t)=true from decide_eq_true rfl]
      exact k _ r0
    | tup q n r =>
      rename_i b ys es
      cases hx with
      | tup q2 n2 r2 =>
        rename_i a2 xs
        have lx:=r2.length
        have ly:=r.length
        have hl:xs.length=ys.length:=by omega
        walk_at "rd"
        rw [show decide (V.int (xs.length:Int)=V.int (ys.length:Int))=true from decide_eq_true (by rw [hl])]
        walk_at "rd"
        refine ⟨_,_,rfl,.inl ⟨⟨xs,q2⟩,⟨ys,q⟩,?_⟩⟩
        have hall:Mt.tupBAll es=true:=by
          rcases ht with ht | ⟨_,ht,_⟩
          · simpa [Mt.tupB] using ht
          · cases ht
        have hdep:PyData.depthAll es < m:=by
          have:(PyData.tuple es).depth=PyData.depthAll es + 1:=rfl
          omega
        refine for_zipW (xs:=xs) (ys:=ys) hl (fun i σ' H'=>∃ o2 o3:Option V,σ' = [some (.ref a2),some (.ref b),o2,o3]∧Same H H') ?_ ?_ ?_ ?_
        · exact ⟨none,none,rfl,r0⟩
        · rintro i σ' H1 hi ⟨o2,o3,rfl,s1⟩
          exact ⟨s1.tupS q2,s1.tupS q⟩
        · rintro i x1 y1 p σ' H1 h1 h2 hn ⟨o2,o3,rfl,s1⟩
          obtain ⟨d1,f1,f2⟩:=r2.get h1
          obtain ⟨e1,g1,g2⟩:=r.get h2
          rw [f1] at g1; cases g1
          have s2:Same H (upd H1 p (.tup [x1,y1])):=s1.trans (Same.upd hn)
          have me:=List.mem_of_getElem? f1
          walk_at "rd"
          refine ⟨N,x1,y1,d1,rfl,f2.ext (Ext.same s2),g2.ext (Ext.same s2),(.inl (Mt.tupB_at hall me)),Nat.lt_of_le_of_lt (Mt.depth_at (Nat.le_refl _) me) hdep,fun H2 s3=>?_⟩
          walk_at "rd"
          exact ⟨some x1,some y1,rfl,s2.trans s3⟩
        · rintro σ' H1 ⟨o2,o3,rfl,s1⟩
          walk_at "rd"
          exact k _ s1
    | lst q n r =>
      rename_i b ys es
      cases hx with
      | lst q2 n2 r2 =>
        rename_i a2 xs
        have lx:=r2.length
        have ly:=r.length
        have hl:xs.length=ys.length:=by omega
        walk_at "rd"
        rw [show decide (V.int (xs.length:Int)=V.int (ys.length:Int))=true from decide_eq_true (by rw [hl])]
        walk_at "rd"
        refine ⟨_,_,rfl,.inr ⟨⟨xs,q2⟩,⟨ys,q⟩,?_⟩⟩
        have hall:Mt.tupBAll es=true:=by
          rcases ht with ht | ⟨_,ht,h2⟩
          · cases ht
          · cases ht; exact h2
        have hdep:PyData.depthAll es < m:=by
          have:(PyData.list es).depth=PyData.depthAll es + 1:=rfl
          omega
        refine for_zipLW (xs:=xs) (ys:=ys) hl (fun i σ' H'=>∃ o2 o3:Option V,σ' = [some (.ref a2),some (.ref b),o2,o3]∧Same H H') ?_ ?_ ?_ ?_
        · exact ⟨none,none,rfl,r0⟩
        · rintro i σ' H1 hi ⟨o2,o3,rfl,s1⟩
          exact ⟨(Ext.same (N:=[]) s1).lst q2 (by simp),(Ext.same (N:=[]) s1).lst q (by simp)⟩
        · rintro i x1 y1 p σ' H1 h1 h2 hn ⟨o2,o3,rfl,s1⟩
          obtain ⟨d1,f1,f2⟩:=r2.get h1
          obtain ⟨e1,g1,g2⟩:=r.get h2
          rw [f1] at g1; cases g1
          have s2:Same H (upd H1 p (.tup [x1,y1])):=s1.trans (Same.upd hn)
          have me:=List.mem_of_getElem? f1
          walk_at "rd"
          refine ⟨N,x1,y1,d1,rfl,f2.ext (Ext.same s2),g2.ext (Ext.same s2),(.inl (Mt.tupB_at hall me)),Nat.lt_of_le_of_lt (Mt.depth_at (Nat.le_refl _) me) hdep,fun H2 s3=>?_⟩
          walk_at "rd"
          exact ⟨some x1,some y1,rfl,s2.trans s3⟩
        · rintro σ' H1 ⟨o2,o3,rfl,s1⟩
          walk_at "rd"
          exact k _ s1
    | dk0 q n=>rcases ht with ht | ⟨_,ht,_⟩ <;> cases ht
    | dk1 q n r=>rcases ht with ht | ⟨_,ht,_⟩ <;> cases ht
theorem rec_law_same (T:Txt P K mg a):∀ m,FnOk P w K mg base CX0 m a.f_law_same a.d_law_same ["_law_found","_law_due"] (spr_law_same K m)
  | 0=>⟨fun vs H Q E h=>absurd h (spr_law_same_zero),fun A outer s H args us vs Q E _ _ _ _ h=>absurd h (spr_law_same_zero)⟩
  | m + 1=>okr_law_same T (rec_law_same T m)
theorem ok_law_same (T:Txt P K mg a):FnOk P w K mg base CX0 3 a.f_law_same a.d_law_same ["_law_found","_law_due"] (sp_law_same K):=rec_law_same T 3
noncomputable def sp_law_names (K:PySem.W.Frag) (a:Adr):Sp:=fun vs H Q _=>∃ (x C:Addr) (dx:Option Addr) (nm:Str),vs = [.ref x]∧H x=some (.ext (ExcIs x (.ref C) dx))∧((C=a.C_NoCount∧nm = "NoCount")∨(C=a.C_NoHouse∧nm = "NoHouse")∨(C=a.C_NoPlace∧nm = "NoPlace")) ∧
  ∀ l H',Same H H'→H' l=some (.lst [.str nm])→Q (.ref l) H'
theorem ok_law_names (T:Txt P K mg a)  : FnOk P w K mg base CX0 1 a.f_law_names a.d_law_names ["_law_error"] (sp_law_names K a):=by
  refine T.F_law_names.ok sc_law_names (fun vs H Q E h=>?_) (fun cdv A outer s H vs Q E hr h=>?_)
  · obtain ⟨x,C,dx,nm,rfl,_⟩:=h; rfl
  · obtain ⟨x,C,dx,nm,rfl,ex,c,k⟩:=h
    refine exW ⟨_,(qss_cons (qs_set (i:=1) sc_law_names.nd rfl (Or.inl rfl) (qe_lstA (qa (qe_callB cn_isiX (by rfl) T.b_isinstance (by decide +kernel) (qa (pv 0 (by rfl) (by walk_at "vis") (by decide) (by decide)) (qa (pe_glob (v:=.ref a.C_NoCount) (by rfl) T.mC_NoCount rfl (by decide)) qa_nil (by rfl)) (by rfl)) (by decide) (by decide) (by rfl) (by rfl)) (qa (qe_callB cn_isiX (by rfl) T.b_isinstance (by decide +kernel) (qa (pv 0 (by rfl) (by walk_at "vis") (by decide) (by decide)) (qa (pe_glob (v:=.ref a.C_NoHouse) (by rfl) T.mC_NoHouse rfl (by decide)) qa_nil (by rfl)) (by rfl)) (by decide) (by decide) (by rfl) (by rfl)) (qa (qe_callB cn_isiX (by rfl) T.b_isinstance (by decide +kernel) (qa (pv 0 (by rfl) (by walk_at "vis") (by decide) (by decide)) (qa (pe_glob (v:=.ref a.C_NoPlace) (by rfl) T.mC_NoPlace rfl (by decide)) qa_nil (by rfl)) (by rfl)) (by decide) (by decide) (by rfl) (by rfl)) qa_nil (by rfl)) (by rfl)) (by rfl))) (by rfl) (by first | exact Or.inl rfl | exact Or.inr rfl))
      (qss_cons (qs_set (i:=1) sc_law_names.nd rfl (Or.inl rfl) (pe_op op_catA (pv 1 (by rfl) (by walk_at "vis") (by decide) (by decide)) (qe_lstA (qa (qe_callB cn_isiX (by rfl) T.b_isinstance (by decide +kernel) (qa (pv 0 (by rfl) (by walk_at "vis") (by decide) (by decide)) (qa (pe_glob (v:=.ref a.C_NoRow) (by rfl) T.mC_NoRow rfl (by decide)) qa_nil (by rfl)) (by rfl)) (by decide) (by decide) (by rfl) (by rfl)) (qa (qe_callB cn_isiX (by rfl) T.b_isinstance (by decide +kernel) (qa (pv 0 (by rfl) (by walk_at "vis") (by decide) (by decide)) (qa (pe_glob (v:=.ref a.C_NoRule) (by rfl) T.mC_NoRule rfl (by decide)) qa_nil (by rfl)) (by rfl)) (by decide) (by decide) (by rfl) (by rfl)) (qa (qe_callB cn_isiX (by rfl) T.b_isinstance (by decide +kernel) (qa (pv 0 (by rfl) (by walk_at "vis") (by decide) (by decide)) (qa (pe_glob (v:=.ref a.C_NoKey) (by rfl) T.mC_NoKey rfl (by decide)) qa_nil (by rfl)) (by rfl)) (by decide) (by decide) (by rfl) (by rfl)) qa_nil (by rfl)) (by rfl)) (by rfl)))) (by rfl) (by first | exact Or.inl rfl | exact Or.inr rfl))
      (qss_cons (qs_setLA (i:=2) sc_law_names.nd rfl (Or.inl rfl) (qa pe_str (qa pe_str (qa pe_str (qa pe_str (qa pe_str (qa pe_str qa_nil (by rfl)) (by rfl)) (by rfl)) (by rfl)) (by rfl)) (by rfl)) (by first | exact Or.inl rfl | exact Or.inr rfl))
      (qss_one (qs_ret (by
        refine' pe_comp (NC:=["_law_name","_law_so"]) (fr:=[none,none]) ?B5 rfl ?hi5 ?hg5 ?ht5 ?he5 (by intro _; rfl)
        case B5=>exact ⟨rfl,rfl,by decide +kernel,by decide +kernel,rfl,⟨trivial,trivial,trivial⟩⟩
        case hi5=>exact (qi_zipL (by rfl) T.b_zip (qa (pv 2 (by rfl) (by walk_at "vis") (by decide) (by decide)) (qa (pv 1 (by rfl) (by walk_at "vis") (by decide) (by decide)) qa_nil (by rfl)) (by rfl)) (by rfl) (by rfl))
        case hg5=>intro _ _ _; exact (pg_tupK (K:=K) (n:=2) (by rfl) rfl (pgs_cons (pg_name (i:=0) (show (["_law_name","_law_so"]:List Str).Nodup by decide +kernel) rfl (Or.inl rfl) (by first | exact Or.inl rfl | exact Or.inr rfl)) (pgs_cons (pg_name (i:=1) (show (["_law_name","_law_so"]:List Str).Nodup by decide +kernel) rfl (Or.inl rfl) (by first | exact Or.inl rfl | exact Or.inr rfl)) pgs_nil (by rfl)) (by rfl)) (by rfl) (by rfl))
        case ht5=>intro _ _ _; exact (pf_one (pt_val (pv 1 (by rfl) (by walk_at "vis") (by decide) (by decide)) (by intro _; rfl)))
        case he5=>intro _ _ _; exact (pv 0 (by rfl) (by walk_at "vis") (by decide) (by decide)))))))),?_⟩
    try dsimp only [cxOf]
    obtain ⟨b1,b2,b3,b4,b5,b6,g,i1,i2,i3,i4,i5,i6,hbs⟩:∃ b1 b2 b3 b4 b5 b6:Bool,XG K C∧PySem.W.kitOne K (.ref C) (.ref a.C_NoCount)=some b1∧PySem.W.kitOne K (.ref C) (.ref a.C_NoHouse)=some b2∧PySem.W.kitOne K (.ref C) (.ref a.C_NoPlace)=some b3∧PySem.W.kitOne K (.ref C) (.ref a.C_NoRow)=some b4∧PySem.W.kitOne K (.ref C) (.ref a.C_NoRule)=some b5∧PySem.W.kitOne K (.ref C) (.ref a.C_NoKey)=some b6 ∧
        ((nm = "NoCount"∧[b1,b2,b3,b4,b5,b6] = [true,false,false,false,false,false])∨(nm = "NoHouse"∧[b1,b2,b3,b4,b5,b6] = [false,true,false,false,false,false])∨(nm = "NoPlace"∧[b1,b2,b3,b4,b5,b6] = [false,false,true,false,false,false])):=by
      rcases c with ⟨rfl,rfl⟩ | ⟨rfl,rfl⟩ | ⟨rfl,rfl⟩
      · exact ⟨_,_,_,_,_,_,T.xg_NoCount,T.is_NoCount_NoCount,T.is_NoCount_NoHouse,T.is_NoCount_NoPlace,T.is_NoCount_NoRow,T.is_NoCount_NoRule,T.is_NoCount_NoKey,.inl ⟨rfl,rfl⟩⟩
      · exact ⟨_,_,_,_,_,_,T.xg_NoHouse,T.is_NoHouse_NoCount,T.is_NoHouse_NoHouse,T.is_NoHouse_NoPlace,T.is_NoHouse_NoRow,T.is_NoHouse_NoRule,T.is_NoHouse_NoKey,.inr (.inl ⟨rfl,rfl⟩)⟩
      · exact ⟨_,_,_,_,_,_,T.xg_NoPlace,T.is_NoPlace_NoCount,T.is_NoPlace_NoHouse,T.is_NoPlace_NoPlace,T.is_NoPlace_NoRow,T.is_NoPlace_NoRule,T.is_NoPlace_NoKey,.inr (.inr ⟨rfl,rfl⟩)⟩
    have ty:∀ {H':Hp},Same H H'→TyX K H' (.ref x) (.ref C):=fun s=>.exc (s _ _ ex) g
    walk_at "rd"
    refine rd_isiX (ty (Same.refl _)) rfl i1 ?_
    walk_at "rd"
    refine rd_isiX (ty (Same.refl _)) rfl i2 ?_
    walk_at "rd"
    refine rd_isiX (ty (Same.refl _)) rfl i3 ?_
    walk_at "rd"
    refine ⟨sz (by simp),fun l1 H1 n1 s1 e1=>?_⟩
    walk_at "rd"
    refine rd_isiX (ty s1) rfl i4 ?_
    walk_at "rd"
    refine rd_isiX (ty s1) rfl i5 ?_
    walk_at "rd"
    refine rd_isiX (ty s1) rfl i6 ?_
    walk_at "rd"
    refine ⟨sz (by simp),fun l2 H2 n2 s2 e2=>?_⟩
    refine rd_catA (s2 _ _ e1) e2 (sz (by simp)) fun l5 H5 n5 s5 e5=>?_
    walk_at "rd"
    refine ⟨sz (by simp),fun l6 H6 n6 s6 e6=>?_⟩
    have e5':=s6 _ _ e5
    walk_at "rd"
    refine ⟨l6,l5,rfl,⟨_,SqL.of e6⟩,⟨_,SqL.of e5'⟩,?_⟩
    intro acc hacc nka
    have t6:Same H H6:=((s1.trans s2).trans s5).trans s6
    have nac6:l6 ≠ acc:=fun z=>by rw [← z,e6] at hacc; cases hacc
    have nac5:l5 ≠ acc:=fun z=>by rw [← z,e5'] at hacc; cases hacc
    refine comp_byF 6 (by decide) (fun i vs σc H'=>Same H6 H'∧(∃ o1 o2,σc = [o1,o2])∧vs=((["NoCount","NoHouse","NoPlace","NoRow","NoRule","NoKey"].zip [b1,b2,b3,b4,b5,b6]).take i).filterMap fun p=>if p.2 then some (V.str (Str.ofString p.1)) else none) ?_ ?_ ?_
    · exact ⟨(Same.refl H6).upd2 hacc,⟨none,none,rfl⟩,by simp⟩
    · rintro i vs σc H7 hi hl7 ha7 ⟨s7,⟨o1,o2,rfl⟩,rfl⟩
      have q6:=SqL.of (K:=K) (s7 _ _ e6)
      have q5:=SqL.of (K:=K) (s7 _ _ e5')
      generalize hss:["NoCount","NoHouse","NoPlace","NoRow","NoRule","NoKey"]=ss at *
      generalize hbl:[b1,b2,b3,b4,b5,b6]=bs at *
      have w6:SqL K H7 l6 (ss.map fun s=>V.str (Str.ofString s)):=by rw [← hss]; exact q6
      have w5:SqL K H7 l5 (bs.map V.bl):=by rw [← hbl]; exact q5
      obtain ⟨s',hs'⟩:∃ s',ss[i]? = some s':=⟨_,List.getElem?_eq_getElem (by rw [← hss]; exact hi)⟩
      obtain ⟨b',hb'⟩:∃ b',bs[i]? = some b':=⟨_,List.getElem?_eq_getElem (by rw [← hbl]; exact hi)⟩
      have hz:(ss.zip bs)[i]? = some (s',b'):=by rw [List.getElem?_zip_eq_some]; exact ⟨hs',hb'⟩
      have tk:(ss.zip bs).take (i + 1)=(ss.zip bs).take i ++ [(s',b')]:=by rw [List.take_succ,hz]; rfl
      have g6:(ss.map fun s=>V.str (Str.ofString s))[i]? = some (V.str (Str.ofString s')):=by rw [List.getElem?_map,hs']; rfl
      have g5:(bs.map V.bl)[i]? = some (V.bl b'):=by rw [List.getElem?_map,hb']; rfl
      refine ⟨⟨_,_,_,_,w6,w5,g6,g5⟩,?_⟩
      rintro y H8 ⟨t,y1,y2,ht,hy1,hy2,rfl,rfl⟩ R S hR hS
      have ey1:=hy1 _ w6
      have ey2:=hy2 _ w5
      rw [g6] at ey1; cases ey1
      rw [g5] at ey2; cases ey2
      have nt:acc ≠ t:=fun z=>by rw [z,ht] at ha7; cases ha7
      have s78:Same H7 (upd H7 t (.tup [.str (Str.ofString s'),.bl b'])):=Same.upd ht
      walk_at "rd"
      cases b' with
      | true =>
        walk_at "rd"
        refine hR _ _ _ (by rw [upd_ne nt]; exact ha7) ⟨(s7.trans s78).upd2 hacc,⟨_,_,rfl⟩,?_⟩
        rw [tk,List.filterMap_append]; rfl
      | false =>
        walk_at "rd"
        refine hS _ _ (by rw [upd_ne nt]; exact ha7) ⟨s7.trans s78,⟨_,_,rfl⟩,?_⟩
        rw [tk,List.filterMap_append]; simp
    · rintro vs σc H7 hl7 ha7 ⟨s7,_,rfl⟩
      refine ⟨⟨_,_,SqL.of (s7 _ _ e6),SqL.of (s7 _ _ e5'),.inl (by simp)⟩,?_⟩
      walk_at "rd"
      refine k acc H7 (t6.trans s7) ?_
      rw [ha7]
      rcases hbs with ⟨rfl,z⟩ | ⟨rfl,z⟩ | ⟨rfl,z⟩ <;> (simp only [List.cons.injEq,and_true] at z; obtain ⟨rfl,rfl,rfl,rfl,rfl,rfl⟩:=z; rfl)
noncomputable def sp_law_caught (K:PySem.W.Frag) (a:Adr):Sp:=fun vs H Q _=>∃ (N:List Addr) (way:Int) (p d:Addr) (room:Int) (qs:List (Int×Int)) (x y:V) (d1 d2:PyData) (isH:Bool) (v:V) (dv:PyData),vs = [.int way,.ref p,x,y]∧SlAt a.C_Slots H p d room qs∧qs.length ≤ 60∧1 ≤ room∧room ≤ 400∧Dt K N H x d1∧Dt K N H y d2∧badS way x y d1 d2 isH v dv ∧
  ∀ (ea dx:Addr) (H':Hp),Same H H'→H' ea=some (.ext (ExcIs ea (.ref (if isH=true then a.C_NoHouse else a.C_NoPlace)) (some dx)))→H' dx=some (.xd [(if isH=true then "house" else "place",v)])→Q (.ref ea) H'
theorem ok_law_caught (T:Txt P K mg a) (G_Slots_anew:FnOk P w K mg base (CX1 P w) 5 a.f_Slots_anew a.d_Slots_anew ["self","house","place"] (sp_Slots_anew K a)) (G_Slots_cut_for:FnOk P w K mg base (CX1 P w) 6 a.f_Slots_cut_for a.d_Slots_cut_for ["self","end","applied"] (sp_Slots_cut_for K a)) (G_Slots_free:FnOk P w K mg base (CX1 P w) 5 a.f_Slots_free a.d_Slots_free ["self","house"] (sp_Slots_free K a)) (G_Slots_hold:FnOk P w K mg base (CX1 P w) 5 a.f_Slots_hold a.d_Slots_hold ["self","house","place"] (sp_Slots_hold K a)):FnOk P w K mg base CX0 7 a.f_law_caught a.d_law_caught ["_law_way","_law_slots","_law_one","_law_other"] (sp_law_caught K a):=by
  refine T.F_law_caught.ok sc_law_caught (fun vs H Q E h=>?_) (fun cdv A outer s H vs Q E hr h=>?_)
  · obtain ⟨N,way,p,d,room,qs,x,y,d1,d2,isH,v,dv,rfl,_⟩:=h; rfl
  · obtain ⟨N,way,p,d,room,qs,x,y,d1,d2,isH,v,dv,rfl,S,hl,r0,r1,hx,hy,hb,k⟩:=h
    obtain ⟨⟨dx0,h1⟩,hd,nd⟩:=id S
    refine exW ⟨_,(qss_cons (qs_set (i:=4) sc_law_caught.nd rfl (Or.inl rfl) pe_non (by rfl) (by first | exact Or.inl rfl | exact Or.inr rfl))
      (qss_cons (qs_try (i:=5) (c:="LineError") sc_law_caught.nd rfl rfl (by rfl) T.mC_LineError rfl rfl rfl (fun _ _ XR hx =>
        (qss_one (qs_if (pt_cmpR op_eq (pv 0 (by rfl) (by walk_at "vis") (by decide) (by decide)) pe_int (nomark _))
          (qss_one (qs_expr (qe_methX (pv 1 (by rfl) (by walk_at "vis") (by decide) (by decide)) T.cl_Slots T.mt_Slots_hold G_Slots_hold (hr.mono (by decide)) T.bd_Slots_hold hx (qa (pv 2 (by rfl) (by walk_at "vis") (by decide) (by decide)) (qa (pv 3 (by rfl) (by walk_at "vis") (by decide) (by decide)) qa_nil (by rfl)) (by rfl)) (by rfl) (by rfl) (by rfl)) (by rfl)))
          (qss_one (qs_if (pt_cmpR op_eq (pv 0 (by rfl) (by walk_at "vis") (by decide) (by decide)) pe_int (nomark _))
            (qss_one (qs_expr (qe_methX (pv 1 (by rfl) (by walk_at "vis") (by decide) (by decide)) T.cl_Slots T.mt_Slots_anew G_Slots_anew (hr.mono (by decide)) T.bd_Slots_anew hx (qa (pv 2 (by rfl) (by walk_at "vis") (by decide) (by decide)) (qa (pv 3 (by rfl) (by walk_at "vis") (by decide) (by decide)) qa_nil (by rfl)) (by rfl)) (by rfl) (by rfl) (by rfl)) (by rfl)))
            (qss_one (qs_if (pt_cmpR op_eq (pv 0 (by rfl) (by walk_at "vis") (by decide) (by decide)) pe_int (nomark _))
              (qss_one (qs_expr (qe_methX (pv 1 (by rfl) (by walk_at "vis") (by decide) (by decide)) T.cl_Slots T.mt_Slots_free G_Slots_free (hr.mono (by decide)) T.bd_Slots_free hx (qa (pv 2 (by rfl) (by walk_at "vis") (by decide) (by decide)) qa_nil (by rfl)) (by rfl) (by rfl) (by rfl)) (by rfl)))
              (qss_one (qs_expr (qe_methX (pv 1 (by rfl) (by walk_at "vis") (by decide) (by decide)) T.cl_Slots T.mt_Slots_cut_for G_Slots_cut_for (hr.mono (by decide)) T.bd_Slots_cut_for hx (qa (pv 2 (by rfl) (by walk_at "vis") (by decide) (by decide)) (qa (pv 3 (by rfl) (by walk_at "vis") (by decide) (by decide)) qa_nil (by rfl)) (by rfl)) (by rfl) (by rfl) (by rfl)) (by rfl)))))))))) (fun _ =>
        (qss_one (qs_set (i:=4) sc_law_caught.nd rfl (Or.inl rfl) (pv 5 (by rfl) (by walk_at "vis") (by decide) (by decide)) (by rfl) (by first | exact Or.inl rfl | exact Or.inr rfl)))) (by decide))
      (qss_one (qs_ret (pv 4 (by rfl) (by walk_at "vis") (by decide) (by decide)))))),?_⟩
    try dsimp only [cxOf]
    have finH:∀ {H1:Hp}{dx ee:Addr}{C:Addr}{f:Str}{z:V},Same H H1→H1 dx=none→upd H1 dx (.xd [(f,z)]) ee=none →
        Same H (upd (upd H1 dx (.xd [(f,z)])) ee (.ext (ExcIs ee (.ref C) (some dx))))∧upd (upd H1 dx (.xd [(f,z)])) ee (.ext (ExcIs ee (.ref C) (some dx))) dx=some (.xd [(f,z)]):=fun {H1 dx ee C f z} s hdx he0=>by
      have nx:dx ≠ ee:=fun q=>by rw [q,upd_same] at he0; cases he0
      exact ⟨s.trans ((Same.upd hdx).trans (Same.upd he0)),by rw [upd_ne nx]; exact upd_same⟩
    rcases hb with ⟨rfl,rfl,rfl,hway,w1⟩ | ⟨rfl,rfl,rfl,hway,w1,w2⟩ | ⟨rfl,rfl,rfl,rfl,w1⟩ | ⟨rfl,rfl,rfl,rfl,en,rfl,e0,e1,w1⟩
    · rcases hway with rfl | rfl | rfl
      · walk_at "rd"
        refine ⟨p,_,_,rfl,h1,slF_no _ _ (by decide +kernel) (by decide +kernel),?_⟩
        walk_at "rd"
        refine ⟨N,p,d,room,qs,_,y,_,d2,rfl,S,by omega,hx,hy,.inl ⟨w1,fun dx hdx=>⟨T.ex_NoHouse_LineError,fun ee he0=>?_⟩⟩⟩
        obtain ⟨s2,g2⟩:=finH (C:=a.C_NoHouse) (Same.refl H) hdx he0
        walk_at "rd"
        exact k ee dx _ s2 upd_same g2
      · walk_at "rd"
        refine ⟨p,_,_,rfl,h1,slF_no _ _ (by decide +kernel) (by decide +kernel),?_⟩
        walk_at "rd"
        refine ⟨N,p,d,room,qs,_,y,_,d2,rfl,S,by omega,hx,hy,.inl ⟨w1,fun dx hdx=>⟨T.ex_NoHouse_LineError,fun ee he0=>?_⟩⟩⟩
        obtain ⟨s2,g2⟩:=finH (C:=a.C_NoHouse) (Same.refl H) hdx he0
        walk_at "rd"
        exact k ee dx _ s2 upd_same g2
      · walk_at "rd"
        refine ⟨p,_,_,rfl,h1,slF_no _ _ (by decide +kernel) (by decide +kernel),?_⟩
        walk_at "rd"
        refine ⟨N,p,d,room,qs,_,_,rfl,S,hx,.inl ⟨w1,fun dx hdx=>⟨T.ex_NoHouse_LineError,fun ee he0=>?_⟩⟩⟩
        obtain ⟨s2,g2⟩:=finH (C:=a.C_NoHouse) (Same.refl H) hdx he0
        walk_at "rd"
        exact k ee dx _ s2 upd_same g2
    · rcases hway with rfl | rfl
      · walk_at "rd"
        refine ⟨p,_,_,rfl,h1,slF_no _ _ (by decide +kernel) (by decide +kernel),?_⟩
        walk_at "rd"
        refine ⟨N,p,d,room,qs,x,_,d1,_,rfl,S,by omega,hx,hy,.inr (.inl ⟨w1,w2,fun dx hdx=>⟨T.ex_NoPlace_LineError,fun ee he0=>?_⟩⟩)⟩
        obtain ⟨s2,g2⟩:=finH (C:=a.C_NoPlace) (Same.refl H) hdx he0
        walk_at "rd"
        exact k ee dx _ s2 upd_same g2
      · walk_at "rd"
        refine ⟨p,_,_,rfl,h1,slF_no _ _ (by decide +kernel) (by decide +kernel),?_⟩
        walk_at "rd"
        refine ⟨N,p,d,room,qs,x,_,d1,_,rfl,S,by omega,hx,hy,.inr (.inl ⟨w1,w2,fun dx hdx=>⟨T.ex_NoPlace_LineError,fun ee he0=>?_⟩⟩)⟩
        obtain ⟨s2,g2⟩:=finH (C:=a.C_NoPlace) (Same.refl H) hdx he0
        walk_at "rd"
        exact k ee dx _ s2 upd_same g2
    · walk_at "rd"
      refine ⟨p,_,_,rfl,h1,slF_no _ _ (by decide +kernel) (by decide +kernel),?_⟩
      walk_at "rd"
      refine ⟨N,p,d,room,qs,_,y,_,d2,rfl,S,hl,r0,r1,hx,hy,.inl ⟨w1,fun H1 dx s1 hdx=>⟨T.ex_NoPlace_LineError,fun ee he0=>?_⟩⟩⟩
      obtain ⟨s2,g2⟩:=finH (C:=a.C_NoPlace) s1 hdx he0
      walk_at "rd"
      exact k ee dx _ s2 upd_same g2
    · walk_at "rd"
      refine ⟨p,_,_,rfl,h1,slF_no _ _ (by decide +kernel) (by decide +kernel),?_⟩
      walk_at "rd"
      refine ⟨N,p,d,room,qs,_,_,d1,_,rfl,S,hl,r0,r1,hx,hy,.inr (.inl ⟨en,rfl,e0,e1,w1,fun H1 dx s1 hdx=>⟨T.ex_NoPlace_LineError,fun ee he0=>?_⟩⟩)⟩
      obtain ⟨s2,g2⟩:=finH (C:=a.C_NoPlace) s1 hdx he0
      walk_at "rd"
      exact k ee dx _ s2 upd_same g2
noncomputable def sp_law_refused (K:PySem.W.Frag) (a:Adr):Sp:=fun vs H Q _=>∃ (N:List Addr) (way:Int) (p d l:Addr) (room:Int) (qs:List (Int×Int)) (x y:V) (d1 d2:PyData) (isH:Bool) (v:V) (dv:PyData),vs = [.int way,.ref p,.ref l,.str (if isH=true then "NoHouse" else "NoPlace"),v]∧H l=some (.lst [x,y])∧SlAt a.C_Slots H p d room qs∧qs.length ≤ 60∧1 ≤ room∧room ≤ 400∧Dt K N H x d1∧Dt K N H y d2∧badS way x y d1 d2 isH v dv∧Mt.tupB dv=true∧dv.depth < 3 ∧
  ∀ H',Same H H'→Q (.bl true) H'
theorem ok_law_refused (T:Txt P K mg a) (G__law_caught:FnOk P w K mg base CX0 7 a.f_law_caught a.d_law_caught ["_law_way","_law_slots","_law_one","_law_other"] (sp_law_caught K a)) (G__law_names:FnOk P w K mg base CX0 1 a.f_law_names a.d_law_names ["_law_error"] (sp_law_names K a)) (G__law_same:FnOk P w K mg base CX0 3 a.f_law_same a.d_law_same ["_law_found","_law_due"] (sp_law_same K)):FnOk P w K mg base CX0 8 a.f_law_refused a.d_law_refused ["_law_way","_law_slots","_law_handed","_law_name","_law_field"] (sp_law_refused K a):=by
  refine T.F_law_refused.ok sc_law_refused (fun vs H Q E h=>?_) (fun cdv A outer s H vs Q E hr h=>?_)
  · obtain ⟨N,way,p,d,l,room,qs,x,y,d1,d2,isH,v,dv,rfl,_⟩:=h; rfl
  · obtain ⟨N,way,p,d,l,room,qs,x,y,d1,d2,isH,v,dv,rfl,hl,S,hql,r0,r1,hx,hy,hb,ht,hdp,k⟩:=h
    have hv:Dt K N H v dv:=by
      rcases hb with ⟨_,rfl,rfl,_⟩ | ⟨_,rfl,rfl,_⟩ | ⟨_,rfl,rfl,_⟩ | ⟨_,rfl,rfl,_⟩ <;> assumption
    refine exW ⟨_,(qss_cons (qs_set (i:=5) sc_law_refused.nd rfl (Or.inl rfl) (qe_call G__law_caught (hr.mono (by decide)) (by rfl) T.m__law_caught T.k__law_caught T.bd__law_caught .nil pass0 (qa (pv 0 (by rfl) (by walk_at "vis") (by decide) (by decide)) (qa (pv 1 (by rfl) (by walk_at "vis") (by decide) (by decide)) (qa (pe_ix ix_list (pv 2 (by rfl) (by walk_at "vis") (by decide) (by decide)) pe_int (fun _ _=>rfl)) (qa (pe_ix ix_list (pv 2 (by rfl) (by walk_at "vis") (by decide) (by decide)) pe_int (fun _ _=>rfl)) qa_nil (by rfl)) (by rfl)) (by rfl)) (by rfl)) (by decide) (by rfl) (by rfl)) (by rfl) (by first | exact Or.inl rfl | exact Or.inr rfl))
      (qss_cons (qs_if (pw_or (pt_cmpR on_isN (pv 5 (by rfl) (by walk_at "vis") (by decide) (by decide)) pe_non (nomark _)) (pw_or (pt_not (pt_val (qe_callB cn_isiX (by rfl) T.b_isinstance (by decide +kernel) (qa (pv 5 (by rfl) (by walk_at "vis") (by decide) (by decide)) (qa (pe_bltn (by rfl) T.b_ValueError (by decide +kernel) (v:=.ty "ValueError") rfl (by decide) (by decide)) qa_nil (by rfl)) (by rfl)) (by decide) (by decide) (by rfl) (by rfl)) (by intro _; rfl))) (pw_or1 (pt_cmpR (on_neD hr) (qe_call G__law_names (hr.mono (by decide)) (by rfl) T.m__law_names T.k__law_names T.bd__law_names .nil pass0 (qa (pv 5 (by rfl) (by walk_at "vis") (by decide) (by decide)) qa_nil (by rfl)) (by decide) (by rfl) (by rfl)) (qe_lstA (qa (pv 3 (by rfl) (by walk_at "vis") (by decide) (by decide)) qa_nil (by rfl))) (nomark _))))).pt
        (qss_one (qs_ret pe_bl))
        qss_nil)
      (qss_cons (qs_if (pt_cmpR op_eq (pv 3 (by rfl) (by walk_at "vis") (by decide) (by decide)) pe_str (nomark _))
        (qss_one (qs_ret (qe_call G__law_same (hr.mono (by decide)) (by rfl) T.m__law_same T.k__law_same T.bd__law_same .nil pass0 (qa (pe_xat (pv 5 (by rfl) (by walk_at "vis") (by decide) (by decide)) (by rfl)) (qa (pv 4 (by rfl) (by walk_at "vis") (by decide) (by decide)) qa_nil (by rfl)) (by rfl)) (by decide) (by rfl) (by rfl))))
        qss_nil)
      (qss_one (qs_ret (qe_call G__law_same (hr.mono (by decide)) (by rfl) T.m__law_same T.k__law_same T.bd__law_same .nil pass0 (qa (pe_xat (pv 5 (by rfl) (by walk_at "vis") (by decide) (by decide)) (by rfl)) (qa (pv 4 (by rfl) (by walk_at "vis") (by decide) (by decide)) qa_nil (by rfl)) (by rfl)) (by decide) (by rfl) (by rfl))))))),?_⟩
    try dsimp only [cxOf]
    walk_at "rd"
    refine ⟨N,way,p,d,room,qs,x,y,d1,d2,isH,v,dv,rfl,S,hql,r0,r1,hx,hy,hb,fun ea dx H2 s2 ex ed=>?_⟩
    have ty:∀ {H':Hp},Same H2 H'→TyX K H' (.ref ea) (.ref (if isH=true then a.C_NoHouse else a.C_NoPlace)):=fun s=>.exc (s _ _ ex) (by cases isH; exact T.xg_NoPlace; exact T.xg_NoHouse)
    walk_at "rd"
    refine rd_isiX (ty (Same.refl _)) rfl (b:=true) (by cases isH; exact T.is_NoPlace_ValueError; exact T.is_NoHouse_ValueError) ?_
    walk_at "rd"
    refine ⟨ea,_,some dx,if isH=true then "NoHouse" else "NoPlace",rfl,ex,by cases isH <;> simp,fun l3 H3 s3 g3=>?_⟩
    walk_at "rd"
    refine ⟨sz (by simp),fun l4 H4 n4 s4 g4=>?_⟩
    have g34:=s4 _ _ g3
    generalize hnm:(if isH=true then ("NoHouse":Str) else "NoPlace")=nm at *
    refine rd_neD (N:=[]) (d:=.list [.str nm]) (e:=.list [.str nm]) (.lst (SqL.of g34) (by simp) (.cons (.str _) .nil)) (.lst (SqL.of g4) (by simp) (.cons (.str _) .nil)) (by rw [← hnm]; cases isH <;> decide +kernel) (by rw [← hnm]; cases isH <;> decide +kernel) ?_
    rw [show PyData.eqv (.list [.str nm]) (.list [.str nm])=true by rw [← hnm]; cases isH <;> decide +kernel]
    have s24:=s3.trans s4
    have s04:=s2.trans s24
    have ex4:=s24 _ _ ex
    have ed4:=s24 _ _ ed
    cases isH with
    | true =>
      simp only [if_true] at hnm ex4 ed4
      subst hnm
      walk_at "rd"
      refine ⟨ea,_,dx,_,v,_,rfl,ex4,T.xg_NoHouse,T.Z_NoHouse.xc,T.Z_NoHouse.x1.no,ed4,rfl,?_⟩
      walk_at "rd"
      exact ⟨N,v,v,dv,rfl,hv.ext (Ext.same s04),hv.ext (Ext.same s04),.inl ht,hdp,fun H5 s5=>k _ (s04.trans s5)⟩
    | false =>
      simp only [Bool.false_eq_true,if_false] at hnm ex4 ed4
      subst hnm
      walk_at "rd"
      refine ⟨ea,_,dx,_,v,_,rfl,ex4,T.xg_NoPlace,T.Z_NoPlace.xc,T.Z_NoPlace.x1.no,ed4,rfl,?_⟩
      walk_at "rd"
      exact ⟨N,v,v,dv,rfl,hv.ext (Ext.same s04),hv.ext (Ext.same s04),.inl ht,hdp,fun H5 s5=>k _ (s04.trans s5)⟩
noncomputable def sp_law_place (K:PySem.W.Frag):Sp:=fun vs H Q _=>∃ (st c r:Addr) (m:Nat),vs = [.ref st]∧Dk H st c r m∧m < 900000000 ∧
  ∀ (v:Int) (H':Hp),0 ≤ v→v ≤ 1000000→Dk H' st c r (m + 4)→Ext [st,r] H H'→Q (.int v) H'
theorem ok_law_place (T:Txt P K mg a) (G__law_take:FnOk P w K mg base CX0 1 a.f_law_take a.d_law_take ["_law_deck_here","_law_many"] (sp_law_take K)):FnOk P w K mg base CX0 2 a.f_law_place a.d_law_place ["_law_deck_here"] (sp_law_place K):=by
  refine T.F_law_place.ok sc_law_place (fun vs H Q E h=>?_) (fun cdv A outer s H vs Q E hr h=>?_)
  · obtain ⟨st,c,r,m,rfl,_⟩:=h; rfl
  · obtain ⟨st,c,r,m,rfl,S,hm,k⟩:=h
    have p6:(10:Int) ^ (6:Int).toNat=1000000:=by decide
    refine exW ⟨_,(qss_cons (qs_if (pt_cmpR op_eq (qe_call G__law_take (hr.mono (by decide)) (by rfl) T.m__law_take T.k__law_take T.bd__law_take .nil pass0 (qa (pv 0 (by rfl) (by walk_at "vis") (by decide) (by decide)) (qa pe_int qa_nil (by rfl)) (by rfl)) (by decide) (by rfl) (by rfl)) pe_int (nomark _))
        (qss_one (qs_ret (pe_ix ix_list (qe_lstA (qa (pe_op op_pow pe_int pe_int) (qa (pe_op op_sub (pe_op op_pow pe_int pe_int) (qe_call G__law_take (hr.mono (by decide)) (by rfl) T.m__law_take T.k__law_take T.bd__law_take .nil pass0 (qa (pv 0 (by rfl) (by walk_at "vis") (by decide) (by decide)) (qa pe_int qa_nil (by rfl)) (by rfl)) (by decide) (by rfl) (by rfl))) (qa (qe_call G__law_take (hr.mono (by decide)) (by rfl) T.m__law_take T.k__law_take T.bd__law_take .nil pass0 (qa (pv 0 (by rfl) (by walk_at "vis") (by decide) (by decide)) (qa (pe_op op_pow pe_int pe_int) qa_nil (by rfl)) (by rfl)) (by decide) (by rfl) (by rfl)) qa_nil (by rfl)) (by rfl)) (by rfl))) (qe_call G__law_take (hr.mono (by decide)) (by rfl) T.m__law_take T.k__law_take T.bd__law_take .nil pass0 (qa (pv 0 (by rfl) (by walk_at "vis") (by decide) (by decide)) (qa pe_int qa_nil (by rfl)) (by rfl)) (by decide) (by rfl) (by rfl)) (fun _ _=>rfl))))
        qss_nil)
      (qss_one (qs_ret (qe_call G__law_take (hr.mono (by decide)) (by rfl) T.m__law_take T.k__law_take T.bd__law_take .nil pass0 (qa (pv 0 (by rfl) (by walk_at "vis") (by decide) (by decide)) (qa pe_int qa_nil (by rfl)) (by rfl)) (by decide) (by rfl) (by rfl))))),?_⟩
    try dsimp only [cxOf]
    walk_at "rq"
    refine ⟨st,c,r,_,8,rfl,S,by omega,by decide,by decide,fun v1 H1 a1 b1 S1 x1=>?_⟩
    walk_at "rq"
    refine rd_ite2 (fun hc=>?_) (fun hc=>?_)
    · walk_at "rq"
      refine ⟨st,c,r,_,500,rfl,S1,by omega,by decide,by decide,fun v2 H2 a2 b2 S2 x2=>?_⟩
      walk_at "rq"
      rw [p6]
      refine ⟨st,c,r,_,1000000,rfl,S2,by omega,by decide,by decide,fun v3 H3 a3 b3 S3 x3=>?_⟩
      walk_at "rq"
      refine ⟨sz (by simp),fun l4 H4 n4 s4 g4=>?_⟩
      have S4:=S3.same s4
      have d4:l4 ∉ [st,c,r]:=S3.new n4
      walk_at "rq"
      refine ⟨st,c,r,_,3,rfl,S4,by omega,by decide,by decide,fun v5 H5 a5 b5 S5 x5=>?_⟩
      obtain ⟨v,e5,hv⟩:=av3 (x:=1000000) (y:=1000000 - v2) (z:=v3) a5 b5
      refine rd_ixL (SqL.of (x5 _ _ g4 (nin_pr d4))) e5 ?_
      walk_at "rq"
      exact k v H5 (by omega) (by omega) S5 (x1.trans (x2.trans (x3.trans ((Ext.same (N:=[st,r]) s4).trans x5))))
    · walk_at "rq"
      refine ⟨st,c,r,_,41,rfl,S1,by omega,by decide,by decide,fun v2 H2 a2 b2 S2 x2=>?_⟩
      walk_at "rq"
      exact k v2 H2 a2 (by omega) (S2.mono (by omega)) (x1.trans x2)
noncomputable def sp_law_odd (K:PySem.W.Frag):Sp:=fun vs H Q _=>∃ (st c r:Addr) (m:Nat) (hi:Int),vs = [.ref st,.int hi]∧Dk H st c r m∧m < 800000000∧0 ≤ hi∧hi ≤ 1000000 ∧
  ∀ (x:V) (d:PyData) (H':Hp),Dt K [st,c,r] H' x d→Mt.withinD 0 hi d=false→Mt.tupB d=true→d.depth ≤ 1→Dk H' st c r (m + 3)→Ext [st,r] H H'→Q x H'
theorem ok_law_odd (T:Txt P K mg a) (G__law_take:FnOk P w K mg base CX0 1 a.f_law_take a.d_law_take ["_law_deck_here","_law_many"] (sp_law_take K)):FnOk P w K mg base CX0 2 a.f_law_odd a.d_law_odd ["_law_deck_here","_law_most"] (sp_law_odd K):=by
  refine T.F_law_odd.ok sc_law_odd (fun vs H Q E h=>?_) (fun cdv A outer s H vs Q E hr h=>?_)
  · obtain ⟨st,c,r,m,hi,rfl,_⟩:=h; rfl
  · obtain ⟨st,c,r,m,hi,rfl,S,hm,h1,h2,k⟩:=h
    refine exW ⟨_,(qss_cons (qs_setLA (i:=2) sc_law_odd.nd rfl (Or.inl rfl) (qa (by exact (pe_un un_neg pe_int)) (qa (by exact (pe_op op_add (pv 1 (by rfl) (by walk_at "vis") (by decide) (by decide)) pe_int)) (qa (by exact (pe_op op_sub (pe_un un_neg pe_int) (qe_call G__law_take (hr.mono (by decide)) (by rfl) T.m__law_take T.k__law_take T.bd__law_take .nil pass0 (qa (pv 0 (by rfl) (by walk_at "vis") (by decide) (by decide)) (qa pe_int qa_nil (by rfl)) (by rfl)) (by decide) (by rfl) (by rfl)))) (qa (by exact (pe_op op_add (pe_op op_add (pv 1 (by rfl) (by walk_at "vis") (by decide) (by decide)) pe_int) (qe_call G__law_take (hr.mono (by decide)) (by rfl) T.m__law_take T.k__law_take T.bd__law_take .nil pass0 (qa (pv 0 (by rfl) (by walk_at "vis") (by decide) (by decide)) (qa pe_int qa_nil (by rfl)) (by rfl)) (by decide) (by rfl) (by rfl)))) (qa (by exact (pe_op op_pow pe_int pe_int)) (qa pe_bl (qa pe_bl qa_nil (by rfl)) (by rfl)) (by rfl)) (by rfl)) (by rfl)) (by rfl)) (by rfl)) (by first | exact Or.inl rfl | exact Or.inr rfl))
      (qss_cons (qs_set (i:=2) sc_law_odd.nd rfl (Or.inl rfl) (pe_op op_catA (pv 2 (by rfl) (by walk_at "vis") (by decide) (by decide)) (qe_lstA (qa pe_non (qa pe_str (qa pe_str (qa (qe_tupA (qa pe_int qa_nil (by rfl))) qa_nil (by rfl)) (by rfl)) (by rfl)) (by rfl)))) (by rfl) (by first | exact Or.inl rfl | exact Or.inr rfl))
      (qss_one (qs_ret (pe_ix ix_list (pv 2 (by rfl) (by walk_at "vis") (by decide) (by decide)) (qe_call G__law_take (hr.mono (by decide)) (by rfl) T.m__law_take T.k__law_take T.bd__law_take .nil pass0 (qa (pv 0 (by rfl) (by walk_at "vis") (by decide) (by decide)) (qa pe_int qa_nil (by rfl)) (by rfl)) (by decide) (by rfl) (by rfl)) (fun _ _=>rfl)))))),?_⟩
    try dsimp only [cxOf]
    walk_at "rd"
    refine ⟨st,c,r,m,9,rfl,S,by omega,by decide,by decide,fun v1 H1 a1 b1 S1 x1=>?_⟩
    walk_at "rd"
    refine ⟨st,c,r,m + 1,9,rfl,S1,by omega,by decide,by decide,fun v2 H2 a2 b2 S2 x2=>?_⟩
    walk_at "rd"
    refine ⟨sz (by simp),fun l1 H3 n3 s3 e3=>?_⟩
    walk_at "rd"
    refine ⟨sz (by simp),fun t1 H4 n4 s4 e4=>?_⟩
    walk_at "rd"
    refine ⟨sz (by simp),fun l2 H6 n6 s6 e6=>?_⟩
    walk_at "rd"
    refine rd_catA ((s4.trans s6) _ _ e3) e6 (sz (by simp)) fun l3 H7 n7 s7 e7=>?_
    walk_at "rd"
    have S7:=S2.same (s3.trans (s4.trans (s6.trans s7)))
    have dl:l3 ∉ [st,c,r]:=(S2.same (s3.trans (s4.trans s6))).new n7
    have dt:t1 ∉ [st,c,r]:=(S2.same s3).new n4
    refine ⟨st,c,r,m + 2,11,rfl,S7,by omega,by decide,by decide,fun v3 H8 a3 b3 S8 x8=>?_⟩
    have x08:Ext [st,r] H H8:=((x1.trans x2).trans (Ext.same (s3.trans (s4.trans (s6.trans s7))))).trans x8
    have e8:=x8 _ _ e7 (nin_pr dl)
    have e48:=x8 _ _ ((s6.trans s7) _ _ e4) (nin_pr dt)
    obtain ⟨j,rfl⟩:=Int.eq_ofNat_of_zero_le a3
    walk_at "rd"
    have fin:∀ (x:V) (d:PyData),Dt K [st,c,r] H8 x d→Mt.withinD 0 hi d=false→(Mt.tupB d=true∧d.depth ≤ 1)→Q x H8:=fun x d g1 g2 g3=>k x d H8 g1 g2 g3.1 g3.2 S8 x08
    have big:∀ i:Int,i < 0∨hi < i→Q (.int i) H8:=fun i h=>fin _ (.int i) (.int i) (by simp [Mt.withinD]; omega) ⟨rfl,by simp [PyData.depth]⟩
    have p40:(10:Int) ^ (40:Int).toNat=10000000000000000000000000000000000000000:=by decide +kernel
    refine rd_ixL (v:=([V.int (-1),.int (hi + 1),.int (-1 - v1),.int (hi + 1 + v2),.int (10 ^ (40:Int).toNat),.bl true,.bl false,.non,.str "0",.str "",.ref t1]:List V).getD j .non) (SqL.of e8) (atI_nat ?_) ?_
    · have hj:j < 11:=by omega
      rw [List.getD_eq_getElem?_getD]
      match j,hj with
      | 0,_=>rfl
      | 1,_=>rfl
      | 2,_=>rfl
      | 3,_=>rfl
      | 4,_=>rfl
      | 5,_=>rfl
      | 6,_=>rfl
      | 7,_=>rfl
      | 8,_=>rfl
      | 9,_=>rfl
      | 10,_=>rfl
    · have hj:j < 11:=by omega
      match j,hj with
      | 0,_=>exact big _ (by omega)
      | 1,_=>exact big _ (by omega)
      | 2,_=>exact big _ (by omega)
      | 3,_=>exact big _ (by omega)
      | 4,_=>exact big _ (by rw [p40]; omega)
      | 5,_=>exact fin _ _ (.bl true) rfl ⟨rfl,by decide⟩
      | 6,_=>exact fin _ _ (.bl false) rfl ⟨rfl,by decide⟩
      | 7,_=>exact fin _ _ .non rfl ⟨rfl,by decide⟩
      | 8,_=>exact fin _ _ (.str _) rfl ⟨rfl,by decide⟩
      | 9,_=>exact fin _ _ (.str _) rfl ⟨rfl,by decide⟩
      | 10,_=>exact fin _ (.tuple [.int 1]) (.tup (SqT.of e48) dt (.cons (.int 1) .nil)) rfl ⟨rfl,by decide⟩
noncomputable def sp_law_wrong (K:PySem.W.Frag) (a:Adr):Sp:=fun vs H Q _=>∃ (st c r:Addr) (m:Nat) (p d:Addr) (room:Int) (qs:List (Int×Int)),vs = [.ref st,.ref p]∧Dk H st c r m∧m < 100000000∧SlAt a.C_Slots H p d room qs∧qs.length ≤ 60∧1 ≤ room∧room ≤ 400 ∧
  ∀ H',Dk H' st c r (m + 30)→Ext [st,r] H H'→Q (.bl true) H'
theorem ok_law_wrong (T:Txt P K mg a) (G__law_odd:FnOk P w K mg base CX0 2 a.f_law_odd a.d_law_odd ["_law_deck_here","_law_most"] (sp_law_odd K)) (G__law_place:FnOk P w K mg base CX0 2 a.f_law_place a.d_law_place ["_law_deck_here"] (sp_law_place K)) (G__law_refused:FnOk P w K mg base CX0 8 a.f_law_refused a.d_law_refused ["_law_way","_law_slots","_law_handed","_law_name","_law_field"] (sp_law_refused K a)) (G__law_take:FnOk P w K mg base CX0 1 a.f_law_take a.d_law_take ["_law_deck_here","_law_many"] (sp_law_take K)):FnOk P w K mg base CX0 9 a.f_law_wrong a.d_law_wrong ["_law_deck_here","_law_slots"] (sp_law_wrong K a):=by
  refine T.F_law_wrong.ok sc_law_wrong (fun vs H Q E h=>?_) (fun cdv A outer s H vs Q E hr h=>?_)
  · obtain ⟨st,c,r,m,p,d,room,qs,rfl,_⟩:=h; rfl
  · obtain ⟨st,c,r,m,p,d,room,qs,rfl,D,hm,S,hl,r0,r1,k⟩:=h
    have p6:(10:Int) ^ (6:Int).toNat=1000000:=by decide
    have wd:∀ {H' H'':Hp}{x:V}{dd:PyData},Dt K [st,c,r] H' x dd→Ext [st,r] H' H''→Dt K [st,c,r] H'' x dd:=fun h x=>h.ext (x.wide (by simp only [List.mem_cons,List.not_mem_nil,or_false]; rintro b (rfl | rfl) <;> simp))
    refine exW ⟨_,(qss_cons (qs_set (i:=2) sc_law_wrong.nd rfl (Or.inl rfl) (qe_call G__law_take (hr.mono (by decide)) (by rfl) T.m__law_take T.k__law_take T.bd__law_take .nil pass0 (qa (pv 0 (by rfl) (by walk_at "vis") (by decide) (by decide)) (qa pe_int qa_nil (by rfl)) (by rfl)) (by decide) (by rfl) (by rfl)) (by rfl) (by first | exact Or.inl rfl | exact Or.inr rfl))
      (qss_cons (qs_if (pt_cmpR op_eq (pv 2 (by rfl) (by walk_at "vis") (by decide) (by decide)) pe_int (nomark _))
        (qss_cons (qs_set (i:=3) sc_law_wrong.nd rfl (Or.inl rfl) (qe_call G__law_place (hr.mono (by decide)) (by rfl) T.m__law_place T.k__law_place T.bd__law_place .nil pass0 (qa (pv 0 (by rfl) (by walk_at "vis") (by decide) (by decide)) qa_nil (by rfl)) (by decide) (by rfl) (by rfl)) (by rfl) (by first | exact Or.inl rfl | exact Or.inr rfl))
        (qss_cons (qs_if (pt_cmpR op_eq (qe_call G__law_take (hr.mono (by decide)) (by rfl) T.m__law_take T.k__law_take T.bd__law_take .nil pass0 (qa (pv 0 (by rfl) (by walk_at "vis") (by decide) (by decide)) (qa pe_int qa_nil (by rfl)) (by rfl)) (by decide) (by rfl) (by rfl)) pe_int (nomark _))
          (qss_cons (qs_set (i:=4) sc_law_wrong.nd rfl (Or.inl rfl) (qe_call G__law_odd (hr.mono (by decide)) (by rfl) T.m__law_odd T.k__law_odd T.bd__law_odd .nil pass0 (qa (pv 0 (by rfl) (by walk_at "vis") (by decide) (by decide)) (qa (pe_op op_pow pe_int pe_int) qa_nil (by rfl)) (by rfl)) (by decide) (by rfl) (by rfl)) (by rfl) (by first | exact Or.inl rfl | exact Or.inr rfl))
          (qss_one (qs_ret (qe_call G__law_refused (hr.mono (by decide)) (by rfl) T.m__law_refused T.k__law_refused T.bd__law_refused .nil pass0 (qa pe_int (qa (pv 1 (by rfl) (by walk_at "vis") (by decide) (by decide)) (qa (by exact (qe_lstA (qa (pv 4 (by rfl) (by walk_at "vis") (by decide) (by decide)) (qa (pe_ix ix_list (qe_lstA (qa pe_int (qa (qe_call G__law_odd (hr.mono (by decide)) (by rfl) T.m__law_odd T.k__law_odd T.bd__law_odd .nil pass0 (qa (pv 0 (by rfl) (by walk_at "vis") (by decide) (by decide)) (qa pe_int qa_nil (by rfl)) (by rfl)) (by decide) (by rfl) (by rfl)) qa_nil (by rfl)) (by rfl))) (qe_call G__law_take (hr.mono (by decide)) (by rfl) T.m__law_take T.k__law_take T.bd__law_take .nil pass0 (qa (pv 0 (by rfl) (by walk_at "vis") (by decide) (by decide)) (qa pe_int qa_nil (by rfl)) (by rfl)) (by decide) (by rfl) (by rfl)) (fun _ _=>rfl)) qa_nil (by rfl)) (by rfl)))) (qa pe_str (qa (pv 4 (by rfl) (by walk_at "vis") (by decide) (by decide)) qa_nil (by rfl)) (by rfl)) (by rfl)) (by rfl)) (by rfl)) (by decide) (by rfl) (by rfl)))))
          qss_nil)
        (qss_cons (qs_set (i:=4) sc_law_wrong.nd rfl (Or.inl rfl) (qe_call G__law_odd (hr.mono (by decide)) (by rfl) T.m__law_odd T.k__law_odd T.bd__law_odd .nil pass0 (qa (pv 0 (by rfl) (by walk_at "vis") (by decide) (by decide)) (qa (pv 3 (by rfl) (by walk_at "vis") (by decide) (by decide)) qa_nil (by rfl)) (by rfl)) (by decide) (by rfl) (by rfl)) (by rfl) (by first | exact Or.inl rfl | exact Or.inr rfl))
        (qss_one (qs_ret (qe_call G__law_refused (hr.mono (by decide)) (by rfl) T.m__law_refused T.k__law_refused T.bd__law_refused .nil pass0 (qa pe_int (qa (pv 1 (by rfl) (by walk_at "vis") (by decide) (by decide)) (qa (by exact (qe_lstA (qa (pv 3 (by rfl) (by walk_at "vis") (by decide) (by decide)) (qa (pv 4 (by rfl) (by walk_at "vis") (by decide) (by decide)) qa_nil (by rfl)) (by rfl)))) (qa pe_str (qa (pv 4 (by rfl) (by walk_at "vis") (by decide) (by decide)) qa_nil (by rfl)) (by rfl)) (by rfl)) (by rfl)) (by rfl)) (by decide) (by rfl) (by rfl)))))))
        qss_nil)
      (qss_cons (qs_set (i:=4) sc_law_wrong.nd rfl (Or.inl rfl) (qe_call G__law_odd (hr.mono (by decide)) (by rfl) T.m__law_odd T.k__law_odd T.bd__law_odd .nil pass0 (qa (pv 0 (by rfl) (by walk_at "vis") (by decide) (by decide)) (qa pe_int qa_nil (by rfl)) (by rfl)) (by decide) (by rfl) (by rfl)) (by rfl) (by first | exact Or.inl rfl | exact Or.inr rfl))
      (qss_cons (qs_if (pw_or (pt_cmpR op_eq (pv 2 (by rfl) (by walk_at "vis") (by decide) (by decide)) pe_int (nomark _)) (pw_or1 (pt_cmpR op_eq (qe_call G__law_take (hr.mono (by decide)) (by rfl) T.m__law_take T.k__law_take T.bd__law_take .nil pass0 (qa (pv 0 (by rfl) (by walk_at "vis") (by decide) (by decide)) (qa pe_int qa_nil (by rfl)) (by rfl)) (by decide) (by rfl) (by rfl)) pe_int (nomark _)))).pt
        (qss_cons (qs_set (i:=5) sc_law_wrong.nd rfl (Or.inl rfl) (pe_ix ix_list (qe_lstA (qa (qe_call G__law_place (hr.mono (by decide)) (by rfl) T.m__law_place T.k__law_place T.bd__law_place .nil pass0 (qa (pv 0 (by rfl) (by walk_at "vis") (by decide) (by decide)) qa_nil (by rfl)) (by decide) (by rfl) (by rfl)) (qa (qe_call G__law_odd (hr.mono (by decide)) (by rfl) T.m__law_odd T.k__law_odd T.bd__law_odd .nil pass0 (qa (pv 0 (by rfl) (by walk_at "vis") (by decide) (by decide)) (qa (pe_op op_pow pe_int pe_int) qa_nil (by rfl)) (by rfl)) (by decide) (by rfl) (by rfl)) qa_nil (by rfl)) (by rfl))) (qe_call G__law_take (hr.mono (by decide)) (by rfl) T.m__law_take T.k__law_take T.bd__law_take .nil pass0 (qa (pv 0 (by rfl) (by walk_at "vis") (by decide) (by decide)) (qa pe_int qa_nil (by rfl)) (by rfl)) (by decide) (by rfl) (by rfl)) (fun _ _=>rfl)) (by rfl) (by first | exact Or.inl rfl | exact Or.inr rfl))
        (qss_one (qs_ret (qe_call G__law_refused (hr.mono (by decide)) (by rfl) T.m__law_refused T.k__law_refused T.bd__law_refused .nil pass0 (qa (pv 2 (by rfl) (by walk_at "vis") (by decide) (by decide)) (qa (pv 1 (by rfl) (by walk_at "vis") (by decide) (by decide)) (qa (by exact (qe_lstA (qa (pv 4 (by rfl) (by walk_at "vis") (by decide) (by decide)) (qa (pv 5 (by rfl) (by walk_at "vis") (by decide) (by decide)) qa_nil (by rfl)) (by rfl)))) (qa pe_str (qa (pv 4 (by rfl) (by walk_at "vis") (by decide) (by decide)) qa_nil (by rfl)) (by rfl)) (by rfl)) (by rfl)) (by rfl)) (by decide) (by rfl) (by rfl)))))
        qss_nil)
      (qss_cons (qs_set (i:=4) sc_law_wrong.nd rfl (Or.inl rfl) (qe_call G__law_odd (hr.mono (by decide)) (by rfl) T.m__law_odd T.k__law_odd T.bd__law_odd .nil pass0 (qa (pv 0 (by rfl) (by walk_at "vis") (by decide) (by decide)) (qa (pe_op op_pow pe_int pe_int) qa_nil (by rfl)) (by rfl)) (by decide) (by rfl) (by rfl)) (by rfl) (by first | exact Or.inl rfl | exact Or.inr rfl))
      (qss_one (qs_ret (qe_call G__law_refused (hr.mono (by decide)) (by rfl) T.m__law_refused T.k__law_refused T.bd__law_refused .nil pass0 (qa (pv 2 (by rfl) (by walk_at "vis") (by decide) (by decide)) (qa (pv 1 (by rfl) (by walk_at "vis") (by decide) (by decide)) (qa (by exact (qe_lstA (qa (qe_call G__law_take (hr.mono (by decide)) (by rfl) T.m__law_take T.k__law_take T.bd__law_take .nil pass0 (qa (pv 0 (by rfl) (by walk_at "vis") (by decide) (by decide)) (qa pe_int qa_nil (by rfl)) (by rfl)) (by decide) (by rfl) (by rfl)) (qa (pv 4 (by rfl) (by walk_at "vis") (by decide) (by decide)) qa_nil (by rfl)) (by rfl)))) (qa pe_str (qa (pv 4 (by rfl) (by walk_at "vis") (by decide) (by decide)) qa_nil (by rfl)) (by rfl)) (by rfl)) (by rfl)) (by rfl)) (by decide) (by rfl) (by rfl))))))))),?_⟩
    try dsimp only [cxOf]
    walk_at "rq"
    refine ⟨st,c,r,_,4,rfl,D,by omega,by decide,by decide,fun way H1 a1 b1 D1 x1=>?_⟩
    have S1:=S.nl (nl_dk D x1)
    walk_at "rq"
    refine rd_ite2 (fun hc=>?_) (fun hc=>?_)
    · walk_at "rq"
      refine ⟨st,c,r,_,rfl,D1,by omega,fun en H2 e0 e1 D2 x2=>?_⟩
      have S2:=S1.nl (nl_dk D1 x2)
      walk_at "rq"
      refine ⟨st,c,r,_,2,rfl,D2,by omega,by decide,by decide,fun v3 H3 a3 b3 D3 x3=>?_⟩
      have S3:=S2.nl (nl_dk D2 x3)
      walk_at "rq"
      have x13:=x1.trans (x2.trans x3)
      refine rd_ite2 (fun hc2=>?_) (fun hc2=>?_)
      · walk_at "rq"
        rw [p6]
        refine ⟨st,c,r,_,1000000,rfl,D3,by omega,by decide,by decide,fun x4 d4 H4 hx4 hw4 ht4 hp4 D4 y4=>?_⟩
        have S4:=S3.nl (nl_dk D3 y4)
        walk_at "rq"
        refine ⟨st,c,r,_,0,rfl,D4,by omega,by decide,by decide,fun x5 d5 H5 hx5 hw5 ht5 hp5 D5 y5=>?_⟩
        have S5:=S4.nl (nl_dk D4 y5)
        walk_at "rq"
        refine ⟨sz (by simp),fun l6 H6 n6 s6 g6=>?_⟩
        have D6:=D5.same s6
        have d6:l6 ∉ [st,c,r]:=D5.new n6
        walk_at "rq"
        refine ⟨st,c,r,_,2,rfl,D6,by omega,by decide,by decide,fun v7 H7 a7 b7 D7 y7=>?_⟩
        obtain ⟨z,ez,hz⟩:=at2D a7 b7 (.int 0) x5
        refine rd_ixL (SqL.of (y7 _ _ g6 (nin_pr d6))) ez ?_
        have y57:=(Ext.same (N:=[st,r]) s6).trans y7
        obtain ⟨dz,hdz⟩:∃ dz,Dt K [st,c,r] H7 z dz:=by
          rcases hz with rfl | rfl
          · exact ⟨_,.int 0⟩
          · exact ⟨_,wd hx5 y57⟩
        have S7:=(S5.same s6).nl (nl_dk D6 y7)
        walk_at "rq"
        refine ⟨sz (by simp),fun l8 H8 n8 s8 g8=>?_⟩
        walk_at "rq"
        refine ⟨[st,c,r],3,p,d,l8,room,qs,x4,z,d4,dz,false,x4,d4,rfl,g8,S7.same s8,hl,r0,r1,(wd hx4 (y5.trans y57)).ext (Ext.same s8),hdz.ext (Ext.same s8),.inr (.inr (.inl ⟨rfl,rfl,rfl,rfl,hw4⟩)),ht4,by omega,fun H9 s9=>?_⟩
        walk_at "rq"
        exact k _ ((D7.same (s8.trans s9)).mono (by omega)) (x13.trans (y4.trans (y5.trans (y57.trans (Ext.same (s8.trans s9))))))
      · walk_at "rq"
        refine ⟨st,c,r,_,en,rfl,D3,by omega,e0,e1,fun x4 d4 H4 hx4 hw4 ht4 hp4 D4 y4=>?_⟩
        have S4:=S3.nl (nl_dk D3 y4)
        walk_at "rq"
        refine ⟨sz (by simp),fun l8 H8 n8 s8 g8=>?_⟩
        walk_at "rq"
        refine ⟨[st,c,r],3,p,d,l8,room,qs,.int en,x4,.int en,d4,false,x4,d4,rfl,g8,S4.same s8,hl,r0,r1,.int en,hx4.ext (Ext.same s8),.inr (.inr (.inr ⟨rfl,rfl,rfl,rfl,en,rfl,e0,e1,hw4⟩)),ht4,by omega,fun H9 s9=>?_⟩
        walk_at "rq"
        exact k _ ((D4.same (s8.trans s9)).mono (by omega)) (x13.trans (y4.trans (Ext.same (s8.trans s9))))
    · have hway:way=0∨way=1∨way=2:=by
        have:¬ way=3:=fun z=>by rw [z] at hc; simp at hc
        omega
      walk_at "rq"
      refine ⟨st,c,r,_,7,rfl,D1,by omega,by decide,by decide,fun x4 d4 H4 hx4 hw4 ht4 hp4 D4 y4=>?_⟩
      have S4:=S1.nl (nl_dk D1 y4)
      walk_at "rq"
      by_cases h2:way=2
      · subst h2
        walk_at "rd"
        refine ⟨st,c,r,_,rfl,D4,by omega,fun pl H5 p0 p1 D5 y5=>?_⟩
        have S5:=S4.nl (nl_dk D4 y5)
        walk_at "rq"
        rw [p6]
        refine ⟨st,c,r,_,1000000,rfl,D5,by omega,by decide,by decide,fun x6 d6 H6 hx6 hw6 ht6 hp6 D6 y6=>?_⟩
        have S6:=S5.nl (nl_dk D5 y6)
        walk_at "rq"
        refine ⟨sz (by simp),fun l7 H7 n7 s7 g7=>?_⟩
        have D7:=D6.same s7
        have dl7:l7 ∉ [st,c,r]:=D6.new n7
        walk_at "rq"
        refine ⟨st,c,r,_,2,rfl,D7,by omega,by decide,by decide,fun v8 H8 a8 b8 D8 y8=>?_⟩
        obtain ⟨z,ez,hz⟩:=at2D a8 b8 (.int pl) x6
        refine rd_ixL (SqL.of (y8 _ _ g7 (nin_pr dl7))) ez ?_
        have y68:=(Ext.same (N:=[st,r]) s7).trans y8
        obtain ⟨dz,hdz⟩:∃ dz,Dt K [st,c,r] H8 z dz:=by
          rcases hz with rfl | rfl
          · exact ⟨_,.int pl⟩
          · exact ⟨_,wd hx6 y68⟩
        have S8:=(S6.same s7).nl (nl_dk D7 y8)
        walk_at "rq"
        refine ⟨sz (by simp),fun l9 H9 n9 s9 g9=>?_⟩
        walk_at "rq"
        refine ⟨[st,c,r],2,p,d,l9,room,qs,x4,z,d4,dz,true,x4,d4,rfl,g9,S8.same s9,hl,r0,r1,(wd hx4 (y5.trans (y6.trans y68))).ext (Ext.same s9),hdz.ext (Ext.same s9),.inl ⟨rfl,rfl,rfl,hway,hw4⟩,ht4,by omega,fun H10 s10=>?_⟩
        walk_at "rq"
        exact k _ ((D8.same (s9.trans s10)).mono (by omega)) (x1.trans (y4.trans (y5.trans (y6.trans (y68.trans (Ext.same (s9.trans s10)))))))
      · rw [show decide (V.int way=V.int 2)=false by simp [h2]]
        walk_at "rd"
        refine ⟨st,c,r,_,2,rfl,D4,by omega,by decide,by decide,fun v4 H45 a4 b4 D45 y45=>?_⟩
        have S45:=S4.nl (nl_dk D4 y45)
        walk_at "rq"
        refine rd_ite2 (fun hc2=>?_) (fun hc2=>?_)
        · walk_at "rq"
          refine ⟨st,c,r,_,rfl,D45,by omega,fun pl H5 p0 p1 D5 y5=>?_⟩
          have S5:=S45.nl (nl_dk D45 y5)
          walk_at "rq"
          rw [p6]
          refine ⟨st,c,r,_,1000000,rfl,D5,by omega,by decide,by decide,fun x6 d6 H6 hx6 hw6 ht6 hp6 D6 y6=>?_⟩
          have S6:=S5.nl (nl_dk D5 y6)
          walk_at "rq"
          refine ⟨sz (by simp),fun l7 H7 n7 s7 g7=>?_⟩
          have D7:=D6.same s7
          have dl7:l7 ∉ [st,c,r]:=D6.new n7
          walk_at "rq"
          refine ⟨st,c,r,_,2,rfl,D7,by omega,by decide,by decide,fun v8 H8 a8 b8 D8 y8=>?_⟩
          obtain ⟨z,ez,hz⟩:=at2D a8 b8 (.int pl) x6
          refine rd_ixL (SqL.of (y8 _ _ g7 (nin_pr dl7))) ez ?_
          have y68:=(Ext.same (N:=[st,r]) s7).trans y8
          obtain ⟨dz,hdz⟩:∃ dz,Dt K [st,c,r] H8 z dz:=by
            rcases hz with rfl | rfl
            · exact ⟨_,.int pl⟩
            · exact ⟨_,wd hx6 y68⟩
          have S8:=(S6.same s7).nl (nl_dk D7 y8)
          walk_at "rq"
          refine ⟨sz (by simp),fun l9 H9 n9 s9 g9=>?_⟩
          walk_at "rq"
          refine ⟨[st,c,r],way,p,d,l9,room,qs,x4,z,d4,dz,true,x4,d4,rfl,g9,S8.same s9,hl,r0,r1,(wd hx4 (y45.trans (y5.trans (y6.trans y68)))).ext (Ext.same s9),hdz.ext (Ext.same s9),.inl ⟨rfl,rfl,rfl,hway,hw4⟩,ht4,by omega,fun H10 s10=>?_⟩
          walk_at "rq"
          exact k _ ((D8.same (s9.trans s10)).mono (by omega)) (x1.trans (y4.trans (y45.trans (y5.trans (y6.trans (y68.trans (Ext.same (s9.trans s10))))))))
        · walk_at "rq"
          rw [p6]
          refine ⟨st,c,r,_,1000000,rfl,D45,by omega,by decide,by decide,fun x6 d6 H6 hx6 hw6 ht6 hp6 D6 y6=>?_⟩
          have S6:=S45.nl (nl_dk D45 y6)
          walk_at "rq"
          refine ⟨st,c,r,_,8,rfl,D6,by omega,by decide,by decide,fun v7 H7 a7 b7 D7 y7=>?_⟩
          have S7:=S6.nl (nl_dk D6 y7)
          walk_at "rq"
          refine ⟨sz (by simp),fun l9 H9 n9 s9 g9=>?_⟩
          walk_at "rq"
          refine ⟨[st,c,r],way,p,d,l9,room,qs,.int v7,x6,.int v7,d6,false,x6,d6,rfl,g9,S7.same s9,hl,r0,r1,.int v7,(wd hx6 y7).ext (Ext.same s9),.inr (.inl ⟨rfl,rfl,rfl,by omega,by simp [Mt.withinD]; omega,hw6⟩),ht6,by omega,fun H10 s10=>?_⟩
          walk_at "rq"
          exact k _ ((D7.same (s9.trans s10)).mono (by omega)) (x1.trans (y4.trans (y45.trans (y6.trans (y7.trans (Ext.same (s9.trans s10)))))))
noncomputable def sp_law_cuts (K:PySem.W.Frag) (a:Adr):Sp:=fun vs H Q _=>∃ (st c r:Addr) (m:Nat) (p d l:Addr) (room:Int) (qs ks:List (Int×Int)),vs = [.ref st,.ref p,.int room,.ref l]∧Dk H st c r m∧m < 100000000∧SlAt a.C_Slots H p d room qs∧qs.length ≤ 60∧1 ≤ room∧room ≤ 400∧MdAt H l ks∧l ∉ [st,c,r]∧Rl qs ks ∧
  ∀ (H':Hp) (qs' ks':List (Int×Int)),Dk H' st c r (m + 6)→SlAt a.C_Slots H' p d room qs'→MdAt H' l ks'→Rl qs' ks'→qs'.length ≤ qs.length→Ext [st,r,d,l] H H'→Q (.bl true) H'
theorem ok_law_cuts (T:Txt P K mg a) (G_Slots_cut_for:FnOk P w K mg base (CX1 P w) 6 a.f_Slots_cut_for a.d_Slots_cut_for ["self","end","applied"] (sp_Slots_cut_for K a)) (G__law_place:FnOk P w K mg base CX0 2 a.f_law_place a.d_law_place ["_law_deck_here"] (sp_law_place K)) (G__law_same:FnOk P w K mg base CX0 3 a.f_law_same a.d_law_same ["_law_found","_law_due"] (sp_law_same K)) (G__law_take:FnOk P w K mg base CX0 1 a.f_law_take a.d_law_take ["_law_deck_here","_law_many"] (sp_law_take K)):FnOk P w K mg base CX0 7 a.f_law_cuts a.d_law_cuts ["_law_deck_here","_law_slots","_law_room_here","_law_model"] (sp_law_cuts K a):=by
  refine T.F_law_cuts.ok sc_law_cuts (fun vs H Q E h=>?_) (fun cdv A outer s H vs Q E hr h=>?_)
  · obtain ⟨st,c,r,m,p,d,l,room,qs,ks,rfl,_⟩:=h; rfl
  · obtain ⟨st,c,r,m,p,d,l,room,qs,ks,rfl,D,hm,S,hl,r0,r1,M,nl,R,k⟩:=h
    have lks:ks.length=qs.length:=(R.perm S.nd).length_eq
    refine exW ⟨_,(qss_cons (qs_set (i:=4) sc_law_cuts.nd rfl (Or.inr rfl) (qe_call G__law_place (hr.mono (by decide)) (by rfl) T.m__law_place T.k__law_place T.bd__law_place .nil pass0 (qa (pv 0 (by rfl) (by walk_at "vis") (by decide) (by decide)) qa_nil (by rfl)) (by decide) (by rfl) (by rfl)) (by rfl) (by first | exact Or.inl rfl | exact Or.inr rfl))
      (qss_cons (qs_set (i:=5) sc_law_cuts.nd rfl (Or.inl rfl) (pe_ix ix_list (qe_lstA (qa (pv 4 (by rfl) (by walk_at "vis") (by decide) (by decide)) (qa (qe_call G__law_take (hr.mono (by decide)) (by rfl) T.m__law_take T.k__law_take T.bd__law_take .nil pass0 (qa (pv 0 (by rfl) (by walk_at "vis") (by decide) (by decide)) (qa (pe_op op_add (pv 4 (by rfl) (by walk_at "vis") (by decide) (by decide)) pe_int) qa_nil (by rfl)) (by rfl)) (by decide) (by rfl) (by rfl)) (qa pe_int qa_nil (by rfl)) (by rfl)) (by rfl))) (qe_call G__law_take (hr.mono (by decide)) (by rfl) T.m__law_take T.k__law_take T.bd__law_take .nil pass0 (qa (pv 0 (by rfl) (by walk_at "vis") (by decide) (by decide)) (qa pe_int qa_nil (by rfl)) (by rfl)) (by decide) (by rfl) (by rfl)) (fun _ _=>rfl)) (by rfl) (by first | exact Or.inl rfl | exact Or.inr rfl))
      (qss_cons (qs_set (i:=6) sc_law_cuts.nd rfl (Or.inl rfl) (qe_callB cn_sort (by rfl) T.b_sorted (by decide +kernel) (qa (by
        refine' pe_comp (NC:=["_law_pair","_law_room_here","_law_end"]) (fr:=[none,some 2,some 4]) ?B6 rfl ?hi6 ?hg6 ?ht6 ?he6 (by intro _; rfl)
        case B6=>exact ⟨rfl,rfl,by decide +kernel,by decide +kernel,rfl,⟨trivial,⟨rfl,rfl,Or.inl rfl⟩,⟨rfl,rfl,Or.inl rfl⟩,trivial⟩⟩
        case hi6=>exact (pi_list (pv 3 (by rfl) (by walk_at "vis") (by decide) (by decide)))
        case hg6=>intro _ _ _; exact (pg_name (i:=0) (show (["_law_pair","_law_room_here","_law_end"]:List Str).Nodup by decide +kernel) rfl (Or.inl rfl) (by first | exact Or.inl rfl | exact Or.inr rfl))
        case ht6=>intro _ _ _; exact (pf_one (pt_cmpR op_lt (pe_op op_add (pe_ix (ix_tupK (K:=K) (by rfl)) (pv 0 (by rfl) (by walk_at "vis") (by decide) (by decide)) pe_int (fun _ _=>rfl)) (pv 1 (by rfl) (by walk_at "vis") (by decide) (by decide))) (pv 2 (by rfl) (by walk_at "vis") (by decide) (by decide)) (nomark _)))
        case he6=>intro _ _ _; exact (pe_ix (ix_tupK (K:=K) (by rfl)) (pv 0 (by rfl) (by walk_at "vis") (by decide) (by decide)) pe_int (fun _ _=>rfl))) qa_nil (by rfl)) (by decide) (by decide) (by rfl) (by rfl)) (by rfl) (by first | exact Or.inl rfl | exact Or.inr rfl))
      (qss_cons (by
        refine' qs_setComp (i:=7) (NC:=["_law_pair","_law_room_here","_law_end"]) (fr:=[none,some 2,some 4]) sc_law_cuts.nd rfl (Or.inl rfl) ?B7 rfl ?hi7 ?hg7 ?ht7 ?he7 ?hsw7 (by intro _; rfl) (by first | exact Or.inl rfl | exact Or.inr rfl)
        case B7=>exact ⟨rfl,rfl,by decide +kernel,by decide +kernel,rfl,⟨trivial,⟨rfl,rfl,Or.inl rfl⟩,⟨rfl,rfl,Or.inl rfl⟩,trivial⟩⟩
        case hi7=>exact (pi_list (pv 3 (by rfl) (by walk_at "vis") (by decide) (by decide)))
        case hg7=>intro _ _ _; exact (pg_name (i:=0) (show (["_law_pair","_law_room_here","_law_end"]:List Str).Nodup by decide +kernel) rfl (Or.inl rfl) (by first | exact Or.inl rfl | exact Or.inr rfl))
        case ht7=>intro _ _ _; exact (pf_one (pt_cmpR op_ge (pe_op op_add (pe_ix (ix_tupK (K:=K) (by rfl)) (pv 0 (by rfl) (by walk_at "vis") (by decide) (by decide)) pe_int (fun _ _=>rfl)) (pv 1 (by rfl) (by walk_at "vis") (by decide) (by decide))) (pv 2 (by rfl) (by walk_at "vis") (by decide) (by decide)) (nomark _)))
        case he7=>intro _ _ _; exact (pv 0 (by rfl) (by walk_at "vis") (by decide) (by decide))
        case hsw7=>rfl)
      (qss_cons (qs_set (i:=8) sc_law_cuts.nd rfl (Or.inl rfl) (qe_tupA (qa (qe_callB (cn_minL (by rfl)) (by rfl) T.b_min (by decide +kernel) (qa (pe_op op_catA (qe_lstA (qa (pv 5 (by rfl) (by walk_at "vis") (by decide) (by decide)) qa_nil (by rfl))) (by
        refine' pe_comp (NC:=["_law_pair"]) (fr:=[none]) ?B8 rfl ?hi8 ?hg8 ?ht8 ?he8 (by intro _; rfl)
        case B8=>exact ⟨rfl,rfl,by decide +kernel,by decide +kernel,rfl,⟨trivial,trivial⟩⟩
        case hi8=>exact (pi_list (pv 7 (by rfl) (by walk_at "vis") (by decide) (by decide)))
        case hg8=>intro _ _ _; exact (pg_name (i:=0) (show (["_law_pair"]:List Str).Nodup by decide +kernel) rfl (Or.inl rfl) (by first | exact Or.inl rfl | exact Or.inr rfl))
        case ht8=>intro _ _ _; exact pf_nil
        case he8=>intro _ _ _; exact (pe_ix (ix_tupK (K:=K) (by rfl)) (pv 0 (by rfl) (by walk_at "vis") (by decide) (by decide)) pe_int (fun _ _=>rfl)))) qa_nil (by rfl)) (by decide) (by decide) (by rfl) (by rfl)) (qa (qe_callTy (cn_tupleA (K:=K) (by rfl)) (by rfl) T.b_tuple (by decide +kernel) (qa (pv 6 (by rfl) (by walk_at "vis") (by decide) (by decide)) qa_nil (by rfl)) (by decide) (by decide) (by rfl) (by rfl)) qa_nil (by rfl)) (by rfl))) (by rfl) (by first | exact Or.inl rfl | exact Or.inr rfl))
      (qss_cons (qs_set (i:=9) sc_law_cuts.nd rfl (Or.inl rfl) (qe_methX (pv 1 (by rfl) (by walk_at "vis") (by decide) (by decide)) T.cl_Slots T.mt_Slots_cut_for G_Slots_cut_for (hr.mono (by decide)) T.bd_Slots_cut_for px0 (qa (pv 4 (by rfl) (by walk_at "vis") (by decide) (by decide)) (qa (pv 5 (by rfl) (by walk_at "vis") (by decide) (by decide)) qa_nil (by rfl)) (by rfl)) (by rfl) (by rfl) (by rfl)) (by rfl) (by first | exact Or.inl rfl | exact Or.inr rfl))
      (qss_cons (qs_expr (qe_clear (pv 3 (by rfl) (by walk_at "vis") (by decide) (by decide)) (by rfl) (by rfl)) (by rfl))
      (qss_cons (qs_expr (qe_extend (pv 3 (by rfl) (by walk_at "vis") (by decide) (by decide)) (qa (pv 7 (by rfl) (by walk_at "vis") (by decide) (by decide)) qa_nil (by rfl)) (by rfl) (by rfl) (by rfl) (by rfl) (by rfl)) (by rfl))
      (qss_one (qs_ret (qe_call G__law_same (hr.mono (by decide)) (by rfl) T.m__law_same T.k__law_same T.bd__law_same .nil pass0 (qa (pv 9 (by rfl) (by walk_at "vis") (by decide) (by decide)) (qa (pv 8 (by rfl) (by walk_at "vis") (by decide) (by decide)) qa_nil (by rfl)) (by rfl)) (by decide) (by rfl) (by rfl)))))))))))),?_⟩
    try dsimp only [cxOf]
    refine rd_seq ?_
    walk_at "rs"
    refine ⟨st,c,r,_,rfl,D,by omega,fun en H1 e0 e1 D1 x1=>?_⟩
    have S1:=S.nl (nl_dk D x1)
    have M1:=M.dk D x1 nl
    walk_at "rs"
    refine rd_seq ?_
    walk_at "rs"
    refine ⟨st,c,r,_,en + 1,rfl,D1,by omega,by omega,by omega,fun v2 H2 a2 b2 D2 x2=>?_⟩
    have S2:=S1.nl (nl_dk D1 x2)
    have M2:=M1.dk D1 x2 nl
    walk_at "rs"
    refine ⟨sz (by simp),fun l3 H3 n3 s3 g3=>?_⟩
    have D3:=D2.same s3
    have d3:l3 ∉ [st,c,r]:=D2.new n3
    walk_at "rs"
    refine ⟨st,c,r,_,3,rfl,D3,by omega,by decide,by decide,fun v4 H4 a4 b4 D4 x4=>?_⟩
    have S4:=(S2.same s3).nl (nl_dk D3 x4)
    have M4:=(M2.same s3).dk D3 x4 nl
    obtain ⟨app,e5,ha⟩:=av3 (x:=en) (y:=v2) (z:=0) a4 b4
    refine rd_ixL (SqL.of (x4 _ _ g3 (nin_pr d3))) e5 ?_
    have x04:Ext [st,r] H H4:=x1.trans (x2.trans ((Ext.same (N:=[st,r]) s3).trans x4))
    have ap0:0 ≤ app:=by omega
    have ap1:app ≤ en:=by omega
    walk_at "rs"
    refine rd_seq ?_
    walk_at "rs"
    obtain ⟨as4,g4,pr4⟩:=id M4
    refine ⟨l,rfl,⟨_,SqL.of g4⟩,?_⟩
    intro ac1 na1 ka1
    refine comp_prI ks (fun q=>decide (q.2 + room < en)) (·.1) (fun σ=>∃ o1,σ = [o1,some (.int room),some (.int en)]) (by omega) na1 ⟨none,rfl⟩ M4 ?_ ?_
    · rintro b q σc H5 R' S' hb sm ⟨o1,rfl⟩ hR hS
      walk_at "rd"
      refine rd_ite2 (fun c2=>?_) (fun c2=>?_)
      · walk_at "rd"
        exact hR c2 _ ⟨_,rfl⟩
      · exact hS c2 _ ⟨_,rfl⟩
    · intro H5 s5 g5
      walk_at "rs"
      have hbl:(brokL room en ks).length ≤ ks.length:=brok_len room en ks
      refine rd_sort (ns:=brokL room en ks) (SqL.of g5) (by omega) fun l6 ns n6 hp hs=>?_
      have s6:Same H5 (upd H5 l6 (.lst (ns.map V.int))):=Same.upd n6
      have g6:upd H5 l6 (.lst (ns.map V.int)) l6=some (.lst (ns.map V.int)):=upd_same
      generalize upd H5 l6 (.lst (ns.map V.int))=H6 at s6 g6 ⊢
      have M6:=M4.same (s5.trans s6)
      walk_at "rs"
      refine rd_seq ?_
      walk_at "rs"
      obtain ⟨as6,g66,pr6⟩:=id M6
      refine ⟨l,rfl,⟨_,SqL.of g66⟩,?_⟩
      intro ac2 na2 ka2
      refine comp_prT ks (fun q=>decide (q.2 + room ≥ en)) (fun σ=>∃ o1,σ = [o1,some (.int room),some (.int en)]) (by omega) na2 ⟨none,rfl⟩ M6 ?_ ?_
      · rintro b q σc H7 R' S' hb sm ⟨o1,rfl⟩ hR hS
        walk_at "rd"
        refine rd_ite2 (fun c2=>?_) (fun c2=>?_)
        · walk_at "rd"
          exact hR c2 _ ⟨_,rfl⟩
        · exact hS c2 _ ⟨_,rfl⟩
      · intro H7 s7 M7
        have nal:ac2 ≠ l:=fun z=>by rw [z,g66] at na2; cases na2
        walk_at "rs"
        refine rd_seq ?_
        walk_at "rs"
        refine ⟨sz (by simp),fun l8 H8 n8 s8 g8=>?_⟩
        have M8:=M7.same s8
        obtain ⟨bs8,g88,pr8⟩:=id M8
        walk_at "rs"
        refine ⟨ac2,rfl,⟨_,SqL.of g88⟩,?_⟩
        intro ac3 na3 ka3
        refine comp_prI (ks.filter fun q=>decide (q.2 + room ≥ en)) (fun _=>true) (·.2) (fun σ=>∃ o1,σ = [o1]) (by have:=List.length_filter_le (fun q:Int×Int=>decide (q.2 + room ≥ en)) ks; omega) na3 ⟨none,rfl⟩ M8 ?_ ?_
        · rintro b q σc H9 R' S' hb sm ⟨o1,rfl⟩ hR hS
          walk_at "rd"
          simp only [tYes,if_true]
          walk_at "rd"
          exact hR rfl _ ⟨_,rfl⟩
        · intro H9 s9 g9
          have eL:((ks.filter fun q=>decide (q.2 + room ≥ en)).filter fun _=>true).map (·.2)=leftL room en ks:=by
            rw [List.filter_eq_self.mpr (fun _ _=>rfl)]; rfl
          rw [eL] at g9
          have hll:=left_len room en ks
          refine rd_catA (s9 _ _ g8) g9 (sz (by simp only [List.length_map,List.length_cons,List.length_nil]; omega)) fun l10 H10 n10 s10 g10=>?_
          have eg:[V.int app] ++ (leftL room en ks).map V.int=([app] ++ leftL room en ks).map V.int:=by rw [List.map_append]; rfl
          rw [eg] at g10
          walk_at "rs"
          refine rd_minL (SqL.of g10) (by simp) fun mm h1 h2=>?_
          have s610:=s7.trans (s8.trans (s9.trans s10))
          walk_at "rs"
          refine rd_tupleAL (SqL.of (s610 _ _ g6)) fun t11 H11 _ s11 q11=>?_
          walk_at "rs"
          refine ⟨sz (by simp),fun t12 H12 n12 s12 g12=>?_⟩
          have hcut:IsCut room en app ks mm ns:=by
            have sw:∀ x,x ∈ leftL room en ks ++ [app]↔x ∈ [app] ++ leftL room en ks:=fun x=>by rw [List.mem_append,List.mem_append,or_comm]
            exact ⟨(sw _).mpr h1,fun a ha=>h2 a ((sw _).mp ha),hp,hs⟩
          have hcq:=hcut.ofPerm (R.perm S.nd)
          have s612:=s610.trans (s11.trans s12)
          have s412:=s5.trans (s6.trans s612)
          have S12:=S4.same s412
          obtain ⟨⟨dx12,h12⟩,hd12,_⟩:=id S12
          walk_at "rs"
          refine rd_seq ?_
          walk_at "rs"
          refine ⟨p,_,_,rfl,h12,slF_no _ _ (by decide +kernel) (by decide +kernel),?_⟩
          walk_at "rs"
          refine ⟨[],p,d,room,qs,.int en,.int app,.int en,.int app,rfl,S12,hl,r0,r1,.int en,.int app,.inr (.inr ⟨en,app,rfl,rfl,e0,e1,ap0,ap1,fun m2 ns2 t13 q13 H13 hc13 S13 x13 hq13 ht13=>?_⟩)⟩
          obtain ⟨rfl,rfl⟩:=hc13.uniq hcq (List.Perm.refl _)
          have D13:=(D4.same s412).dictK x13 hd12
          have M13:=(M8.same (s9.trans (s10.trans (s11.trans s12)))).dict x13 hd12
          have hl13:H13 l=some (.lst (as4.map V.ref)):=x13 _ _ (s412 _ _ g4) (by simpa using ne_of (s412 _ _ g4) hd12 (by intro z; cases z))
          have q11':SqT K H13 t11 (ns2.map V.int):=(s12.tupS q11).extD hd12 x13
          have g12':SqT K H13 t12 [.int m2,.ref t11]:=(SqT.of g12).extD hd12 x13
          obtain ⟨bs13,g13,pr13⟩:=id M13
          walk_at "rs"
          refine rd_seq ?_
          walk_at "rs"
          refine ⟨.inl ⟨rfl,_,SqL.of hl13⟩,l,_,rfl,rfl,hl13,?_⟩
          walk_at "rs"
          refine rd_seq ?_
          walk_at "rs"
          have nl14:NL H13 (upd H13 l (.lst [])):=nl_upd hl13
          have g14:upd H13 l (.lst []) l=some (.lst []):=upd_same
          have ga14:upd H13 l (.lst []) ac2=some (.lst (bs13.map V.ref)):=by rw [upd_ne nal]; exact g13
          have lbs:bs13.length ≤ ks.length:=by rw [pr13.len]; exact List.length_filter_le _ _
          refine ⟨.inl ⟨rfl,_,SqL.of g14⟩,?_⟩
          walk_at "rs"
          refine ⟨l,ac2,[],_,rfl,rfl,g14,ga14,sz (by simp; omega),?_⟩
          rw [List.nil_append]
          have nl15:NL (upd H13 l (.lst [])) (upd (upd H13 l (.lst [])) l (.lst (bs13.map V.ref))):=nl_upd g14
          have nl1315:=nl14.trans nl15
          have g15:upd (upd H13 l (.lst [])) l (.lst (bs13.map V.ref)) l=some (.lst (bs13.map V.ref)):=upd_same
          have x15:Ext [l] H13 (upd (upd H13 l (.lst [])) l (.lst (bs13.map V.ref))):=(Ext.at (by simp)).trans (Ext.at (by simp))
          have D15:Dk (upd (upd H13 l (.lst [])) l (.lst (bs13.map V.ref))) st c r _:=(D13.upd nl).upd nl
          generalize upd (upd H13 l (.lst [])) l (.lst (bs13.map V.ref))=H15 at nl1315 g15 x15 D15 ⊢
          walk_at "rs"
          have kt:∀ {b:Addr}{ys:List V},SqT K H13 b ys→SqT K H15 b ys:=fun h=>h.nl nl1315
          refine ⟨[],.ref t13,.ref t12,slotD m2 ns2,rfl,cut_dt (kt hq13) (kt ht13),cut_dt (kt q11') (kt g12'),.inl (cut_tupB _ _),cut_depth _ _,fun H16 s16=>?_⟩
          walk_at "rs"
          refine k H16 (keptL room en qs) (keptL room en ks) ((D15.same s16).mono (by omega)) ((S13.nl nl1315).same s16) ((show MdAt H15 l _ from ⟨_,g15,pr13.tk (TK.nl nl1315)⟩).same s16) (R.kept S.nd room en) (kept_len _ _ _) ?_
          exact (x04.sub (by simp +contextual)).trans ((Ext.same s412).trans ((x13.sub (by simp)).trans ((x15.sub (by simp)).trans (Ext.same s16))))
noncomputable def sp_law_put (K:PySem.W.Frag) (a:Adr):Sp:=fun vs H Q _=>∃ (st c r:Addr) (m:Nat) (p d l:Addr) (way room:Int) (qs ks:List (Int×Int)),vs = [.ref st,.ref p,.ref l,.int way]∧Dk H st c r m∧m < 100000000∧SlAt a.C_Slots H p d room qs∧qs.length ≤ 60∧MdAt H l ks∧l ∉ [st,c,r]∧Rl qs ks ∧
  ∀ (H':Hp) (qs' ks':List (Int×Int)),Dk H' st c r (m + 5)→SlAt a.C_Slots H' p d room qs'→MdAt H' l ks'→Rl qs' ks'→qs'.length ≤ qs.length + 1→Ext [st,r,d,l] H H'→Q (.bl true) H'
theorem ok_law_put (T:Txt P K mg a) (G_Slots_anew:FnOk P w K mg base (CX1 P w) 5 a.f_Slots_anew a.d_Slots_anew ["self","house","place"] (sp_Slots_anew K a)) (G_Slots_hold:FnOk P w K mg base (CX1 P w) 5 a.f_Slots_hold a.d_Slots_hold ["self","house","place"] (sp_Slots_hold K a)) (G__law_place:FnOk P w K mg base CX0 2 a.f_law_place a.d_law_place ["_law_deck_here"] (sp_law_place K)) (G__law_take:FnOk P w K mg base CX0 1 a.f_law_take a.d_law_take ["_law_deck_here","_law_many"] (sp_law_take K)):FnOk P w K mg base CX0 6 a.f_law_put a.d_law_put ["_law_deck_here","_law_slots","_law_model","_law_way"] (sp_law_put K a):=by
  refine T.F_law_put.ok sc_law_put (fun vs H Q E h=>?_) (fun cdv A outer s H vs Q E hr h=>?_)
  · obtain ⟨st,c,r,m,p,d,l,way,room,qs,ks,rfl,_⟩:=h; rfl
  · obtain ⟨st,c,r,m,p,d,l,way,room,qs,ks,rfl,D,hm,S,hl,M,nl,R,k⟩:=h
    have lks:ks.length=qs.length:=(R.perm S.nd).length_eq
    refine exW ⟨_,(qss_cons (qs_set (i:=4) sc_law_put.nd rfl (Or.inr rfl) (qe_call G__law_take (hr.mono (by decide)) (by rfl) T.m__law_take T.k__law_take T.bd__law_take .nil pass0 (qa (pv 0 (by rfl) (by walk_at "vis") (by decide) (by decide)) (qa pe_int qa_nil (by rfl)) (by rfl)) (by decide) (by rfl) (by rfl)) (by rfl) (by first | exact Or.inl rfl | exact Or.inr rfl))
      (qss_cons (qs_set (i:=5) sc_law_put.nd rfl (Or.inl rfl) (qe_call G__law_place (hr.mono (by decide)) (by rfl) T.m__law_place T.k__law_place T.bd__law_place .nil pass0 (qa (pv 0 (by rfl) (by walk_at "vis") (by decide) (by decide)) qa_nil (by rfl)) (by decide) (by rfl) (by rfl)) (by rfl) (by first | exact Or.inl rfl | exact Or.inr rfl))
      (qss_cons (qs_if (pt_cmpR op_eq (pv 3 (by rfl) (by walk_at "vis") (by decide) (by decide)) pe_int (nomark _))
        (qss_one (qs_expr (qe_methX (pv 1 (by rfl) (by walk_at "vis") (by decide) (by decide)) T.cl_Slots T.mt_Slots_hold G_Slots_hold (hr.mono (by decide)) T.bd_Slots_hold px0 (qa (pv 4 (by rfl) (by walk_at "vis") (by decide) (by decide)) (qa (pv 5 (by rfl) (by walk_at "vis") (by decide) (by decide)) qa_nil (by rfl)) (by rfl)) (by rfl) (by rfl) (by rfl)) (by rfl)))
        (qss_one (qs_expr (qe_methX (pv 1 (by rfl) (by walk_at "vis") (by decide) (by decide)) T.cl_Slots T.mt_Slots_anew G_Slots_anew (hr.mono (by decide)) T.bd_Slots_anew px0 (qa (pv 4 (by rfl) (by walk_at "vis") (by decide) (by decide)) (qa (pv 5 (by rfl) (by walk_at "vis") (by decide) (by decide)) qa_nil (by rfl)) (by rfl)) (by rfl) (by rfl) (by rfl)) (by rfl))))
      (qss_cons (by
        refine' qs_setComp (i:=6) (NC:=["_law_pair","_law_one"]) (fr:=[none,some 4]) sc_law_put.nd rfl (Or.inl rfl) ?B9 rfl ?hi9 ?hg9 ?ht9 ?he9 ?hsw9 (by intro _; rfl) (by first | exact Or.inl rfl | exact Or.inr rfl)
        case B9=>exact ⟨rfl,rfl,by decide +kernel,by decide +kernel,rfl,⟨trivial,⟨rfl,rfl,Or.inl rfl⟩,trivial⟩⟩
        case hi9=>exact (pi_list (pv 2 (by rfl) (by walk_at "vis") (by decide) (by decide)))
        case hg9=>intro _ _ _; exact (pg_name (i:=0) (show (["_law_pair","_law_one"]:List Str).Nodup by decide +kernel) rfl (Or.inl rfl) (by first | exact Or.inl rfl | exact Or.inr rfl))
        case ht9=>intro _ _ _; exact (pf_one (pt_cmpR op_eq (pe_ix (ix_tupK (K:=K) (by rfl)) (pv 0 (by rfl) (by walk_at "vis") (by decide) (by decide)) pe_int (fun _ _=>rfl)) (pv 1 (by rfl) (by walk_at "vis") (by decide) (by decide)) (nomark _)))
        case he9=>intro _ _ _; exact (pe_ix (ix_tupK (K:=K) (by rfl)) (pv 0 (by rfl) (by walk_at "vis") (by decide) (by decide)) pe_int (fun _ _=>rfl))
        case hsw9=>rfl)
      (qss_cons (qs_if (pt_cmpR op_eq (pv 3 (by rfl) (by walk_at "vis") (by decide) (by decide)) pe_int (nomark _))
        (qss_one (qs_set (i:=5) sc_law_put.nd rfl (Or.inl rfl) (qe_callB (cn_maxL (by rfl)) (by rfl) T.b_max (by decide +kernel) (qa (pe_op op_catA (qe_lstA (qa (pv 5 (by rfl) (by walk_at "vis") (by decide) (by decide)) qa_nil (by rfl))) (pv 6 (by rfl) (by walk_at "vis") (by decide) (by decide))) qa_nil (by rfl)) (by decide) (by decide) (by rfl) (by rfl)) (by rfl) (by first | exact Or.inl rfl | exact Or.inr rfl)))
        qss_nil)
      (qss_cons (by
        refine' qs_setComp (i:=7) (NC:=["_law_pair","_law_one"]) (fr:=[none,some 4]) sc_law_put.nd rfl (Or.inl rfl) ?B10 rfl ?hi10 ?hg10 ?ht10 ?he10 ?hsw10 (by intro _; rfl) (by first | exact Or.inl rfl | exact Or.inr rfl)
        case B10=>exact ⟨rfl,rfl,by decide +kernel,by decide +kernel,rfl,⟨trivial,⟨rfl,rfl,Or.inl rfl⟩,trivial⟩⟩
        case hi10=>exact (pi_list (pv 2 (by rfl) (by walk_at "vis") (by decide) (by decide)))
        case hg10=>intro _ _ _; exact (pg_name (i:=0) (show (["_law_pair","_law_one"]:List Str).Nodup by decide +kernel) rfl (Or.inl rfl) (by first | exact Or.inl rfl | exact Or.inr rfl))
        case ht10=>intro _ _ _; exact (pf_one (pt_cmpR op_ne (pe_ix (ix_tupK (K:=K) (by rfl)) (pv 0 (by rfl) (by walk_at "vis") (by decide) (by decide)) pe_int (fun _ _=>rfl)) (pv 1 (by rfl) (by walk_at "vis") (by decide) (by decide)) (nomark _)))
        case he10=>intro _ _ _; exact (pv 0 (by rfl) (by walk_at "vis") (by decide) (by decide))
        case hsw10=>rfl)
      (qss_cons (qs_expr (qe_clear (pv 2 (by rfl) (by walk_at "vis") (by decide) (by decide)) (by rfl) (by rfl)) (by rfl))
      (qss_cons (qs_expr (qe_extend (pv 2 (by rfl) (by walk_at "vis") (by decide) (by decide)) (qa (pe_op op_catA (pv 7 (by rfl) (by walk_at "vis") (by decide) (by decide)) (qe_lstA (qa (qe_tupA (qa (pv 4 (by rfl) (by walk_at "vis") (by decide) (by decide)) (qa (pv 5 (by rfl) (by walk_at "vis") (by decide) (by decide)) qa_nil (by rfl)) (by rfl))) qa_nil (by rfl)))) qa_nil (by rfl)) (by rfl) (by rfl) (by rfl) (by rfl) (by rfl)) (by rfl))
      (qss_one (qs_ret pe_bl)))))))))),?_⟩
    try dsimp only [cxOf]
    refine rd_seq ?_
    walk_at "rs"
    refine ⟨st,c,r,_,8,rfl,D,by omega,by decide,by decide,fun one H1 a1 b1 D1 x1=>?_⟩
    have S1:=S.nl (nl_dk D x1)
    have M1:=M.dk D x1 nl
    walk_at "rs"
    refine rd_seq ?_
    walk_at "rs"
    refine ⟨st,c,r,_,rfl,D1,by omega,fun pl H2 p0 p1 D2 x2=>?_⟩
    have S2:=S1.nl (nl_dk D1 x2)
    have M2:=M1.dk D1 x2 nl
    have x12:=x1.trans x2
    walk_at "rs"
    refine rd_seqK (fun σ' H'=>∃ qs':List (Int×Int),σ' = [some (.ref st),some (.ref p),some (.ref l),some (.int way),some (.int one),some (.int pl),none,none]∧SlAt a.C_Slots H' p d room qs'∧(∀ j,lookI qs' j=if j=one then some (if way=0 then mx pl ((lookI qs one).getD 0) else pl) else lookI qs j)∧qs'.length ≤ qs.length + 1∧Ext [d] H2 H') ?_ ?_
    · rintro σ' H3 ⟨qs',rfl,S3,look,hl3,x3⟩
      have D3:=D2.dictK x3 S2.dc
      have M3:=M2.dict x3 S2.dc
      refine rd_seq ?_
      walk_at "rs"
      obtain ⟨as,g3,pr3⟩:=id M3
      refine ⟨l,rfl,⟨_,SqL.of g3⟩,?_⟩
      intro ac1 na1 ka1
      refine comp_prI ks (fun q=>decide (q.1=one)) (·.2) (fun σ=>∃ o1,σ = [o1,some (.int one)]) (by omega) na1 ⟨none,rfl⟩ M3 ?_ ?_
      · rintro b q σc H4 R' S' hb sm ⟨o1,rfl⟩ hR hS
        walk_at "rd"
        have e1:decide (V.int q.1=V.int one)=decide (q.1=one):=by simp
        rw [e1]
        refine rd_ite2 (fun c2=>?_) (fun c2=>?_)
        · walk_at "rd"
          exact hR c2 _ ⟨_,rfl⟩
        · exact hS c2 _ ⟨_,rfl⟩
      · intro H4 s4 g4
        walk_at "rs"
        refine rd_seqK (fun σ' H'=>∃ ok:Option V,σ' = [some (.ref st),some (.ref p),some (.ref l),some (.int way),some (.int one),some (.int (if way=0 then mx pl ((lookI qs one).getD 0) else pl)),ok,none]∧Same H4 H') ?_ ?_
        · rintro σ' H5 ⟨ok,rfl,s5⟩
          have hnv:0 ≤ (if way=0 then mx pl ((lookI qs one).getD 0) else pl)∧(if way=0 then mx pl ((lookI qs one).getD 0) else pl) ≤ 1000000:=by
            split
            · exact R.mx one p0 p1
            · exact ⟨p0,p1⟩
          generalize (if way=0 then mx pl ((lookI qs one).getD 0) else pl)=nv at look hnv ⊢
          have M5:=M3.same (s4.trans s5)
          obtain ⟨as5,g5,pr5⟩:=id M5
          refine rd_seq ?_
          walk_at "rs"
          refine ⟨l,rfl,⟨_,SqL.of g5⟩,?_⟩
          intro ac2 na2 ka2
          refine comp_prT ks (fun q=>decide (q.1 ≠ one)) (fun σ=>∃ o1,σ = [o1,some (.int one)]) (by omega) na2 ⟨none,rfl⟩ M5 ?_ ?_
          · rintro b q σc H6 R' S' hb sm ⟨o1,rfl⟩ hR hS
            walk_at "rd"
            have e2:(!decide (V.int q.1=V.int one))=decide (q.1 ≠ one):=by simp
            rw [e2]
            refine rd_ite2 (fun c2=>?_) (fun c2=>?_)
            · walk_at "rd"
              exact hR c2 _ ⟨_,rfl⟩
            · exact hS c2 _ ⟨_,rfl⟩
          · intro H6 s6 M6
            have hl6:=s6 _ _ g5
            have nal:ac2 ≠ l:=fun z=>by rw [z,g5] at na2; cases na2
            obtain ⟨bs,g6,pr6⟩:=M6
            walk_at "rs"
            refine rd_seq ?_
            walk_at "rs"
            refine ⟨.inl ⟨rfl,_,SqL.of hl6⟩,l,_,rfl,rfl,hl6,?_⟩
            walk_at "rs"
            refine rd_seq ?_
            walk_at "rs"
            have g7:upd H6 l (.lst []) l=some (.lst []):=upd_same
            have g67:upd H6 l (.lst []) ac2=some (.lst (bs.map V.ref)):=by rw [upd_ne nal]; exact g6
            have nl7:NL H6 (upd H6 l (.lst [])):=nl_upd hl6
            have x7:Ext [l] H6 (upd H6 l (.lst [])):=Ext.at (by simp)
            have D7:Dk (upd H6 l (.lst [])) st c r (m + 5):=(((D3.same (s4.trans (s5.trans s6))).mono (by omega)).upd nl)
            generalize upd H6 l (.lst [])=H7 at g7 g67 nl7 x7 D7 ⊢
            refine ⟨.inl ⟨rfl,_,SqL.of g7⟩,?_⟩
            walk_at "rs"
            refine ⟨sz (by simp),fun t8 H8 n8 s8 g8=>?_⟩
            walk_at "rs"
            refine ⟨sz (by simp),fun l9 H9 n9 s9 g9=>?_⟩
            have lbs:bs.length ≤ ks.length:=by rw [pr6.len]; exact List.length_filter_le _ _
            refine rd_catA ((s8.trans s9) _ _ g67) g9 (sz (by simp; omega)) fun l10 H10 n10 s10 g10=>?_
            have s710:=s8.trans (s9.trans s10)
            walk_at "rs"
            have g10':H10 l10=some (.lst ((bs ++ [t8]).map V.ref)):=by rw [g10,List.map_append]; rfl
            refine ⟨l,l10,[],_,rfl,rfl,s710 _ _ g7,g10',sz (by simp; omega),?_⟩
            walk_at "rs"
            rw [List.nil_append]
            have pr10:PrL H10 (bs ++ [t8]) (ks.filter (fun q=>decide (q.1 ≠ one)) ++ [(one,nv)]):=PrL.snoc (k:=(one,nv)) ((s9.trans s10) _ _ g8) (pr6.tk ((TK.nl nl7).trans (TK.same s710)))
            have hl10:H10 l=some (.lst []):=s710 _ _ g7
            have nlz:NL H10 (upd H10 l (.lst ((bs ++ [t8]).map V.ref))):=nl_upd hl10
            have nlall:NL H3 (upd H10 l (.lst ((bs ++ [t8]).map V.ref))):=(NL.same (s4.trans (s5.trans s6))).trans (nl7.trans ((NL.same s710).trans nlz))
            have xx:Ext [l] H3 (upd H10 l (.lst ((bs ++ [t8]).map V.ref))):=(Ext.same (s4.trans (s5.trans s6))).trans (x7.trans ((Ext.same s710).trans (Ext.at (by simp))))
            refine k _ qs' _ ((D7.same s710).upd nl) (S3.nl nlall) ⟨_,upd_same,pr10.tk (TK.nl nlz)⟩ (R.put a1 (by omega) hnv.1 hnv.2 look) hl3 ((x12.sub (by simp +contextual)).trans ((x3.sub (by simp)).trans (xx.sub (by simp))))
        · intro hrest
          walk_at "rs"
          refine rd_ite2 (fun hc=>?_) (fun hc=>?_)
          · have hw:way=0:=by simpa using of_decide_eq_true hc
            walk_at "rs"
            refine ⟨sz (by simp),fun l5 H5 n5 s5 g5=>?_⟩
            have hlk:((ks.filter fun q=>decide (q.1=one)).map (·.2)).length ≤ ks.length:=by rw [List.length_map]; exact List.length_filter_le _ _
            walk_at "rs"
            refine rd_catA g5 (s5 _ _ g4) (sz (by simp only [List.length_map,List.length_cons,List.length_nil] at hlk ⊢; omega)) fun l6 H6 n6 s6 g6=>?_
            have eg:[V.int pl] ++ ((ks.filter fun q=>decide (q.1=one)).map (·.2)).map V.int=([pl] ++ (ks.filter fun q=>decide (q.1=one)).map (·.2)).map V.int:=by rw [List.map_append]; rfl
            rw [eg] at g6
            walk_at "rs"
            refine rd_maxL (SqL.of g6) (by simp) fun mm h1 h2=>?_
            have em:=known_max R.nd p0 h1 h2
            rw [R.lk] at em
            refine rd_name ?_
            refine hrest _ _ ⟨some (.ref ac1),?_,s5.trans s6⟩
            rw [em,if_pos hw]
            rfl
          · have hw:¬ way=0:=by simpa using of_decide_eq_false hc
            refine rd_next ?_
            refine hrest _ _ ⟨some (.ref ac1),?_,Same.refl _⟩
            rw [if_neg hw]
            rfl
    · intro hrest
      obtain ⟨⟨dx2,h2⟩,_,_⟩:=id S2
      walk_at "rs"
      refine rd_ite2 (fun hc=>?_) (fun hc=>?_)
      · have hw:way=0:=by simpa using of_decide_eq_true hc
        walk_at "rs"
        refine ⟨p,_,_,rfl,h2,slF_no _ _ (by decide +kernel) (by decide +kernel),?_⟩
        walk_at "rs"
        refine ⟨[],p,d,room,qs,.int one,.int pl,.int one,.int pl,rfl,S2,by omega,.int one,.int pl,.inr (.inr ⟨one,pl,rfl,rfl,by omega,by omega,p0,p1,fun qs' H' S' h1 h2 x'=>?_⟩)⟩
        refine hrest _ _ ⟨qs',rfl,S',fun j=>?_,h2,x'⟩
        rw [h1,if_pos hw]
      · have hw:¬ way=0:=by simpa using of_decide_eq_false hc
        walk_at "rs"
        refine ⟨p,_,_,rfl,h2,slF_no _ _ (by decide +kernel) (by decide +kernel),?_⟩
        walk_at "rs"
        refine ⟨[],p,d,room,qs,.int one,.int pl,.int one,.int pl,rfl,S2,by omega,.int one,.int pl,.inr (.inr ⟨one,pl,rfl,rfl,by omega,by omega,p0,p1,fun qs' H' S' h1 h2 x'=>?_⟩)⟩
        refine hrest _ _ ⟨qs',rfl,S',fun j=>?_,h2,x'⟩
        rw [h1,if_neg hw]
noncomputable def sp_law_deed (K:PySem.W.Frag) (a:Adr):Sp:=fun vs H Q _=>∃ (st c r:Addr) (m:Nat) (p d l:Addr) (room:Int) (qs ks:List (Int×Int)),vs = [.ref st,.ref p,.int room,.ref l]∧Dk H st c r m∧m < 90000000∧SlAt a.C_Slots H p d room qs∧qs.length ≤ 60∧1 ≤ room∧room ≤ 400∧MdAt H l ks∧l ∉ [st,c,r]∧Rl qs ks ∧
  ∀ (H':Hp) (qs' ks':List (Int×Int)),Dk H' st c r (m + 31)→SlAt a.C_Slots H' p d room qs'→MdAt H' l ks'→Rl qs' ks'→qs'.length ≤ qs.length + 1→Ext [st,r,d,l] H H'→Q (.bl true) H'
theorem ok_law_deed (T:Txt P K mg a) (G_Slots_free:FnOk P w K mg base (CX1 P w) 5 a.f_Slots_free a.d_Slots_free ["self","house"] (sp_Slots_free K a)) (G__law_cuts:FnOk P w K mg base CX0 7 a.f_law_cuts a.d_law_cuts ["_law_deck_here","_law_slots","_law_room_here","_law_model"] (sp_law_cuts K a)) (G__law_put:FnOk P w K mg base CX0 6 a.f_law_put a.d_law_put ["_law_deck_here","_law_slots","_law_model","_law_way"] (sp_law_put K a)) (G__law_take:FnOk P w K mg base CX0 1 a.f_law_take a.d_law_take ["_law_deck_here","_law_many"] (sp_law_take K)) (G__law_wrong:FnOk P w K mg base CX0 9 a.f_law_wrong a.d_law_wrong ["_law_deck_here","_law_slots"] (sp_law_wrong K a)):FnOk P w K mg base CX0 10 a.f_law_deed a.d_law_deed ["_law_deck_here","_law_slots","_law_room_here","_law_model"] (sp_law_deed K a):=by
  refine T.F_law_deed.ok sc_law_deed (fun vs H Q E h=>?_) (fun cdv A outer s H vs Q E hr h=>?_)
  · obtain ⟨st,c,r,m,p,d,l,room,qs,ks,rfl,_⟩:=h; rfl
  · obtain ⟨st,c,r,m,p,d,l,room,qs,ks,rfl,D,hm,S,hl,r0,r1,M,nl,R,k⟩:=h
    have lks:ks.length=qs.length:=(R.perm S.nd).length_eq
    refine exW ⟨_,(qss_cons (qs_set (i:=4) sc_law_deed.nd rfl (Or.inl rfl) (qe_call G__law_take (hr.mono (by decide)) (by rfl) T.m__law_take T.k__law_take T.bd__law_take .nil pass0 (qa (pv 0 (by rfl) (by walk_at "vis") (by decide) (by decide)) (qa pe_int qa_nil (by rfl)) (by rfl)) (by decide) (by rfl) (by rfl)) (by rfl) (by first | exact Or.inl rfl | exact Or.inr rfl))
      (qss_cons (qs_if (pt_cmpR op_lt (pv 4 (by rfl) (by walk_at "vis") (by decide) (by decide)) pe_int (nomark _))
        (qss_one (qs_ret (qe_call G__law_put (hr.mono (by decide)) (by rfl) T.m__law_put T.k__law_put T.bd__law_put .nil pass0 (qa (pv 0 (by rfl) (by walk_at "vis") (by decide) (by decide)) (qa (pv 1 (by rfl) (by walk_at "vis") (by decide) (by decide)) (qa (pv 3 (by rfl) (by walk_at "vis") (by decide) (by decide)) (qa (pe_op op_mod (pv 4 (by rfl) (by walk_at "vis") (by decide) (by decide)) pe_int) qa_nil (by rfl)) (by rfl)) (by rfl)) (by rfl)) (by decide) (by rfl) (by rfl))))
        qss_nil)
      (qss_cons (qs_if (pt_cmpR op_eq (pv 4 (by rfl) (by walk_at "vis") (by decide) (by decide)) pe_int (nomark _))
        (qss_cons (qs_set (i:=5) sc_law_deed.nd rfl (Or.inr rfl) (qe_call G__law_take (hr.mono (by decide)) (by rfl) T.m__law_take T.k__law_take T.bd__law_take .nil pass0 (qa (pv 0 (by rfl) (by walk_at "vis") (by decide) (by decide)) (qa pe_int qa_nil (by rfl)) (by rfl)) (by decide) (by rfl) (by rfl)) (by rfl) (by first | exact Or.inl rfl | exact Or.inr rfl))
        (qss_cons (by
        refine' qs_setComp (i:=6) (NC:=["_law_pair","_law_one"]) (fr:=[none,some 5]) sc_law_deed.nd rfl (Or.inl rfl) ?B11 rfl ?hi11 ?hg11 ?ht11 ?he11 ?hsw11 (by intro _; rfl) (by first | exact Or.inl rfl | exact Or.inr rfl)
        case B11=>exact ⟨rfl,rfl,by decide +kernel,by decide +kernel,rfl,⟨trivial,⟨rfl,rfl,Or.inl rfl⟩,trivial⟩⟩
        case hi11=>exact (pi_list (pv 3 (by rfl) (by walk_at "vis") (by decide) (by decide)))
        case hg11=>intro _ _ _; exact (pg_name (i:=0) (show (["_law_pair","_law_one"]:List Str).Nodup by decide +kernel) rfl (Or.inl rfl) (by first | exact Or.inl rfl | exact Or.inr rfl))
        case ht11=>intro _ _ _; exact (pf_one (pt_cmpR op_ne (pe_ix (ix_tupK (K:=K) (by rfl)) (pv 0 (by rfl) (by walk_at "vis") (by decide) (by decide)) pe_int (fun _ _=>rfl)) (pv 1 (by rfl) (by walk_at "vis") (by decide) (by decide)) (nomark _)))
        case he11=>intro _ _ _; exact (pv 0 (by rfl) (by walk_at "vis") (by decide) (by decide))
        case hsw11=>rfl)
        (qss_cons (qs_expr (qe_clear (pv 3 (by rfl) (by walk_at "vis") (by decide) (by decide)) (by rfl) (by rfl)) (by rfl))
        (qss_cons (qs_expr (qe_extend (pv 3 (by rfl) (by walk_at "vis") (by decide) (by decide)) (qa (pv 6 (by rfl) (by walk_at "vis") (by decide) (by decide)) qa_nil (by rfl)) (by rfl) (by rfl) (by rfl) (by rfl) (by rfl)) (by rfl))
        (qss_one (qs_ret (pe_cmpR on_isN (qe_methX (pv 1 (by rfl) (by walk_at "vis") (by decide) (by decide)) T.cl_Slots T.mt_Slots_free G_Slots_free (hr.mono (by decide)) T.bd_Slots_free px0 (qa (pv 5 (by rfl) (by walk_at "vis") (by decide) (by decide)) qa_nil (by rfl)) (by rfl) (by rfl) (by rfl)) pe_non (nomark _))))))))
        qss_nil)
      (qss_cons (qs_if (pt_cmpR op_lt (pv 4 (by rfl) (by walk_at "vis") (by decide) (by decide)) pe_int (nomark _))
        (qss_one (qs_ret (qe_call G__law_cuts (hr.mono (by decide)) (by rfl) T.m__law_cuts T.k__law_cuts T.bd__law_cuts .nil pass0 (qa (pv 0 (by rfl) (by walk_at "vis") (by decide) (by decide)) (qa (pv 1 (by rfl) (by walk_at "vis") (by decide) (by decide)) (qa (pv 2 (by rfl) (by walk_at "vis") (by decide) (by decide)) (qa (pv 3 (by rfl) (by walk_at "vis") (by decide) (by decide)) qa_nil (by rfl)) (by rfl)) (by rfl)) (by rfl)) (by decide) (by rfl) (by rfl))))
        qss_nil)
      (qss_one (qs_ret (qe_call G__law_wrong (hr.mono (by decide)) (by rfl) T.m__law_wrong T.k__law_wrong T.bd__law_wrong .nil pass0 (qa (pv 0 (by rfl) (by walk_at "vis") (by decide) (by decide)) (qa (pv 1 (by rfl) (by walk_at "vis") (by decide) (by decide)) qa_nil (by rfl)) (by rfl)) (by decide) (by rfl) (by rfl)))))))),?_⟩
    try dsimp only [cxOf]
    walk_at "rq"
    refine ⟨st,c,r,_,9,rfl,D,by omega,by decide,by decide,fun way H1 a1 b1 D1 x1=>?_⟩
    have S1:=S.nl (nl_dk D x1)
    have M1:=M.dk D x1 nl
    have x1w:Ext [st,r,d,l] H H1:=x1.sub (by simp +contextual)
    walk_at "rq"
    refine rd_ite2 (fun hc=>?_) (fun hc=>?_)
    · walk_at "rq"
      refine ⟨st,c,r,_,p,d,l,_,room,qs,ks,rfl,D1,by omega,S1,hl,M1,nl,R,fun H2 qs' ks' D2 S2 M2 R2 h2 x2=>?_⟩
      walk_at "rq"
      exact k H2 qs' ks' (D2.mono (by omega)) S2 M2 R2 h2 (x1w.trans x2)
    · walk_at "rq"
      refine rd_ite2 (fun hc2=>?_) (fun hc2=>?_)
      · walk_at "rq"
        refine ⟨st,c,r,_,8,rfl,D1,by omega,by decide,by decide,fun one H2 a2 b2 D2 x2=>?_⟩
        have S2:=S1.nl (nl_dk D1 x2)
        have M2:=M1.dk D1 x2 nl
        walk_at "rq"
        obtain ⟨as2,g2,pr2⟩:=id M2
        refine ⟨l,rfl,⟨_,SqL.of g2⟩,?_⟩
        intro ac1 na1 ka1
        refine comp_prT ks (fun q=>decide (q.1 ≠ one)) (fun σ=>∃ o1,σ = [o1,some (.int one)]) (by omega) na1 ⟨none,rfl⟩ M2 ?_ ?_
        · rintro b q σc H3 R' S' hb sm ⟨o1,rfl⟩ hR hS
          walk_at "rd"
          have e2:(!decide (V.int q.1=V.int one))=decide (q.1 ≠ one):=by simp
          rw [e2]
          refine rd_ite2 (fun c2=>?_) (fun c2=>?_)
          · walk_at "rd"
            exact hR c2 _ ⟨_,rfl⟩
          · exact hS c2 _ ⟨_,rfl⟩
        · intro H3 s3 M3
          have hl3:=s3 _ _ g2
          have nal:ac1 ≠ l:=fun z=>by rw [z,g2] at na1; cases na1
          obtain ⟨bs3,g3,pr3⟩:=id M3
          walk_at "rq"
          refine ⟨.inl ⟨rfl,_,SqL.of hl3⟩,l,_,rfl,rfl,hl3,?_⟩
          walk_at "rq"
          have nl4:NL H3 (upd H3 l (.lst [])):=nl_upd hl3
          have g4:upd H3 l (.lst []) l=some (.lst []):=upd_same
          have ga4:upd H3 l (.lst []) ac1=some (.lst (bs3.map V.ref)):=by rw [upd_ne nal]; exact g3
          have lbs:bs3.length ≤ ks.length:=by rw [pr3.len]; exact List.length_filter_le _ _
          refine ⟨.inl ⟨rfl,_,SqL.of g4⟩,?_⟩
          walk_at "rq"
          refine ⟨l,ac1,[],_,rfl,rfl,g4,ga4,sz (by simp; omega),?_⟩
          rw [List.nil_append]
          have nl35:=nl4.trans (nl_upd (o:=.lst (bs3.map V.ref)) g4)
          have g5:upd (upd H3 l (.lst [])) l (.lst (bs3.map V.ref)) l=some (.lst (bs3.map V.ref)):=upd_same
          have x5:Ext [l] H3 (upd (upd H3 l (.lst [])) l (.lst (bs3.map V.ref))):=(Ext.at (by simp)).trans (Ext.at (by simp))
          have D5:Dk (upd (upd H3 l (.lst [])) l (.lst (bs3.map V.ref))) st c r _:=((D2.same s3).upd nl).upd nl
          have S5:=(S2.same s3).nl nl35
          have M5:MdAt (upd (upd H3 l (.lst [])) l (.lst (bs3.map V.ref))) l (ks.filter fun q=>decide (q.1 ≠ one)):=⟨_,g5,pr3.tk (TK.nl nl35)⟩
          generalize upd (upd H3 l (.lst [])) l (.lst (bs3.map V.ref))=H5 at x5 D5 S5 M5 ⊢
          obtain ⟨⟨dx5,h5⟩,hd5,_⟩:=id S5
          walk_at "rq"
          refine ⟨p,_,_,rfl,h5,slF_no _ _ (by decide +kernel) (by decide +kernel),?_⟩
          walk_at "rq"
          refine ⟨[],p,d,room,qs,.int one,.int one,rfl,S5,.int one,.inr ⟨one,rfl,a2,by omega,fun qs' H6 S6 look h6 x6=>?_⟩⟩
          walk_at "rq"
          refine k H6 qs' _ ((D5.dictK x6 hd5).mono (by omega)) S6 (M5.dict x6 hd5) (R.drop look) (by omega) ?_
          exact x1w.trans ((x2.sub (by simp +contextual)).trans ((Ext.same s3).trans ((x5.sub (by simp)).trans (x6.sub (by simp)))))
      · walk_at "rq"
        refine rd_ite2 (fun hc3=>?_) (fun hc3=>?_)
        · walk_at "rq"
          refine ⟨st,c,r,_,p,d,l,room,qs,ks,rfl,D1,by omega,S1,hl,r0,r1,M1,nl,R,fun H2 qs' ks' D2 S2 M2 R2 h2 x2=>?_⟩
          walk_at "rq"
          exact k H2 qs' ks' (D2.mono (by omega)) S2 M2 R2 (by omega) (x1w.trans x2)
        · walk_at "rq"
          refine ⟨st,c,r,_,p,d,room,qs,rfl,D1,by omega,S1,hl,r0,r1,fun H2 D2 x2=>?_⟩
          walk_at "rq"
          exact k H2 qs ks (D2.mono (by omega)) (S1.nl (nl_dk D1 x2)) (M1.dk D1 x2 nl) R (by omega) (x1w.trans (x2.sub (by simp +contextual)))
noncomputable def sp_law_looks (K:PySem.W.Frag) (a:Adr):Sp:=fun vs H Q _=>∃ (p d l:Addr) (room:Int) (qs ks:List (Int×Int)),vs = [.ref p,.ref l]∧SlAt a.C_Slots H p d room qs∧qs.length < 64∧MdAt H l ks∧Rl qs ks∧∀ H',Same H H'→Q (.bl true) H'
theorem ok_law_looks (T:Txt P K mg a) (G_Slots___len:FnOk P w K mg base CX0 1 a.f_Slots___len a.d_Slots___len ["self"] (sp_Slots___len K a)) (G_Slots_held:FnOk P w K mg base CX0 1 a.f_Slots_held a.d_Slots_held ["self"] (sp_Slots_held K a)) (G__law_same:FnOk P w K mg base CX0 3 a.f_law_same a.d_law_same ["_law_found","_law_due"] (sp_law_same K)):FnOk P w K mg base CX0 4 a.f_law_looks a.d_law_looks ["_law_slots","_law_model"] (sp_law_looks K a):=by
  refine T.F_law_looks.ok sc_law_looks (fun vs H Q E h=>?_) (fun cdv A outer s H vs Q E hr h=>?_)
  · obtain ⟨p,d,l,room,qs,ks,rfl,_⟩:=h; rfl
  · obtain ⟨p,d,l,room,qs,ks,rfl,S,hl,M,R,k⟩:=h
    have prm:=R.perm S.nd
    have lks:ks.length=qs.length:=prm.length_eq
    obtain ⟨⟨dx,h1⟩,hd,nd⟩:=id S
    refine exW ⟨_,(qss_one (qs_ret (pe_and (qe_call G__law_same (hr.mono (by decide)) (by rfl) T.m__law_same T.k__law_same T.bd__law_same .nil pass0 (qa (pe_meth0 (pv 0 (by rfl) (by walk_at "vis") (by decide) (by decide)) T.cl_Slots T.mt_Slots_held G_Slots_held (hr.mono (by decide)) T.bd_Slots_held .nil pass0 (by rfl)) (qa (qe_callTy (cn_tupleA (K:=K) (by rfl)) (by rfl) T.b_tuple (by decide +kernel) (qa (qe_callB cn_sortPL (by rfl) T.b_sorted (by decide +kernel) (qa (pv 1 (by rfl) (by walk_at "vis") (by decide) (by decide)) qa_nil (by rfl)) (by decide) (by decide) (by rfl) (by rfl)) qa_nil (by rfl)) (by decide) (by decide) (by rfl) (by rfl)) qa_nil (by rfl)) (by rfl)) (by decide) (by rfl) (by rfl)) (pe_one (pe_cmpR op_eq (qe_callB (cn_lenO T.mt_Slots___len G_Slots___len (hr.mono (by decide)) T.bd_Slots___len pass0) (by rfl) T.b_len (by decide +kernel) (qa (pv 0 (by rfl) (by walk_at "vis") (by decide) (by decide)) qa_nil (by rfl)) (by decide) (by decide) (by rfl) (by rfl)) (qe_callB cn_len (by rfl) T.b_len (by decide +kernel) (qa (pv 1 (by rfl) (by walk_at "vis") (by decide) (by decide)) qa_nil (by rfl)) (by decide) (by decide) (by rfl) (by rfl)) (nomark _)))))),?_⟩
    try dsimp only [cxOf]
    walk_at "rd"
    refine ⟨p,_,_,rfl,h1,slF_no _ _ (by decide +kernel) (by decide +kernel),?_⟩
    walk_at "rd"
    refine ⟨p,d,room,qs,rfl,S,hl,fun t o ws ps H1 n1 do1 g1 pv ih s1=>?_⟩
    have M1:=M.same s1
    obtain ⟨as,gl,pr⟩:=id M1
    walk_at "rd"
    refine ⟨l,as,ks,rfl,gl,pr,by omega,fun l2 bs H2 n2 s2 pr2 g2=>?_⟩
    walk_at "rd"
    intro q H3 _ s3 hq
    have e:srtP ks=ps:=by rw [srtP_congr prm nd]; exact srtP_held ih nd
    rw [e] at pr2
    have pr3:=pr2.tk (TK.same s3)
    have s13:=s2.trans s3
    walk_at "rd"
    refine ⟨[],.ref t,.ref q,.tuple (ps.map pairD),rfl,.tup (.inl (.inr ⟨o,s13 _ _ g1⟩)) (by simp) (pvh_dt (pv.same s13) rfl),.tup hq (by simp) pr3.dt,.inl (prs_tupB ps),by show PyData.depthAll (ps.map pairD) + 1 < 3; have:=prs_depth ps; omega,fun H4 s4=>?_⟩
    have s04:=s1.trans (s13.trans s4)
    have S4:=S.same s04
    obtain ⟨⟨dx4,h4⟩,_,_⟩:=id S4
    walk_at "rd"
    refine ⟨p,_,_,rfl,h4,?_⟩
    refine ⟨p,d,room,qs,rfl,S4,?_⟩
    refine ⟨_,rfl,by omega,by omega,?_⟩
    walk_at "rd"
    refine rd_lenL (SqL.of ((s13.trans s4) _ _ gl)) ?_
    walk_at "rd"
    rw [show decide (V.int (qs.length:Int)=V.int ((as.map V.ref).length:Int))=true from decide_eq_true (by rw [List.length_map,pr.len,lks])]
    exact k _ s04
noncomputable def sp_law_room (K:PySem.W.Frag):Sp:=fun vs H Q _=>∃ (st c r:Addr) (m:Nat),vs = [.ref st]∧Dk H st c r m∧m < 900000000 ∧
  ∀ (v:Int) (H':Hp),1 ≤ v→v ≤ 400→Dk H' st c r (m + 2)→Ext [st,r] H H'→Q (.int v) H'
theorem ok_law_room (T:Txt P K mg a) (G__law_take:FnOk P w K mg base CX0 1 a.f_law_take a.d_law_take ["_law_deck_here","_law_many"] (sp_law_take K)):FnOk P w K mg base CX0 2 a.f_law_room a.d_law_room ["_law_deck_here"] (sp_law_room K):=by
  refine T.F_law_room.ok sc_law_room (fun vs H Q E h=>?_) (fun cdv A outer s H vs Q E hr h=>?_)
  · obtain ⟨st,c,r,m,rfl,_⟩:=h; rfl
  · obtain ⟨st,c,r,m,rfl,S,hm,k⟩:=h
    refine exW ⟨_,(qss_cons (qs_if (pt_cmpR op_eq (qe_call G__law_take (hr.mono (by decide)) (by rfl) T.m__law_take T.k__law_take T.bd__law_take .nil pass0 (qa (pv 0 (by rfl) (by walk_at "vis") (by decide) (by decide)) (qa pe_int qa_nil (by rfl)) (by rfl)) (by decide) (by rfl) (by rfl)) pe_int (nomark _))
        (qss_one (qs_ret (pe_op op_sub pe_int (qe_call G__law_take (hr.mono (by decide)) (by rfl) T.m__law_take T.k__law_take T.bd__law_take .nil pass0 (qa (pv 0 (by rfl) (by walk_at "vis") (by decide) (by decide)) (qa pe_int qa_nil (by rfl)) (by rfl)) (by decide) (by rfl) (by rfl)))))
        qss_nil)
      (qss_one (qs_ret (pe_op op_add pe_int (qe_call G__law_take (hr.mono (by decide)) (by rfl) T.m__law_take T.k__law_take T.bd__law_take .nil pass0 (qa (pv 0 (by rfl) (by walk_at "vis") (by decide) (by decide)) (qa pe_int qa_nil (by rfl)) (by rfl)) (by decide) (by rfl) (by rfl)))))),?_⟩
    try dsimp only [cxOf]
    walk_at "rq"
    refine ⟨st,c,r,_,4,rfl,S,by omega,by decide,by decide,fun v1 H1 a1 b1 S1 x1=>?_⟩
    walk_at "rq"
    refine rd_ite2 (fun hc=>?_) (fun hc=>?_)
    · walk_at "rq"
      refine ⟨st,c,r,_,400,rfl,S1,by omega,by decide,by decide,fun v2 H2 a2 b2 S2 x2=>?_⟩
      walk_at "rq"
      exact k _ H2 (by omega) (by omega) S2 (x1.trans x2)
    · walk_at "rq"
      refine ⟨st,c,r,_,12,rfl,S1,by omega,by decide,by decide,fun v2 H2 a2 b2 S2 x2=>?_⟩
      walk_at "rq"
      exact k _ H2 (by omega) (by omega) S2 (x1.trans x2)
noncomputable def sp_law_no_room (K:PySem.W.Frag) (a:Adr):Sp:=fun vs H Q _=>∃ (st c r:Addr) (m:Nat),vs = [.ref st]∧Dk H st c r m∧m < 800000000∧∀ H',Q (.bl true) H'
theorem ok_law_no_room (T:Txt P K mg a) (G_Slots_init:FnOk P w K mg base (CX1 P w) 5 a.f_Slots_init a.d_Slots_init ["self","room"] (sp_Slots_init K a)) (G__law_names:FnOk P w K mg base CX0 1 a.f_law_names a.d_law_names ["_law_error"] (sp_law_names K a)) (G__law_same:FnOk P w K mg base CX0 3 a.f_law_same a.d_law_same ["_law_found","_law_due"] (sp_law_same K)) (G__law_take:FnOk P w K mg base CX0 1 a.f_law_take a.d_law_take ["_law_deck_here","_law_many"] (sp_law_take K)):FnOk P w K mg base CX0 7 a.f_law_no_room a.d_law_no_room ["_law_deck_here"] (sp_law_no_room K a):=by
  refine T.F_law_no_room.ok sc_law_no_room (fun vs H Q E h=>?_) (fun cdv A outer s H vs Q E hr h=>?_)
  · obtain ⟨st,c,r,m,rfl,_⟩:=h; rfl
  · obtain ⟨st,c,r,m,rfl,D,hm,k⟩:=h
    have p40:(10:Int) ^ (40:Int).toNat=10000000000000000000000000000000000000000:=by decide +kernel
    refine exW ⟨_,(qss_cons (qs_setLA (i:=1) sc_law_no_room.nd rfl (Or.inl rfl) (qa pe_int (qa pe_int (qa (by exact (pe_op op_sub (pe_un un_neg pe_int) (qe_call G__law_take (hr.mono (by decide)) (by rfl) T.m__law_take T.k__law_take T.bd__law_take .nil pass0 (qa (pv 0 (by rfl) (by walk_at "vis") (by decide) (by decide)) (qa pe_int qa_nil (by rfl)) (by rfl)) (by decide) (by rfl) (by rfl)))) (qa (by exact (pe_op op_add pe_int (qe_call G__law_take (hr.mono (by decide)) (by rfl) T.m__law_take T.k__law_take T.bd__law_take .nil pass0 (qa (pv 0 (by rfl) (by walk_at "vis") (by decide) (by decide)) (qa pe_int qa_nil (by rfl)) (by rfl)) (by decide) (by rfl) (by rfl)))) (qa (by exact (pe_op op_pow pe_int pe_int)) (qa pe_bl (qa pe_non (qa pe_str (qa (by exact (qe_lstA (qa pe_int qa_nil (by rfl)))) qa_nil (by rfl)) (by rfl)) (by rfl)) (by rfl)) (by rfl)) (by rfl)) (by rfl)) (by rfl)) (by rfl)) (by first | exact Or.inl rfl | exact Or.inr rfl))
      (qss_cons (qs_set (i:=2) sc_law_no_room.nd rfl (Or.inl rfl) (pe_ix ix_list (pv 1 (by rfl) (by walk_at "vis") (by decide) (by decide)) (qe_call G__law_take (hr.mono (by decide)) (by rfl) T.m__law_take T.k__law_take T.bd__law_take .nil pass0 (qa (pv 0 (by rfl) (by walk_at "vis") (by decide) (by decide)) (qa pe_int qa_nil (by rfl)) (by rfl)) (by decide) (by rfl) (by rfl)) (fun _ _=>rfl)) (by rfl) (by first | exact Or.inl rfl | exact Or.inr rfl))
      (qss_cons (qs_set (i:=3) sc_law_no_room.nd rfl (Or.inl rfl) pe_non (by rfl) (by first | exact Or.inl rfl | exact Or.inr rfl))
      (qss_cons (qs_try (i:=4) (c:="LineError") sc_law_no_room.nd rfl rfl (by rfl) T.mC_LineError rfl rfl rfl (fun _ _ XR hx =>
        (qss_one (qs_expr (qe_makeX T.mk_Slots G_Slots_init (hr.mono (by decide)) (by rfl) T.mC_Slots T.bd_Slots_init .nil hx (qa (pv 2 (by rfl) (by walk_at "vis") (by decide) (by decide)) qa_nil (by rfl)) (by decide) (by rfl) (by rfl)) (by rfl)))) (fun _ =>
        (qss_one (qs_set (i:=3) sc_law_no_room.nd rfl (Or.inl rfl) (pv 4 (by rfl) (by walk_at "vis") (by decide) (by decide)) (by rfl) (by first | exact Or.inl rfl | exact Or.inr rfl)))) (by decide))
      (qss_one (qs_ret (pe_and (pe_cmpR on_notN (pv 3 (by rfl) (by walk_at "vis") (by decide) (by decide)) pe_non (nomark _)) (pe_and (pe_cmpR (on_eqD hr) (qe_call G__law_names (hr.mono (by decide)) (by rfl) T.m__law_names T.k__law_names T.bd__law_names .nil pass0 (qa (pv 3 (by rfl) (by walk_at "vis") (by decide) (by decide)) qa_nil (by rfl)) (by decide) (by rfl) (by rfl)) (qe_lstA (qa pe_str qa_nil (by rfl))) (nomark _)) (pe_one (qe_call G__law_same (hr.mono (by decide)) (by rfl) T.m__law_same T.k__law_same T.bd__law_same .nil pass0 (qa (pe_xat (pv 3 (by rfl) (by walk_at "vis") (by decide) (by decide)) (by rfl)) (qa pe_str qa_nil (by rfl)) (by rfl)) (by decide) (by rfl) (by rfl))))))))))),?_⟩
    try dsimp only [cxOf]
    refine rd_seq ?_
    walk_at "rs"
    refine ⟨st,c,r,_,9,rfl,D,by omega,by decide,by decide,fun v1 H1 a1 b1 D1 x1=>?_⟩
    walk_at "rs"
    refine ⟨st,c,r,_,9,rfl,D1,by omega,by decide,by decide,fun v2 H2 a2 b2 D2 x2=>?_⟩
    walk_at "rs"
    refine ⟨sz (by simp),fun l3 H3 n3 s3 g3=>?_⟩
    have D3:=D2.same s3
    have dl3:l3 ∉ [st,c,r]:=D2.new n3
    walk_at "rs"
    refine ⟨sz (by simp),fun l4 H4 n4 s4 g4=>?_⟩
    have D4:=D3.same s4
    have dl4:l4 ∉ [st,c,r]:=D3.new n4
    walk_at "rs"
    refine rd_seq ?_
    walk_at "rs"
    refine ⟨st,c,r,_,9,rfl,D4,by omega,by decide,by decide,fun v5 H5 a5 b5 D5 x5=>?_⟩
    have g35:=x5 _ _ (s4 _ _ g3) (nin_pr dl3)
    have g45:=x5 _ _ g4 (nin_pr dl4)
    obtain ⟨n,rfl⟩:=Int.eq_ofNat_of_zero_le a5
    have hn:n < 9:=by omega
    obtain ⟨x,dd,hx,hdd,hw⟩:∃ (x:V) (dd:PyData),([.int 0,.int 401,.int (-1 - v1),.int (402 + v2),.int (10 ^ (40:Int).toNat),.bl true,.non,.str "1",.ref l3]:List V)[n]? = some x∧Dt K [] H5 x dd∧Mt.withinD 1 400 dd=false:=by
      have big:∀ i:Int,i < 1∨400 < i→Mt.withinD 1 400 (.int i)=false:=fun i h=>by simp [Mt.withinD]; omega
      match n,hn with
      | 0,_=>exact ⟨_,_,rfl,.int _,big _ (by omega)⟩
      | 1,_=>exact ⟨_,_,rfl,.int _,big _ (by omega)⟩
      | 2,_=>exact ⟨_,_,rfl,.int _,big _ (by omega)⟩
      | 3,_=>exact ⟨_,_,rfl,.int _,big _ (by omega)⟩
      | 4,_=>exact ⟨_,_,rfl,.int _,big _ (by rw [p40]; omega)⟩
      | 5,_=>exact ⟨_,_,rfl,.bl _,rfl⟩
      | 6,_=>exact ⟨_,_,rfl,.non,rfl⟩
      | 7,_=>exact ⟨_,_,rfl,.str _,rfl⟩
      | 8,_=>exact ⟨_,_,rfl,.lst (SqL.of g35) (by simp) (.cons (.int 1) .nil),rfl⟩
    refine rd_ixL (v:=x) (SqL.of g45) (atI_nat hx) ?_
    walk_at "rs"
    refine rd_seq ?_
    walk_at "rs"
    refine rd_seq ?_
    walk_at "rs"
    intro p dx np nx ne
    have s6:Same H5 (upd (upd H5 dx (.own p)) p (.ins a.C_Slots dx [])):=fun b u e=>by rw [upd_ne (ne_of_none e np),upd_ne (ne_of_none e nx)]; exact e
    have gp:upd (upd H5 dx (.own p)) p (.ins a.C_Slots dx []) p=some (.ins a.C_Slots dx []):=upd_same
    generalize upd (upd H5 dx (.own p)) p (.ins a.C_Slots dx [])=H6 at s6 gp ⊢
    refine ⟨[],p,dx,x,dd,rfl,gp,hdd.ext (Ext.same s6),.inl ⟨hw,fun dy hdy=>⟨T.ex_NoCount_LineError,fun ee he0=>?_⟩⟩⟩
    have nx2:dy ≠ ee:=fun q=>by rw [q,upd_same] at he0; cases he0
    have ex:upd (upd H6 dy (.xd [("what",.str "room")])) ee (.ext (ExcIs ee (.ref a.C_NoCount) (some dy))) ee=some (.ext (ExcIs ee (.ref a.C_NoCount) (some dy))):=upd_same
    have ed:upd (upd H6 dy (.xd [("what",.str "room")])) ee (.ext (ExcIs ee (.ref a.C_NoCount) (some dy))) dy=some (.xd [("what",.str "room")]):=by rw [upd_ne nx2]; exact upd_same
    generalize upd (upd H6 dy (.xd [("what",.str "room")])) ee (.ext (ExcIs ee (.ref a.C_NoCount) (some dy)))=H7 at ex ed ⊢
    walk_at "rs"
    refine ⟨ee,_,some dy,"NoCount",rfl,ex,.inl ⟨rfl,rfl⟩,fun l8 H8 s8 g8=>?_⟩
    walk_at "rs"
    refine ⟨sz (by simp),fun l9 H9 n9 s9 g9=>?_⟩
    have g89:=s9 _ _ g8
    refine rd_eqD (N:=[]) (d:=.list [.str "NoCount"]) (e:=.list [.str "NoCount"]) (.lst (SqL.of g89) (by simp) (.cons (.str _) .nil)) (.lst (SqL.of g9) (by simp) (.cons (.str _) .nil)) (by decide +kernel) (by decide +kernel) ?_
    rw [show PyData.eqv (.list [.str "NoCount"]) (.list [.str "NoCount"])=true by decide +kernel]
    walk_at "rs"
    have s79:=s8.trans s9
    refine ⟨ee,_,dy,_,.str "room",_,rfl,s79 _ _ ex,T.xg_NoCount,T.Z_NoCount.xc,T.Z_NoCount.x1.no,s79 _ _ ed,rfl,?_⟩
    walk_at "rs"
    exact ⟨[],_,_,_,rfl,.str _,.str _,.inl rfl,by decide,fun H10 s10=>k _⟩
noncomputable def sp_law (K:PySem.W.Frag):Sp:=fun vs H Q _=>∃ (p:Addr) (ns:List Int),vs = [.ref p]∧SqL K H p (ns.map V.int)∧ns.length ≤ 63∧∀ H',Q (.bl true) H'
theorem ok_law (T:Txt P K mg a) (G_Slots___eq:FnOk P w K mg base CX0 1 a.f_Slots___eq a.d_Slots___eq ["self","other"] (sp_Slots___eq K a)) (G_Slots_init:FnOk P w K mg base (CX1 P w) 5 a.f_Slots_init a.d_Slots_init ["self","room"] (sp_Slots_init K a)) (G_Slots_anew:FnOk P w K mg base (CX1 P w) 5 a.f_Slots_anew a.d_Slots_anew ["self","house","place"] (sp_Slots_anew K a)) (G_Slots_held:FnOk P w K mg base CX0 1 a.f_Slots_held a.d_Slots_held ["self"] (sp_Slots_held K a)) (G__law_deck:FnOk P w K mg base CX0 1 a.f_law_deck a.d_law_deck ["_law_script"] (sp_law_deck K)) (G__law_deed:FnOk P w K mg base CX0 10 a.f_law_deed a.d_law_deed ["_law_deck_here","_law_slots","_law_room_here","_law_model"] (sp_law_deed K a)) (G__law_looks:FnOk P w K mg base CX0 4 a.f_law_looks a.d_law_looks ["_law_slots","_law_model"] (sp_law_looks K a)) (G__law_no_room:FnOk P w K mg base CX0 7 a.f_law_no_room a.d_law_no_room ["_law_deck_here"] (sp_law_no_room K a)) (G__law_room:FnOk P w K mg base CX0 2 a.f_law_room a.d_law_room ["_law_deck_here"] (sp_law_room K)) (G__law_same:FnOk P w K mg base CX0 3 a.f_law_same a.d_law_same ["_law_found","_law_due"] (sp_law_same K)) (G__law_take:FnOk P w K mg base CX0 1 a.f_law_take a.d_law_take ["_law_deck_here","_law_many"] (sp_law_take K)):FnOk P w K mg base CX0 11 a.f_law a.d_law ["_law_script"] (sp_law K):=by
  refine T.F_law.ok sc_law (fun vs H Q E h=>?_) (fun cdv A outer s H vs Q E hr h=>?_)
  · obtain ⟨p,ns,rfl,_⟩:=h; rfl
  · obtain ⟨p,ns,rfl,hq,hl,k⟩:=h
    refine exW ⟨_,(qss_cons (qs_set (i:=1) sc_law.nd rfl (Or.inl rfl) (qe_call G__law_deck (hr.mono (by decide)) (by rfl) T.m__law_deck T.k__law_deck T.bd__law_deck .nil pass0 (qa (pv 0 (by rfl) (by walk_at "vis") (by decide) (by decide)) qa_nil (by rfl)) (by decide) (by rfl) (by rfl)) (by rfl) (by first | exact Or.inl rfl | exact Or.inr rfl))
      (qss_cons (qs_set (i:=2) sc_law.nd rfl (Or.inl rfl) (qe_lstA (qa (qe_call G__law_room (hr.mono (by decide)) (by rfl) T.m__law_room T.k__law_room T.bd__law_room .nil pass0 (qa (pv 1 (by rfl) (by walk_at "vis") (by decide) (by decide)) qa_nil (by rfl)) (by decide) (by rfl) (by rfl)) (qa (qe_call G__law_room (hr.mono (by decide)) (by rfl) T.m__law_room T.k__law_room T.bd__law_room .nil pass0 (qa (pv 1 (by rfl) (by walk_at "vis") (by decide) (by decide)) qa_nil (by rfl)) (by decide) (by rfl) (by rfl)) qa_nil (by rfl)) (by rfl))) (by rfl) (by first | exact Or.inl rfl | exact Or.inr rfl))
      (qss_cons (qs_if (pt_cmpR op_eq (qe_call G__law_take (hr.mono (by decide)) (by rfl) T.m__law_take T.k__law_take T.bd__law_take .nil pass0 (qa (pv 1 (by rfl) (by walk_at "vis") (by decide) (by decide)) (qa pe_int qa_nil (by rfl)) (by rfl)) (by decide) (by rfl) (by rfl)) pe_int (nomark _))
        (qss_one (qs_asg (pe_ix ix_list (pv 2 (by rfl) (by walk_at "vis") (by decide) (by decide)) pe_int (fun _ _=>rfl)) (pg_sub (pv 2 (by rfl) (by walk_at "vis") (by decide) (by decide)) pe_int set_list (by intro _; rfl)) (by rfl) (by rfl) (by rfl)))
        qss_nil)
      (qss_cons (qs_set (i:=3) sc_law.nd rfl (Or.inl rfl) (qe_lstA (qa (qe_makeX T.mk_Slots G_Slots_init (hr.mono (by decide)) (by rfl) T.mC_Slots T.bd_Slots_init .nil px0 (qa (pe_ix ix_list (pv 2 (by rfl) (by walk_at "vis") (by decide) (by decide)) pe_int (fun _ _=>rfl)) qa_nil (by rfl)) (by decide) (by rfl) (by rfl)) (qa (qe_makeX T.mk_Slots G_Slots_init (hr.mono (by decide)) (by rfl) T.mC_Slots T.bd_Slots_init .nil px0 (qa (pe_ix ix_list (pv 2 (by rfl) (by walk_at "vis") (by decide) (by decide)) pe_int (fun _ _=>rfl)) qa_nil (by rfl)) (by decide) (by rfl) (by rfl)) qa_nil (by rfl)) (by rfl))) (by rfl) (by first | exact Or.inl rfl | exact Or.inr rfl))
      (qss_cons (qs_set (i:=4) sc_law.nd rfl (Or.inl rfl) (qe_lstA (qa (qe_lstA qa_nil) (qa (qe_lstA qa_nil) qa_nil (by rfl)) (by rfl))) (by rfl) (by first | exact Or.inl rfl | exact Or.inr rfl))
      (qss_cons (qs_for PassesOwn.never rfl (qi_range1 (by rfl) T.b_range (qa (pe_op op_add pe_int (qe_call G__law_take (hr.mono (by decide)) (by rfl) T.m__law_take T.k__law_take T.bd__law_take .nil pass0 (qa (pv 1 (by rfl) (by walk_at "vis") (by decide) (by decide)) (qa pe_int qa_nil (by rfl)) (by rfl)) (by decide) (by rfl) (by rfl))) qa_nil (by rfl)) (by rfl)) (pg_name (i:=5) sc_law.nd rfl (Or.inl rfl) (by first | exact Or.inl rfl | exact Or.inr rfl))
        (qss_cons (qs_set (i:=6) sc_law.nd rfl (Or.inl rfl) (qe_call G__law_take (hr.mono (by decide)) (by rfl) T.m__law_take T.k__law_take T.bd__law_take .nil pass0 (qa (pv 1 (by rfl) (by walk_at "vis") (by decide) (by decide)) (qa pe_int qa_nil (by rfl)) (by rfl)) (by decide) (by rfl) (by rfl)) (by rfl) (by first | exact Or.inl rfl | exact Or.inr rfl))
        (qss_cons (qs_if (pt_not (pt_val (qe_call G__law_deed (hr.mono (by decide)) (by rfl) T.m__law_deed T.k__law_deed T.bd__law_deed .nil pass0 (qa (pv 1 (by rfl) (by walk_at "vis") (by decide) (by decide)) (qa (pe_ix ix_list (pv 3 (by rfl) (by walk_at "vis") (by decide) (by decide)) (pv 6 (by rfl) (by walk_at "vis") (by decide) (by decide)) (fun _ _=>rfl)) (qa (pe_ix ix_list (pv 2 (by rfl) (by walk_at "vis") (by decide) (by decide)) (pv 6 (by rfl) (by walk_at "vis") (by decide) (by decide)) (fun _ _=>rfl)) (qa (pe_ix ix_list (pv 4 (by rfl) (by walk_at "vis") (by decide) (by decide)) (pv 6 (by rfl) (by walk_at "vis") (by decide) (by decide)) (fun _ _=>rfl)) qa_nil (by rfl)) (by rfl)) (by rfl)) (by rfl)) (by decide) (by rfl) (by rfl)) (by intro _; rfl)))
          (qss_one (qs_ret pe_bl))
          qss_nil)
        (qss_cons (qs_if (pw_or (pt_not (pt_val (qe_call G__law_looks (hr.mono (by decide)) (by rfl) T.m__law_looks T.k__law_looks T.bd__law_looks .nil pass0 (qa (pe_ix ix_list (pv 3 (by rfl) (by walk_at "vis") (by decide) (by decide)) pe_int (fun _ _=>rfl)) (qa (pe_ix ix_list (pv 4 (by rfl) (by walk_at "vis") (by decide) (by decide)) pe_int (fun _ _=>rfl)) qa_nil (by rfl)) (by rfl)) (by decide) (by rfl) (by rfl)) (by intro _; rfl))) (pw_or1 (pt_not (pt_val (qe_call G__law_looks (hr.mono (by decide)) (by rfl) T.m__law_looks T.k__law_looks T.bd__law_looks .nil pass0 (qa (pe_ix ix_list (pv 3 (by rfl) (by walk_at "vis") (by decide) (by decide)) pe_int (fun _ _=>rfl)) (qa (pe_ix ix_list (pv 4 (by rfl) (by walk_at "vis") (by decide) (by decide)) pe_int (fun _ _=>rfl)) qa_nil (by rfl)) (by rfl)) (by decide) (by rfl) (by rfl)) (by intro _; rfl))))).pt
          (qss_one (qs_ret pe_bl))
          qss_nil)
        (qss_cons (qs_set (i:=7) sc_law.nd rfl (Or.inl rfl) (pe_and (pe_cmpR op_eq (pe_ix ix_list (pv 2 (by rfl) (by walk_at "vis") (by decide) (by decide)) pe_int (fun _ _=>rfl)) (pe_ix ix_list (pv 2 (by rfl) (by walk_at "vis") (by decide) (by decide)) pe_int (fun _ _=>rfl)) (nomark _)) (pe_one (pe_cmpR (on_eqD hr) (qe_callB cn_sortPL (by rfl) T.b_sorted (by decide +kernel) (qa (pe_ix ix_list (pv 4 (by rfl) (by walk_at "vis") (by decide) (by decide)) pe_int (fun _ _=>rfl)) qa_nil (by rfl)) (by decide) (by decide) (by rfl) (by rfl)) (qe_callB cn_sortPL (by rfl) T.b_sorted (by decide +kernel) (qa (pe_ix ix_list (pv 4 (by rfl) (by walk_at "vis") (by decide) (by decide)) pe_int (fun _ _=>rfl)) qa_nil (by rfl)) (by decide) (by decide) (by rfl) (by rfl)) (nomark _)))) (by rfl) (by first | exact Or.inl rfl | exact Or.inr rfl))
        (qss_one (qs_if (pt_not (pt_val (qe_call G__law_same (hr.mono (by decide)) (by rfl) T.m__law_same T.k__law_same T.bd__law_same .nil pass0 (qa (qe_lstA (qa (pe_cmpR (on_eqO T.mt_Slots___eq G_Slots___eq (hr.mono (by decide)) T.bd_Slots___eq pass0) (pe_ix ix_list (pv 3 (by rfl) (by walk_at "vis") (by decide) (by decide)) pe_int (fun _ _=>rfl)) (pe_ix ix_list (pv 3 (by rfl) (by walk_at "vis") (by decide) (by decide)) pe_int (fun _ _=>rfl)) (nomark _)) (qa (pe_cmpR (on_neO T.cl_Slots T.ne_Slots T.mt_Slots___eq G_Slots___eq (hr.mono (by decide)) T.bd_Slots___eq pass0) (pe_ix ix_list (pv 3 (by rfl) (by walk_at "vis") (by decide) (by decide)) pe_int (fun _ _=>rfl)) (pe_ix ix_list (pv 3 (by rfl) (by walk_at "vis") (by decide) (by decide)) pe_int (fun _ _=>rfl)) (nomark _)) qa_nil (by rfl)) (by rfl))) (qa (qe_lstA (qa (pv 7 (by rfl) (by walk_at "vis") (by decide) (by decide)) (qa (pe_not (pv 7 (by rfl) (by walk_at "vis") (by decide) (by decide))) qa_nil (by rfl)) (by rfl))) qa_nil (by rfl)) (by rfl)) (by decide) (by rfl) (by rfl)) (by intro _; rfl)))
          (qss_one (qs_ret pe_bl))
          qss_nil)))))) (by intro _; rfl))
      (qss_cons (qs_set (i:=8) sc_law.nd rfl (Or.inl rfl) (qe_makeX T.mk_Slots G_Slots_init (hr.mono (by decide)) (by rfl) T.mC_Slots T.bd_Slots_init .nil px0 (qa (pe_ix ix_list (pv 2 (by rfl) (by walk_at "vis") (by decide) (by decide)) pe_int (fun _ _=>rfl)) qa_nil (by rfl)) (by decide) (by rfl) (by rfl)) (by rfl) (by first | exact Or.inl rfl | exact Or.inr rfl))
      (qss_cons (qs_for PassesOwn.never rfl (pi_list (pe_ix ix_list (pv 4 (by rfl) (by walk_at "vis") (by decide) (by decide)) pe_int (fun _ _=>rfl))) (pg_tup (n:=2) rfl (pgs_cons (pg_name (i:=9) (show (["_law_script","_law_deck_here","_law_rooms","_law_both","_law_models","_law_turn","_law_k","_law_same_here","_law_twin","_law_one","_law_place_here"]:List Str).Nodup by decide +kernel) rfl (Or.inl rfl) (by first | exact Or.inl rfl | exact Or.inr rfl)) (pgs_cons (pg_name (i:=10) (show (["_law_script","_law_deck_here","_law_rooms","_law_both","_law_models","_law_turn","_law_k","_law_same_here","_law_twin","_law_one","_law_place_here"]:List Str).Nodup by decide +kernel) rfl (Or.inl rfl) (by first | exact Or.inl rfl | exact Or.inr rfl)) pgs_nil (by rfl)) (by rfl)) (by rfl) (by rfl))
        (qss_one (qs_expr (qe_methX (pv 8 (by rfl) (by walk_at "vis") (by decide) (by decide)) T.cl_Slots T.mt_Slots_anew G_Slots_anew (hr.mono (by decide)) T.bd_Slots_anew px0 (qa (pv 9 (by rfl) (by walk_at "vis") (by decide) (by decide)) (qa (pv 10 (by rfl) (by walk_at "vis") (by decide) (by decide)) qa_nil (by rfl)) (by rfl)) (by rfl) (by rfl) (by rfl)) (by rfl))) (by intro _; rfl))
      (qss_cons (qs_if (pw_or (pt_cmpR on_isnB (pe_cmpR (on_eqO T.mt_Slots___eq G_Slots___eq (hr.mono (by decide)) T.bd_Slots___eq pass0) (pv 8 (by rfl) (by walk_at "vis") (by decide) (by decide)) (pe_ix ix_list (pv 3 (by rfl) (by walk_at "vis") (by decide) (by decide)) pe_int (fun _ _=>rfl)) (nomark _)) pe_bl (nomark _)) (pw_or1 (pt_cmpR on_isnB (pe_cmpR (on_eqO T.mt_Slots___eq G_Slots___eq (hr.mono (by decide)) T.bd_Slots___eq pass0) (pe_ix ix_list (pv 3 (by rfl) (by walk_at "vis") (by decide) (by decide)) pe_int (fun _ _=>rfl)) (pe_meth0 (pe_ix ix_list (pv 3 (by rfl) (by walk_at "vis") (by decide) (by decide)) pe_int (fun _ _=>rfl)) T.cl_Slots T.mt_Slots_held G_Slots_held (hr.mono (by decide)) T.bd_Slots_held .nil pass0 (by rfl)) (nomark _)) pe_bl (nomark _)))).pt
        (qss_one (qs_ret pe_bl))
        qss_nil)
      (qss_one (qs_ret (qe_call G__law_no_room (hr.mono (by decide)) (by rfl) T.m__law_no_room T.k__law_no_room T.bd__law_no_room .nil pass0 (qa (pv 1 (by rfl) (by walk_at "vis") (by decide) (by decide)) qa_nil (by rfl)) (by decide) (by rfl) (by rfl))))))))))))),?_⟩
    try dsimp only [cxOf]
    refine rd_seq ?_
    walk_at "rs"
    refine ⟨p,ns,rfl,hq,hl,fun st c r H1 D1 s1 n1=>?_⟩
    walk_at "rs"
    refine rd_seq ?_
    walk_at "rs"
    refine ⟨st,c,r,_,rfl,D1,by omega,fun room0 H2 ra0 rb0 D2 x2=>?_⟩
    walk_at "rs"
    refine ⟨st,c,r,_,rfl,D2,by omega,fun roomZ H3 raZ rbZ D3 x3=>?_⟩
    walk_at "rs"
    refine ⟨sz (by simp),fun lr H4 nlr s4 glr=>?_⟩
    have D4:=D3.same s4
    have dlr:lr ∉ [st,c,r]:=D3.new nlr
    walk_at "rs"
    refine rd_seqK (fun σ' H'=>∃ room1:Int,σ' = [some (.ref p),some (.ref st),some (.ref lr),none,none,none,none,none,none,none,none]∧1 ≤ room1∧room1 ≤ 400∧H' lr=some (.lst [.int room0,.int room1])∧Dk H' st c r 10) ?_ ?_
    · rintro σ' H5 ⟨room1,rfl,ra1,rb1,glr5,D5⟩
      refine rd_seq ?_
      walk_at "rs"
      intro p0 x0 np0 nx0 ne0
      refine ⟨[],p0,x0,.int room0,.int room0,rfl,upd_same,.int room0,.inr ⟨room0,rfl,ra0,rb0,fun d0 H6 nd0 B0 kp0=>⟨rfl,?_⟩⟩⟩
      have s56:Same H5 H6:=fun b o e=>kp0 b o (by rw [upd_ne (ne_of_none e np0),upd_ne (ne_of_none e nx0)]; exact e) (ne_of_none e np0)
      have glr6:=s56 _ _ glr5
      walk_at "rs"
      intro p1 x1 np1 nx1 ne1
      refine ⟨[],p1,x1,.int room1,.int room1,rfl,upd_same,.int room1,.inr ⟨room1,rfl,ra1,rb1,fun d1 H7 nd1 B1 kp1=>⟨rfl,?_⟩⟩⟩
      have s67:Same H6 H7:=fun b o e=>kp1 b o (by rw [upd_ne (ne_of_none e np1),upd_ne (ne_of_none e nx1)]; exact e) (ne_of_none e np1)
      have nd1':H6 d1=none:=by
        cases e:H6 d1 with
        | none=>rfl
        | some u=>rw [upd_ne (ne_of_none e np1),upd_ne (ne_of_none e nx1),e] at nd1; cases nd1
      have n01:d0 ≠ d1:=ne_of_none B0.dc nd1'
      walk_at "rs"
      refine ⟨sz (by simp),fun lb H8 nlb s8 glb=>?_⟩
      have D7:=(D5.same s56).same s67
      have D8:=D7.same s8
      have dlb:lb ∉ [st,c,r]:=D7.new nlb
      walk_at "rs"
      refine rd_seq ?_
      walk_at "rs"
      refine ⟨sz (by simp),fun l0 H9 nl0 s9 gl0=>?_⟩
      have dl0:l0 ∉ [st,c,r]:=D8.new nl0
      have D9:=D8.same s9
      walk_at "rs"
      refine ⟨sz (by simp),fun l1 H10 nl1 s10 gl1=>?_⟩
      have dl1:l1 ∉ [st,c,r]:=D9.new nl1
      have D10:=D9.same s10
      have l01:l0 ≠ l1:=ne_of_none gl0 nl1
      walk_at "rs"
      refine ⟨sz (by simp),fun lm H11 nlm s11 glm=>?_⟩
      have dlm:lm ∉ [st,c,r]:=D10.new nlm
      have s711:=s8.trans (s9.trans (s10.trans s11))
      have s811:=s9.trans (s10.trans s11)
      have brl0:lr ≠ l0:=ne_of_none ((s67.trans s8) _ _ glr6) nl0
      have brl1:lr ≠ l1:=ne_of_none ((s67.trans (s8.trans s9)) _ _ glr6) nl1
      have bbl0:lb ≠ l0:=ne_of_none glb nl0
      have bbl1:lb ≠ l1:=ne_of_none (s9 _ _ glb) nl1
      have bml0:lm ≠ l0:=(ne_of_none (s10 _ _ gl0) nlm).symm
      have bml1:lm ≠ l1:=(ne_of_none gl1 nlm).symm
      have J11:S2 a.C_Slots H11 st c r 10 0 p0 d0 l0 room0 [] [] p1 d1 l1 room1 [] []:=⟨D10.same s11,(B0.same s67).same s711,B1.same s711,⟨[],(s10.trans s11) _ _ gl0,.nil⟩,⟨[],s11 _ _ gl1,.nil⟩,rl_nil,rl_nil,Nat.le_refl _,Nat.le_refl _⟩
      have glr11:=(s67.trans s711) _ _ glr6
      have glb11:=s811 _ _ glb
      clear B0 B1 kp0 kp1 nd0 nd1
      walk_at "rs"
      refine rd_seq ?_
      walk_at "rs"
      refine ⟨st,c,r,_,31,rfl,J11.dk,by omega,by decide,by decide,fun v12 H12 a12 b12 D12 x12=>?_⟩
      have J12:=J11.take D12 x12 dl0 dl1
      have glr12:=x12 _ _ glr11 (nin_pr dlr)
      have glb12:=x12 _ _ glb11 (nin_pr dlb)
      have glm12:=x12 _ _ glm (nin_pr dlm)
      walk_at "rs"
      refine ⟨by omega,by omega,?_⟩
      refine for_rangeW (fun i σ' H'=>∃ (o5 o6 o7:Option V) (qs0 ks0 qs1 ks1:List (Int×Int)),σ' = [some (.ref p),some (.ref st),some (.ref lr),some (.ref lb),some (.ref lm),o5,o6,o7,none,none,none]∧S2 a.C_Slots H' st c r (11 + 40 * i) i p0 d0 l0 room0 qs0 ks0 p1 d1 l1 room1 qs1 ks1∧H' lr=some (.lst [.int room0,.int room1])∧H' lb=some (.lst [.ref p0,.ref p1])∧H' lm=some (.lst [.ref l0,.ref l1])) ?_ ?_ ?_
      · exact ⟨none,none,none,[],[],[],[],rfl,J12.mono (by omega) (Nat.le_refl _),glr12,glb12,glm12⟩
      · rintro i σ' H' hi ⟨o5,o6,o7,qs0,ks0,qs1,ks1,rfl,J,glr',glb',glm'⟩
        have hi40:i < 34:=by have:i < (4 + v12).toNat:=hi; omega
        refine rd_name ?_
        refine rd_seq ?_
        walk_at "rs"
        refine ⟨st,c,r,_,2,rfl,J.dk,by omega,by decide,by decide,fun kk G1 c1 k1 T1 y1=>?_⟩
        have J1:=J.take T1 y1 dl0 dl1
        have glr1:=y1 _ _ glr' (nin_pr dlr)
        have glb1:=y1 _ _ glb' (nin_pr dlb)
        have glm1:=y1 _ _ glm' (nin_pr dlm)
        have q0:=J1.q0
        have q1:=J1.q1
        walk_at "rs"
        refine rd_seqK (fun σ' H'=>∃ (o5 o6 o7:Option V) (qs0 ks0 qs1 ks1:List (Int×Int)),σ' = [some (.ref p),some (.ref st),some (.ref lr),some (.ref lb),some (.ref lm),o5,o6,o7,none,none,none]∧S2 a.C_Slots H' st c r (11 + 40 * i + 1 + 31) (i + 1) p0 d0 l0 room0 qs0 ks0 p1 d1 l1 room1 qs1 ks1∧H' lr=some (.lst [.int room0,.int room1])∧H' lb=some (.lst [.ref p0,.ref p1])∧H' lm=some (.lst [.ref l0,.ref l1])) ?_ ?_
        · clear J J1 glr' glb' glm' glr1 glb1 glm1 T1 y1 q0 q1
          rintro σ' H' ⟨o5,o6,o7,qs0,ks0,qs1,ks1,rfl,J,glr',glb',glm'⟩
          have q0:=J.q0
          have q1:=J.q1
          refine rd_seq ?_
          walk_at "rs"
          refine ⟨p0,d0,l0,room0,qs0,ks0,rfl,J.s0,by omega,J.m0,J.r0,fun H2' s2'=>?_⟩
          have J2:=J.same s2'
          have glr2:=s2' _ _ glr'
          have glb2:=s2' _ _ glb'
          have glm2:=s2' _ _ glm'
          walk_at "rs"
          refine ⟨p1,d1,l1,room1,qs1,ks1,rfl,J2.s1,by omega,J2.m1,J2.r1,fun H3' s3'=>?_⟩
          have J3:=J2.same s3'
          have glr3:=s3' _ _ glr2
          have glb3:=s3' _ _ glb2
          have glm3:=s3' _ _ glm2
          walk_at "rs"
          have lk0:ks0.length=qs0.length:=(J3.r0.perm J3.s0.nd).length_eq
          have lk1:ks1.length=qs1.length:=(J3.r1.perm J3.s1.nd).length_eq
          refine rd_seqK (fun σ' H'=>∃ (o5 o6:Option V),σ' = [some (.ref p),some (.ref st),some (.ref lr),some (.ref lb),some (.ref lm),o5,o6,some (.bl (decide (room0=room1) && decide (srtP ks0=srtP ks1))),none,none,none]∧Same H3' H') ?_ ?_
          · rintro σ' H4' ⟨o5,o6,rfl,s4'⟩
            have J4:=J3.same s4'
            have glr4:=s4' _ _ glr3
            have glb4:=s4' _ _ glb3
            have glm4:=s4' _ _ glm3
            obtain ⟨⟨dx0,h0⟩,_,_⟩:=id J4.s0
            obtain ⟨⟨dx1,h1⟩,_,_⟩:=id J4.s1
            have E1:(decide (room0=room1) && eqI qs0 qs1)=(decide (room0=room1) && decide (srtP ks0=srtP ks1)):=by rw [eqI_srt J4.s0.nd J4.s1.nd J4.r0 J4.r1]
            have E2:(decide (room1=room0) && eqI qs1 qs0)=(decide (room0=room1) && decide (srtP ks0=srtP ks1)):=by
              rw [eqI_srt J4.s1.nd J4.s0.nd J4.r1 J4.r0]
              rw [show decide (room1=room0)=decide (room0=room1) by simp [eq_comm],show decide (srtP ks1=srtP ks0)=decide (srtP ks0=srtP ks1) by simp [eq_comm]]
            walk_at "rs"
            refine ⟨p0,_,_,rfl,h0,⟨p1,rfl,.inl ⟨_,_,h1⟩⟩,?_⟩
            refine ⟨p0,d0,p1,room0,qs0,rfl,J4.s0,.inl ⟨d1,room1,qs1,J4.s1,_,rfl,?_⟩⟩
            rw [E1]
            walk_at "rs"
            refine ⟨p1,_,_,rfl,h1,⟨p0,rfl,.inl ⟨_,_,h0⟩⟩,?_⟩
            refine ⟨p1,d1,p0,room1,qs1,rfl,J4.s1,.inl ⟨d0,room0,qs0,J4.s0,_,rfl,?_⟩⟩
            rw [E2]
            generalize (decide (room0=room1) && decide (srtP ks0=srtP ks1))=bb
            walk_at "rs"
            refine ⟨sz (by simp),fun l4 H5' n4 s5' g4=>?_⟩
            walk_at "rs"
            refine ⟨sz (by simp),fun l5 H6' n5 s6' g5=>?_⟩
            refine ⟨[],.ref l4,.ref l5,.list [.bool bb,.bool (!bb)],rfl,.lst (SqL.of (s6' _ _ g4)) (by simp) (.cons (.bl _) (.cons (.bl _) .nil)),.lst (SqL.of g5) (by simp) (.cons (.bl _) (.cons (.bl _) .nil)),.inr ⟨_,rfl,by simp [Mt.tupBAll,Mt.tupB]⟩,by simp [PyData.depth,PyData.depthAll],fun H7' s7'=>?_⟩
            have s47:=s5'.trans (s6'.trans s7')
            walk_at "rs"
            exact ⟨_,_,_,_,_,_,_,rfl,(J4.same s47).mono (by omega) (Nat.le_refl _),s47 _ _ glr4,s47 _ _ glb4,s47 _ _ glm4⟩
          · intro hrest
            walk_at "rs"
            have e1:decide (V.int room0=V.int room1)=decide (room0=room1):=by simp
            rw [e1]
            refine rd_ite2 (fun hc=>?_) (fun hc=>?_)
            · obtain ⟨as0,g0,pr0⟩:=id J3.m0
              walk_at "rs"
              refine ⟨l0,as0,ks0,rfl,g0,pr0,by omega,fun l4 bs4 H4' n4 s4' pr4 g4=>?_⟩
              obtain ⟨as1,g1,pr1⟩:=(J3.same s4').m1
              have glm4:=s4' _ _ glm3
              walk_at "rs"
              refine ⟨l1,as1,ks1,rfl,g1,pr1,by omega,fun l5 bs5 H5' n5 s5' pr5 g5=>?_⟩
              have pr4':=pr4.tk (TK.same s5')
              refine rd_eqD (N:=[]) (d:=.list ((srtP ks0).map pairD)) (e:=.list ((srtP ks1).map pairD)) (.lst (SqL.of (s5' _ _ g4)) (by simp) pr4'.dt) (.lst (SqL.of g5) (by simp) pr5.dt) (prs_shaped _) (prs_shaped _) ?_
              rw [show PyData.eqv (.list ((srtP ks0).map pairD)) (.list ((srtP ks1).map pairD))=decide (srtP ks0=srtP ks1) from eqv_pairs _ _]
              refine rd_name ?_
              refine hrest _ _ ⟨o5,o6,?_,s4'.trans s5'⟩
              rw [hc,Bool.true_and]
              rfl
            · refine rd_name ?_
              refine hrest _ _ ⟨o5,o6,?_,Same.refl _⟩
              rw [hc,Bool.false_and]
              rfl
        · intro hrest
          walk_at "rs"
          rcases (show kk=0∨kk=1 by omega) with rfl | rfl
          · walk_at "rs"
            refine ⟨st,c,r,_,p0,d0,l0,room0,qs0,ks0,rfl,J1.dk,by omega,J1.s0,by omega,ra0,rb0,J1.m0,dl0,J1.r0,fun H2' qs' ks' D S M R h2 x=>?_⟩
            obtain ⟨as0,g0,_⟩:=id J1.m0
            have J2:=J1.deed n01.symm l01.symm dl1 D S M R h2 x
            walk_at "rs"
            exact hrest _ _ ⟨_,_,_,_,_,_,_,rfl,J2,s2_lst J1.s0.dc glr1 dlr brl0 x,s2_lst J1.s0.dc glb1 dlb bbl0 x,s2_lst J1.s0.dc glm1 dlm bml0 x⟩
          · walk_at "rs"
            refine ⟨st,c,r,_,p1,d1,l1,room1,qs1,ks1,rfl,J1.dk,by omega,J1.s1,by omega,ra1,rb1,J1.m1,dl1,J1.r1,fun H2' qs' ks' D S M R h2 x=>?_⟩
            have J2:=(J1.swap.deed n01 l01 dl0 D S M R h2 x).swap
            walk_at "rs"
            exact hrest _ _ ⟨_,_,_,_,_,_,_,rfl,J2,s2_lst J1.s1.dc glr1 dlr brl1 x,s2_lst J1.s1.dc glb1 dlb bbl1 x,s2_lst J1.s1.dc glm1 dlm bml1 x⟩
      · rintro σ' H' ⟨o5,o6,o7,qs0,ks0,qs1,ks1,rfl,J,glr',glb',glm'⟩
        have hn:(4 + v12).toNat ≤ 34:=by omega
        have q0:=J.q0
        have lk0:ks0.length=qs0.length:=(J.r0.perm J.s0.nd).length_eq
        refine rd_seq ?_
        walk_at "rs"
        refine rd_seq ?_
        walk_at "rs"
        intro p2 x2 np2 nx2 ne2
        refine ⟨[],p2,x2,.int room0,.int room0,rfl,upd_same,.int room0,.inr ⟨room0,rfl,ra0,rb0,fun d2 T2 nd2 B2 kp2=>⟨rfl,?_⟩⟩⟩
        have s2:Same H' T2:=fun b o e=>kp2 b o (by rw [upd_ne (ne_of_none e np2),upd_ne (ne_of_none e nx2)]; exact e) (ne_of_none e np2)
        have nd2':H' d2=none:=by
          cases e:H' d2 with
          | none=>rfl
          | some u=>rw [upd_ne (ne_of_none e np2),upd_ne (ne_of_none e nx2),e] at nd2; cases nd2
        have z0:d0 ≠ d2:=ne_of_none J.s0.dc nd2'
        have z1:d1 ≠ d2:=ne_of_none J.s1.dc nd2'
        have J2:=J.same s2
        have glr2:=s2 _ _ glr'
        have glb2:=s2 _ _ glb'
        have glm2:=s2 _ _ glm'
        obtain ⟨as0,g0,pr0⟩:=id J2.m0
        walk_at "rs"
        refine rd_seq ?_
        walk_at "rs"
        refine ⟨l0,rfl,⟨_,SqL.of g0⟩,?_⟩
        refine for_listW (K:=K) (xs:=as0.map V.ref) (fun j σ' H''=>∃ (o9 o10:Option V) (tw:List (Int×Int)),σ' = [some (.ref p),some (.ref st),some (.ref lr),some (.ref lb),some (.ref lm),o5,o6,o7,some (.ref p2),o9,o10]∧SlAt a.C_Slots H'' p2 d2 room0 tw∧(∀ z,lookI tw z=lookI (ks0.take j) z)∧tw.length ≤ j∧S2 a.C_Slots H'' st c r (11 + 40 * (4 + v12).toNat) (4 + v12).toNat p0 d0 l0 room0 qs0 ks0 p1 d1 l1 room1 qs1 ks1∧PrL H'' as0 ks0∧H'' l0=some (.lst (as0.map V.ref))∧H'' lr=some (.lst [.int room0,.int room1])∧H'' lb=some (.lst [.ref p0,.ref p1])∧H'' lm=some (.lst [.ref l0,.ref l1])) ?_ ?_ ?_ ?_
        · exact ⟨none,none,[],rfl,B2,fun z=>rfl,Nat.le_refl _,J2,pr0,g0,glr2,glb2,glm2⟩
        · rintro j σ' H'' _ ⟨_,_,_,_,_,_,_,_,_,h,_⟩
          exact SqL.of h
        · rintro j x σ' H'' hx ⟨o9,o10,tw,rfl,Bt,look,ltw,Jt,prt,gt,glrt,glbt,glmt⟩
          have hj:j < as0.length:=by have:=(List.getElem?_eq_some_iff.mp hx).1; simpa using this
          have lp:=prt.len
          rw [List.getElem?_map,List.getElem?_eq_getElem hj] at hx
          cases hx
          have hkj:ks0[j]? = some (ks0[j]'(by omega)):=List.getElem?_eq_getElem (by omega)
          generalize ks0[j]'(by omega)=kj at hkj
          obtain ⟨b,hb1,hb2⟩:=paired_at prt hkj
          rw [List.getElem?_eq_getElem hj] at hb1; cases hb1
          have bnd:=Jt.r0.bd kj (List.mem_of_getElem? hkj)
          refine rd_tupT (SqT.of hb2) rfl ?_
          walk_at "rs"
          obtain ⟨⟨dxt,ht⟩,hdt,_⟩:=id Bt
          refine ⟨p2,_,_,rfl,ht,slF_no _ _ (by decide +kernel) (by decide +kernel),?_⟩
          walk_at "rs"
          refine ⟨[],p2,d2,room0,tw,.int kj.1,.int kj.2,.int kj.1,.int kj.2,rfl,Bt,by omega,.int _,.int _,.inr (.inr ⟨kj.1,kj.2,rfl,rfl,bnd.1,bnd.2.1,bnd.2.2.1,bnd.2.2.2,fun tw' H5 B5 look5 l5 x5=>?_⟩)⟩
          have keep:∀ {b:Addr}{xs:List V},H'' b=some (.lst xs)→H5 b=some (.lst xs):=fun h=>x5 _ _ h (by simpa using ne_of h hdt (by intro z; cases z))
          walk_at "rs"
          refine ⟨_,_,tw',rfl,B5,fun z=>?_,by omega,Jt.dict x5 hdt z0 z1,prt.tk (TK.dict x5 hdt),keep gt,keep glrt,keep glbt,keep glmt⟩
          rw [look5,look_take Jt.r0.nd hkj,look]
        · rintro σ' H'' ⟨o9,o10,tw,rfl,Bt,look,ltw,Jt,prt,gt,glrt,glbt,glmt⟩
          have lp:=prt.len
          rw [List.length_map,lp,List.take_length] at look
          have Rt:Rl tw ks0:=⟨Jt.r0.nd,fun z=>(look z).symm,Jt.r0.bd⟩
          have ET:(decide (room0=room0) && eqI tw qs0)=true:=by
            rw [show decide (room0=room0)=true by simp,Bool.true_and,eqI_iff Bt.nd Jt.s0.nd]
            exact (Rt.perm Bt.nd).symm.trans (Jt.r0.perm Jt.s0.nd)
          obtain ⟨⟨dxt,ht⟩,_,_⟩:=id Bt
          obtain ⟨⟨dx0',h0'⟩,_,_⟩:=id Jt.s0
          walk_at "rs"
          refine rd_seq ?_
          walk_at "rs"
          refine ⟨p2,_,_,rfl,ht,⟨p0,rfl,.inl ⟨_,_,h0'⟩⟩,?_⟩
          refine ⟨p2,d2,p0,room0,tw,rfl,Bt,.inl ⟨d0,room0,qs0,Jt.s0,_,rfl,?_⟩⟩
          rw [ET]
          walk_at "rs"
          refine ⟨p0,_,_,rfl,h0',slF_no _ _ (by decide +kernel) (by decide +kernel),?_⟩
          walk_at "rs"
          refine ⟨p0,d0,room0,qs0,rfl,Jt.s0,by omega,fun t6 o6' ws6 ps6 T6 n6 do6 g6 pv6 ih6 s6=>?_⟩
          have J6:=Jt.same s6
          obtain ⟨⟨dx6,h6⟩,_,_⟩:=id J6.s0
          have q6:SqT K T6 t6 ws6:=.inl (.inr ⟨o6',g6⟩)
          refine ⟨p0,_,_,rfl,h6,⟨t6,rfl,.inr (.inl ⟨⟨_,q6⟩,T.nt_Slots⟩)⟩,?_⟩
          refine ⟨p0,d0,t6,room0,qs0,rfl,J6.s0,.inr ⟨⟨_,q6⟩,_,rfl,?_⟩⟩
          walk_at "rs"
          exact ⟨st,c,r,_,rfl,J6.dk,by omega,fun H9'=>k _⟩
    · intro hrest
      walk_at "rs"
      refine ⟨st,c,r,_,2,rfl,D4,by omega,by decide,by decide,fun v5 H5 a5 b5 D5 x5=>?_⟩
      have glr5:=x5 _ _ glr (nin_pr dlr)
      walk_at "rs"
      refine rd_ite2 (fun hc=>?_) (fun hc=>?_)
      · walk_at "rs"
        exact hrest _ _ ⟨room0,rfl,ra0,rb0,upd_same,(D5.upd dlr).mono (by omega)⟩
      · refine rd_next ?_
        exact hrest _ _ ⟨roomZ,rfl,raZ,rbZ,glr5,D5.mono (by omega)⟩
end
theorem txt_mk {P:Program}{K:PySem.W.Frag}{h:Heap}{mg:Str→Option Value}(X:K.In h) (G:h.Ns mainGlobals mg)
    {f_is_number:Addr}{od_is_number an_is_number:Option Addr}{sl_is_number:Array (Option Value)}{oc_is_number kV_is_number dc_is_number pm_is_number cd_is_number ct_is_number:Value}
    {f_is_within:Addr}{od_is_within an_is_within:Option Addr}{sl_is_within:Array (Option Value)}{oc_is_within kV_is_within dc_is_within pm_is_within cd_is_within ct_is_within:Value}
    {f_require_within:Addr}{od_require_within an_require_within:Option Addr}{sl_require_within:Array (Option Value)}{oc_require_within kV_require_within dc_require_within pm_require_within cd_require_within ct_require_within:Value}
    {f_is_place:Addr}{od_is_place an_is_place:Option Addr}{sl_is_place:Array (Option Value)}{oc_is_place kV_is_place dc_is_place pm_is_place cd_is_place ct_is_place:Value}
    {f_require_place:Addr}{od_require_place an_require_place:Option Addr}{sl_require_place:Array (Option Value)}{oc_require_place kV_require_place dc_require_place pm_require_place cd_require_place ct_require_place:Value}
    {f_is_house:Addr}{od_is_house an_is_house:Option Addr}{sl_is_house:Array (Option Value)}{oc_is_house kV_is_house dc_is_house pm_is_house cd_is_house ct_is_house:Value}
    {f_require_house:Addr}{od_require_house an_require_house:Option Addr}{sl_require_house:Array (Option Value)}{oc_require_house kV_require_house dc_require_house pm_require_house cd_require_house ct_require_house:Value}
    {f_require_room:Addr}{od_require_room an_require_room:Option Addr}{sl_require_room:Array (Option Value)}{oc_require_room kV_require_room dc_require_room pm_require_room cd_require_room ct_require_room:Value}
    {f_cut_of:Addr}{od_cut_of an_cut_of:Option Addr}{sl_cut_of:Array (Option Value)}{oc_cut_of kV_cut_of dc_cut_of pm_cut_of cd_cut_of ct_cut_of:Value}
    {f_Slots_init:Addr}{od_Slots_init an_Slots_init:Option Addr}{sl_Slots_init:Array (Option Value)}{oc_Slots_init kV_Slots_init dc_Slots_init pm_Slots_init cd_Slots_init ct_Slots_init:Value}
    {f_Slots_hold:Addr}{od_Slots_hold an_Slots_hold:Option Addr}{sl_Slots_hold:Array (Option Value)}{oc_Slots_hold kV_Slots_hold dc_Slots_hold pm_Slots_hold cd_Slots_hold ct_Slots_hold:Value}
    {f_Slots_anew:Addr}{od_Slots_anew an_Slots_anew:Option Addr}{sl_Slots_anew:Array (Option Value)}{oc_Slots_anew kV_Slots_anew dc_Slots_anew pm_Slots_anew cd_Slots_anew ct_Slots_anew:Value}
    {f_Slots_free:Addr}{od_Slots_free an_Slots_free:Option Addr}{sl_Slots_free:Array (Option Value)}{oc_Slots_free kV_Slots_free dc_Slots_free pm_Slots_free cd_Slots_free ct_Slots_free:Value}
    {f_Slots_held:Addr}{od_Slots_held an_Slots_held:Option Addr}{sl_Slots_held:Array (Option Value)}{oc_Slots_held kV_Slots_held dc_Slots_held pm_Slots_held cd_Slots_held ct_Slots_held:Value}
    {f_Slots_cut_for:Addr}{od_Slots_cut_for an_Slots_cut_for:Option Addr}{sl_Slots_cut_for:Array (Option Value)}{oc_Slots_cut_for kV_Slots_cut_for dc_Slots_cut_for pm_Slots_cut_for cd_Slots_cut_for ct_Slots_cut_for:Value}
    {f_Slots___len:Addr}{od_Slots___len an_Slots___len:Option Addr}{sl_Slots___len:Array (Option Value)}{oc_Slots___len kV_Slots___len dc_Slots___len pm_Slots___len cd_Slots___len ct_Slots___len:Value}
    {f_Slots___eq:Addr}{od_Slots___eq an_Slots___eq:Option Addr}{sl_Slots___eq:Array (Option Value)}{oc_Slots___eq kV_Slots___eq dc_Slots___eq pm_Slots___eq cd_Slots___eq ct_Slots___eq:Value}
    {f_law_deck:Addr}{od_law_deck an_law_deck:Option Addr}{sl_law_deck:Array (Option Value)}{oc_law_deck kV_law_deck dc_law_deck pm_law_deck cd_law_deck ct_law_deck:Value}
    {f_law_take:Addr}{od_law_take an_law_take:Option Addr}{sl_law_take:Array (Option Value)}{oc_law_take kV_law_take dc_law_take pm_law_take cd_law_take ct_law_take:Value}
    {f_law_same:Addr}{od_law_same an_law_same:Option Addr}{sl_law_same:Array (Option Value)}{oc_law_same kV_law_same dc_law_same pm_law_same cd_law_same ct_law_same:Value}
    {f_law_names:Addr}{od_law_names an_law_names:Option Addr}{sl_law_names:Array (Option Value)}{oc_law_names kV_law_names dc_law_names pm_law_names cd_law_names ct_law_names:Value}
    {f_law_caught:Addr}{od_law_caught an_law_caught:Option Addr}{sl_law_caught:Array (Option Value)}{oc_law_caught kV_law_caught dc_law_caught pm_law_caught cd_law_caught ct_law_caught:Value}
    {f_law_refused:Addr}{od_law_refused an_law_refused:Option Addr}{sl_law_refused:Array (Option Value)}{oc_law_refused kV_law_refused dc_law_refused pm_law_refused cd_law_refused ct_law_refused:Value}
    {f_law_place:Addr}{od_law_place an_law_place:Option Addr}{sl_law_place:Array (Option Value)}{oc_law_place kV_law_place dc_law_place pm_law_place cd_law_place ct_law_place:Value}
    {f_law_odd:Addr}{od_law_odd an_law_odd:Option Addr}{sl_law_odd:Array (Option Value)}{oc_law_odd kV_law_odd dc_law_odd pm_law_odd cd_law_odd ct_law_odd:Value}
    {f_law_wrong:Addr}{od_law_wrong an_law_wrong:Option Addr}{sl_law_wrong:Array (Option Value)}{oc_law_wrong kV_law_wrong dc_law_wrong pm_law_wrong cd_law_wrong ct_law_wrong:Value}
    {f_law_cuts:Addr}{od_law_cuts an_law_cuts:Option Addr}{sl_law_cuts:Array (Option Value)}{oc_law_cuts kV_law_cuts dc_law_cuts pm_law_cuts cd_law_cuts ct_law_cuts:Value}
    {f_law_put:Addr}{od_law_put an_law_put:Option Addr}{sl_law_put:Array (Option Value)}{oc_law_put kV_law_put dc_law_put pm_law_put cd_law_put ct_law_put:Value}
    {f_law_deed:Addr}{od_law_deed an_law_deed:Option Addr}{sl_law_deed:Array (Option Value)}{oc_law_deed kV_law_deed dc_law_deed pm_law_deed cd_law_deed ct_law_deed:Value}
    {f_law_looks:Addr}{od_law_looks an_law_looks:Option Addr}{sl_law_looks:Array (Option Value)}{oc_law_looks kV_law_looks dc_law_looks pm_law_looks cd_law_looks ct_law_looks:Value}
    {f_law_room:Addr}{od_law_room an_law_room:Option Addr}{sl_law_room:Array (Option Value)}{oc_law_room kV_law_room dc_law_room pm_law_room cd_law_room ct_law_room:Value}
    {f_law_no_room:Addr}{od_law_no_room an_law_no_room:Option Addr}{sl_law_no_room:Array (Option Value)}{oc_law_no_room kV_law_no_room dc_law_no_room pm_law_no_room cd_law_no_room ct_law_no_room:Value}
    {f_law:Addr}{od_law an_law:Option Addr}{sl_law:Array (Option Value)}{oc_law kV_law dc_law pm_law cd_law ct_law:Value}
    {C_LineError:Addr}
    {C_NoCount:Addr}
    {C_NoHouse:Addr}
    {C_NoKey:Addr}
    {C_NoPlace:Addr}
    {C_NoRow:Addr}
    {C_NoRule:Addr}
    {C_Slots:Addr}
    {I_NoCount cda_NoCount cc_NoCount:Addr}{oJ_NoCount aJ_NoCount oK_NoCount oL_NoCount:Option Addr}{sJ_NoCount sK_NoCount sL_NoCount:Array (Option Value)}{kJ_NoCount dJ_NoCount pJ_NoCount tJ_NoCount cK_NoCount cL_NoCount:Value}{vK_NoCount:Array Value}{fi_NoCount:Str}{ti_NoCount:Tok}
    {I_NoHouse cda_NoHouse cc_NoHouse:Addr}{oJ_NoHouse aJ_NoHouse oK_NoHouse oL_NoHouse:Option Addr}{sJ_NoHouse sK_NoHouse sL_NoHouse:Array (Option Value)}{kJ_NoHouse dJ_NoHouse pJ_NoHouse tJ_NoHouse cK_NoHouse cL_NoHouse:Value}{vK_NoHouse:Array Value}{fi_NoHouse:Str}{ti_NoHouse:Tok}
    {I_NoPlace cda_NoPlace cc_NoPlace:Addr}{oJ_NoPlace aJ_NoPlace oK_NoPlace oL_NoPlace:Option Addr}{sJ_NoPlace sK_NoPlace sL_NoPlace:Array (Option Value)}{kJ_NoPlace dJ_NoPlace pJ_NoPlace tJ_NoPlace cK_NoPlace cL_NoPlace:Value}{vK_NoPlace:Array Value}{fi_NoPlace:Str}{ti_NoPlace:Tok}
    {u_HOUSES:Value}
    {u_LAST_PLACE:Value}
    {u_MOST_ROOM:Value}
    (a_is_number:PySem.W.nsIn K mainGlobals "is_number" = some (some (.ref f_is_number)))
    (l_is_number:K.lookup f_is_number=some ⟨oc_is_number,od_is_number,.func (PySem.W.fnOf "is_number" "is_number" (defArgs s_is_number) (defBody s_is_number) (defScope s_is_number) .none kV_is_number dc_is_number pm_is_number an_is_number cd_is_number ct_is_number),sl_is_number⟩)
    (c_is_number:PySem.W.codeIn K cd_is_number "is_number" = true)
    (k_is_number:PySem.W.keepIn K (.ref f_is_number)=true)
    (a_is_within:PySem.W.nsIn K mainGlobals "is_within" = some (some (.ref f_is_within)))
    (l_is_within:K.lookup f_is_within=some ⟨oc_is_within,od_is_within,.func (PySem.W.fnOf "is_within" "is_within" (defArgs s_is_within) (defBody s_is_within) (defScope s_is_within) .none kV_is_within dc_is_within pm_is_within an_is_within cd_is_within ct_is_within),sl_is_within⟩)
    (c_is_within:PySem.W.codeIn K cd_is_within "is_within" = true)
    (k_is_within:PySem.W.keepIn K (.ref f_is_within)=true)
    (a_require_within:PySem.W.nsIn K mainGlobals "require_within" = some (some (.ref f_require_within)))
    (l_require_within:K.lookup f_require_within=some ⟨oc_require_within,od_require_within,.func (PySem.W.fnOf "require_within" "require_within" (defArgs s_require_within) (defBody s_require_within) (defScope s_require_within) .none kV_require_within dc_require_within pm_require_within an_require_within cd_require_within ct_require_within),sl_require_within⟩)
    (c_require_within:PySem.W.codeIn K cd_require_within "require_within" = true)
    (k_require_within:PySem.W.keepIn K (.ref f_require_within)=true)
    (a_is_place:PySem.W.nsIn K mainGlobals "is_place" = some (some (.ref f_is_place)))
    (l_is_place:K.lookup f_is_place=some ⟨oc_is_place,od_is_place,.func (PySem.W.fnOf "is_place" "is_place" (defArgs s_is_place) (defBody s_is_place) (defScope s_is_place) .none kV_is_place dc_is_place pm_is_place an_is_place cd_is_place ct_is_place),sl_is_place⟩)
    (c_is_place:PySem.W.codeIn K cd_is_place "is_place" = true)
    (k_is_place:PySem.W.keepIn K (.ref f_is_place)=true)
    (a_require_place:PySem.W.nsIn K mainGlobals "require_place" = some (some (.ref f_require_place)))
    (l_require_place:K.lookup f_require_place=some ⟨oc_require_place,od_require_place,.func (PySem.W.fnOf "require_place" "require_place" (defArgs s_require_place) (defBody s_require_place) (defScope s_require_place) .none kV_require_place dc_require_place pm_require_place an_require_place cd_require_place ct_require_place),sl_require_place⟩)
    (c_require_place:PySem.W.codeIn K cd_require_place "require_place" = true)
    (k_require_place:PySem.W.keepIn K (.ref f_require_place)=true)
    (a_is_house:PySem.W.nsIn K mainGlobals "is_house" = some (some (.ref f_is_house)))
    (l_is_house:K.lookup f_is_house=some ⟨oc_is_house,od_is_house,.func (PySem.W.fnOf "is_house" "is_house" (defArgs s_is_house) (defBody s_is_house) (defScope s_is_house) .none kV_is_house dc_is_house pm_is_house an_is_house cd_is_house ct_is_house),sl_is_house⟩)
    (c_is_house:PySem.W.codeIn K cd_is_house "is_house" = true)
    (k_is_house:PySem.W.keepIn K (.ref f_is_house)=true)
    (a_require_house:PySem.W.nsIn K mainGlobals "require_house" = some (some (.ref f_require_house)))
    (l_require_house:K.lookup f_require_house=some ⟨oc_require_house,od_require_house,.func (PySem.W.fnOf "require_house" "require_house" (defArgs s_require_house) (defBody s_require_house) (defScope s_require_house) .none kV_require_house dc_require_house pm_require_house an_require_house cd_require_house ct_require_house),sl_require_house⟩)
    (c_require_house:PySem.W.codeIn K cd_require_house "require_house" = true)
    (k_require_house:PySem.W.keepIn K (.ref f_require_house)=true)
    (a_require_room:PySem.W.nsIn K mainGlobals "require_room" = some (some (.ref f_require_room)))
    (l_require_room:K.lookup f_require_room=some ⟨oc_require_room,od_require_room,.func (PySem.W.fnOf "require_room" "require_room" (defArgs s_require_room) (defBody s_require_room) (defScope s_require_room) .none kV_require_room dc_require_room pm_require_room an_require_room cd_require_room ct_require_room),sl_require_room⟩)
    (c_require_room:PySem.W.codeIn K cd_require_room "require_room" = true)
    (k_require_room:PySem.W.keepIn K (.ref f_require_room)=true)
    (a_cut_of:PySem.W.nsIn K mainGlobals "cut_of" = some (some (.ref f_cut_of)))
    (l_cut_of:K.lookup f_cut_of=some ⟨oc_cut_of,od_cut_of,.func (PySem.W.fnOf "cut_of" "cut_of" (defArgs s_cut_of) (defBody s_cut_of) (defScope s_cut_of) .none kV_cut_of dc_cut_of pm_cut_of an_cut_of cd_cut_of ct_cut_of),sl_cut_of⟩)
    (c_cut_of:PySem.W.codeIn K cd_cut_of "cut_of" = true)
    (k_cut_of:PySem.W.keepIn K (.ref f_cut_of)=true)
    (a_Slots_init:PySem.W.findIn K (.ref C_Slots) "__init__" = some (some (.ref f_Slots_init)))
    (i_Slots_init:PySem.W.isFn K (.ref f_Slots_init)=true)
    (l_Slots_init:K.lookup f_Slots_init=some ⟨oc_Slots_init,od_Slots_init,.func (PySem.W.fnOf "__init__" "Slots.__init__" (defArgs s_Slots_init) (defBody s_Slots_init) (defScope s_Slots_init) .none kV_Slots_init dc_Slots_init pm_Slots_init an_Slots_init cd_Slots_init ct_Slots_init),sl_Slots_init⟩)
    (c_Slots_init:PySem.W.codeIn K cd_Slots_init "Slots.__init__" = true)
    (k_Slots_init:PySem.W.keepIn K (.ref f_Slots_init)=true)
    (a_Slots_hold:PySem.W.findIn K (.ref C_Slots) "hold" = some (some (.ref f_Slots_hold)))
    (i_Slots_hold:PySem.W.isFn K (.ref f_Slots_hold)=true)
    (l_Slots_hold:K.lookup f_Slots_hold=some ⟨oc_Slots_hold,od_Slots_hold,.func (PySem.W.fnOf "hold" "Slots.hold" (defArgs s_Slots_hold) (defBody s_Slots_hold) (defScope s_Slots_hold) .none kV_Slots_hold dc_Slots_hold pm_Slots_hold an_Slots_hold cd_Slots_hold ct_Slots_hold),sl_Slots_hold⟩)
    (c_Slots_hold:PySem.W.codeIn K cd_Slots_hold "Slots.hold" = true)
    (k_Slots_hold:PySem.W.keepIn K (.ref f_Slots_hold)=true)
    (a_Slots_anew:PySem.W.findIn K (.ref C_Slots) "anew" = some (some (.ref f_Slots_anew)))
    (i_Slots_anew:PySem.W.isFn K (.ref f_Slots_anew)=true)
    (l_Slots_anew:K.lookup f_Slots_anew=some ⟨oc_Slots_anew,od_Slots_anew,.func (PySem.W.fnOf "anew" "Slots.anew" (defArgs s_Slots_anew) (defBody s_Slots_anew) (defScope s_Slots_anew) .none kV_Slots_anew dc_Slots_anew pm_Slots_anew an_Slots_anew cd_Slots_anew ct_Slots_anew),sl_Slots_anew⟩)
    (c_Slots_anew:PySem.W.codeIn K cd_Slots_anew "Slots.anew" = true)
    (k_Slots_anew:PySem.W.keepIn K (.ref f_Slots_anew)=true)
    (a_Slots_free:PySem.W.findIn K (.ref C_Slots) "free" = some (some (.ref f_Slots_free)))
    (i_Slots_free:PySem.W.isFn K (.ref f_Slots_free)=true)
    (l_Slots_free:K.lookup f_Slots_free=some ⟨oc_Slots_free,od_Slots_free,.func (PySem.W.fnOf "free" "Slots.free" (defArgs s_Slots_free) (defBody s_Slots_free) (defScope s_Slots_free) .none kV_Slots_free dc_Slots_free pm_Slots_free an_Slots_free cd_Slots_free ct_Slots_free),sl_Slots_free⟩)
    (c_Slots_free:PySem.W.codeIn K cd_Slots_free "Slots.free" = true)
    (k_Slots_free:PySem.W.keepIn K (.ref f_Slots_free)=true)
    (a_Slots_held:PySem.W.findIn K (.ref C_Slots) "held" = some (some (.ref f_Slots_held)))
    (i_Slots_held:PySem.W.isFn K (.ref f_Slots_held)=true)
    (l_Slots_held:K.lookup f_Slots_held=some ⟨oc_Slots_held,od_Slots_held,.func (PySem.W.fnOf "held" "Slots.held" (defArgs s_Slots_held) (defBody s_Slots_held) (defScope s_Slots_held) .none kV_Slots_held dc_Slots_held pm_Slots_held an_Slots_held cd_Slots_held ct_Slots_held),sl_Slots_held⟩)
    (c_Slots_held:PySem.W.codeIn K cd_Slots_held "Slots.held" = true)
    (k_Slots_held:PySem.W.keepIn K (.ref f_Slots_held)=true)
    (a_Slots_cut_for:PySem.W.findIn K (.ref C_Slots) "cut_for" = some (some (.ref f_Slots_cut_for)))
    (i_Slots_cut_for:PySem.W.isFn K (.ref f_Slots_cut_for)=true)
    (l_Slots_cut_for:K.lookup f_Slots_cut_for=some ⟨oc_Slots_cut_for,od_Slots_cut_for,.func (PySem.W.fnOf "cut_for" "Slots.cut_for" (defArgs s_Slots_cut_for) (defBody s_Slots_cut_for) (defScope s_Slots_cut_for) .none kV_Slots_cut_for dc_Slots_cut_for pm_Slots_cut_for an_Slots_cut_for cd_Slots_cut_for ct_Slots_cut_for),sl_Slots_cut_for⟩)
    (c_Slots_cut_for:PySem.W.codeIn K cd_Slots_cut_for "Slots.cut_for" = true)
    (k_Slots_cut_for:PySem.W.keepIn K (.ref f_Slots_cut_for)=true)
    (a_Slots___len:PySem.W.findIn K (.ref C_Slots) "__len__" = some (some (.ref f_Slots___len)))
    (i_Slots___len:PySem.W.isFn K (.ref f_Slots___len)=true)
    (l_Slots___len:K.lookup f_Slots___len=some ⟨oc_Slots___len,od_Slots___len,.func (PySem.W.fnOf "__len__" "Slots.__len__" (defArgs s_Slots___len) (defBody s_Slots___len) (defScope s_Slots___len) .none kV_Slots___len dc_Slots___len pm_Slots___len an_Slots___len cd_Slots___len ct_Slots___len),sl_Slots___len⟩)
    (c_Slots___len:PySem.W.codeIn K cd_Slots___len "Slots.__len__" = true)
    (k_Slots___len:PySem.W.keepIn K (.ref f_Slots___len)=true)
    (a_Slots___eq:PySem.W.findIn K (.ref C_Slots) "__eq__" = some (some (.ref f_Slots___eq)))
    (i_Slots___eq:PySem.W.isFn K (.ref f_Slots___eq)=true)
    (l_Slots___eq:K.lookup f_Slots___eq=some ⟨oc_Slots___eq,od_Slots___eq,.func (PySem.W.fnOf "__eq__" "Slots.__eq__" (defArgs s_Slots___eq) (defBody s_Slots___eq) (defScope s_Slots___eq) .none kV_Slots___eq dc_Slots___eq pm_Slots___eq an_Slots___eq cd_Slots___eq ct_Slots___eq),sl_Slots___eq⟩)
    (c_Slots___eq:PySem.W.codeIn K cd_Slots___eq "Slots.__eq__" = true)
    (k_Slots___eq:PySem.W.keepIn K (.ref f_Slots___eq)=true)
    (a_law_deck:PySem.W.nsIn K mainGlobals "_law_deck" = some (some (.ref f_law_deck)))
    (l_law_deck:K.lookup f_law_deck=some ⟨oc_law_deck,od_law_deck,.func (PySem.W.fnOf "_law_deck" "_law_deck" (defArgs s_law_deck) (defBody s_law_deck) (defScope s_law_deck) .none kV_law_deck dc_law_deck pm_law_deck an_law_deck cd_law_deck ct_law_deck),sl_law_deck⟩)
    (c_law_deck:PySem.W.codeIn K cd_law_deck "_law_deck" = true)
    (k_law_deck:PySem.W.keepIn K (.ref f_law_deck)=true)
    (a_law_take:PySem.W.nsIn K mainGlobals "_law_take" = some (some (.ref f_law_take)))
    (l_law_take:K.lookup f_law_take=some ⟨oc_law_take,od_law_take,.func (PySem.W.fnOf "_law_take" "_law_take" (defArgs s_law_take) (defBody s_law_take) (defScope s_law_take) .none kV_law_take dc_law_take pm_law_take an_law_take cd_law_take ct_law_take),sl_law_take⟩)
    (c_law_take:PySem.W.codeIn K cd_law_take "_law_take" = true)
    (k_law_take:PySem.W.keepIn K (.ref f_law_take)=true)
    (a_law_same:PySem.W.nsIn K mainGlobals "_law_same" = some (some (.ref f_law_same)))
    (l_law_same:K.lookup f_law_same=some ⟨oc_law_same,od_law_same,.func (PySem.W.fnOf "_law_same" "_law_same" (defArgs s_law_same) (defBody s_law_same) (defScope s_law_same) .none kV_law_same dc_law_same pm_law_same an_law_same cd_law_same ct_law_same),sl_law_same⟩)
    (c_law_same:PySem.W.codeIn K cd_law_same "_law_same" = true)
    (k_law_same:PySem.W.keepIn K (.ref f_law_same)=true)
    (a_law_names:PySem.W.nsIn K mainGlobals "_law_names" = some (some (.ref f_law_names)))
    (l_law_names:K.lookup f_law_names=some ⟨oc_law_names,od_law_names,.func (PySem.W.fnOf "_law_names" "_law_names" (defArgs s_law_names) (defBody s_law_names) (defScope s_law_names) .none kV_law_names dc_law_names pm_law_names an_law_names cd_law_names ct_law_names),sl_law_names⟩)
    (c_law_names:PySem.W.codeIn K cd_law_names "_law_names" = true)
    (k_law_names:PySem.W.keepIn K (.ref f_law_names)=true)
    (a_law_caught:PySem.W.nsIn K mainGlobals "_law_caught" = some (some (.ref f_law_caught)))
    (l_law_caught:K.lookup f_law_caught=some ⟨oc_law_caught,od_law_caught,.func (PySem.W.fnOf "_law_caught" "_law_caught" (defArgs s_law_caught) (defBody s_law_caught) (defScope s_law_caught) .none kV_law_caught dc_law_caught pm_law_caught an_law_caught cd_law_caught ct_law_caught),sl_law_caught⟩)
    (c_law_caught:PySem.W.codeIn K cd_law_caught "_law_caught" = true)
    (k_law_caught:PySem.W.keepIn K (.ref f_law_caught)=true)
    (a_law_refused:PySem.W.nsIn K mainGlobals "_law_refused" = some (some (.ref f_law_refused)))
    (l_law_refused:K.lookup f_law_refused=some ⟨oc_law_refused,od_law_refused,.func (PySem.W.fnOf "_law_refused" "_law_refused" (defArgs s_law_refused) (defBody s_law_refused) (defScope s_law_refused) .none kV_law_refused dc_law_refused pm_law_refused an_law_refused cd_law_refused ct_law_refused),sl_law_refused⟩)
    (c_law_refused:PySem.W.codeIn K cd_law_refused "_law_refused" = true)
    (k_law_refused:PySem.W.keepIn K (.ref f_law_refused)=true)
    (a_law_place:PySem.W.nsIn K mainGlobals "_law_place" = some (some (.ref f_law_place)))
    (l_law_place:K.lookup f_law_place=some ⟨oc_law_place,od_law_place,.func (PySem.W.fnOf "_law_place" "_law_place" (defArgs s_law_place) (defBody s_law_place) (defScope s_law_place) .none kV_law_place dc_law_place pm_law_place an_law_place cd_law_place ct_law_place),sl_law_place⟩)
    (c_law_place:PySem.W.codeIn K cd_law_place "_law_place" = true)
    (k_law_place:PySem.W.keepIn K (.ref f_law_place)=true)
    (a_law_odd:PySem.W.nsIn K mainGlobals "_law_odd" = some (some (.ref f_law_odd)))
    (l_law_odd:K.lookup f_law_odd=some ⟨oc_law_odd,od_law_odd,.func (PySem.W.fnOf "_law_odd" "_law_odd" (defArgs s_law_odd) (defBody s_law_odd) (defScope s_law_odd) .none kV_law_odd dc_law_odd pm_law_odd an_law_odd cd_law_odd ct_law_odd),sl_law_odd⟩)
    (c_law_odd:PySem.W.codeIn K cd_law_odd "_law_odd" = true)
    (k_law_odd:PySem.W.keepIn K (.ref f_law_odd)=true)
    (a_law_wrong:PySem.W.nsIn K mainGlobals "_law_wrong" = some (some (.ref f_law_wrong)))
    (l_law_wrong:K.lookup f_law_wrong=some ⟨oc_law_wrong,od_law_wrong,.func (PySem.W.fnOf "_law_wrong" "_law_wrong" (defArgs s_law_wrong) (defBody s_law_wrong) (defScope s_law_wrong) .none kV_law_wrong dc_law_wrong pm_law_wrong an_law_wrong cd_law_wrong ct_law_wrong),sl_law_wrong⟩)
    (c_law_wrong:PySem.W.codeIn K cd_law_wrong "_law_wrong" = true)
    (k_law_wrong:PySem.W.keepIn K (.ref f_law_wrong)=true)
    (a_law_cuts:PySem.W.nsIn K mainGlobals "_law_cuts" = some (some (.ref f_law_cuts)))
    (l_law_cuts:K.lookup f_law_cuts=some ⟨oc_law_cuts,od_law_cuts,.func (PySem.W.fnOf "_law_cuts" "_law_cuts" (defArgs s_law_cuts) (defBody s_law_cuts) (defScope s_law_cuts) .none kV_law_cuts dc_law_cuts pm_law_cuts an_law_cuts cd_law_cuts ct_law_cuts),sl_law_cuts⟩)
    (c_law_cuts:PySem.W.codeIn K cd_law_cuts "_law_cuts" = true)
    (k_law_cuts:PySem.W.keepIn K (.ref f_law_cuts)=true)
    (a_law_put:PySem.W.nsIn K mainGlobals "_law_put" = some (some (.ref f_law_put)))
    (l_law_put:K.lookup f_law_put=some ⟨oc_law_put,od_law_put,.func (PySem.W.fnOf "_law_put" "_law_put" (defArgs s_law_put) (defBody s_law_put) (defScope s_law_put) .none kV_law_put dc_law_put pm_law_put an_law_put cd_law_put ct_law_put),sl_law_put⟩)
    (c_law_put:PySem.W.codeIn K cd_law_put "_law_put" = true)
    (k_law_put:PySem.W.keepIn K (.ref f_law_put)=true)
    (a_law_deed:PySem.W.nsIn K mainGlobals "_law_deed" = some (some (.ref f_law_deed)))
    (l_law_deed:K.lookup f_law_deed=some ⟨oc_law_deed,od_law_deed,.func (PySem.W.fnOf "_law_deed" "_law_deed" (defArgs s_law_deed) (defBody s_law_deed) (defScope s_law_deed) .none kV_law_deed dc_law_deed pm_law_deed an_law_deed cd_law_deed ct_law_deed),sl_law_deed⟩)
    (c_law_deed:PySem.W.codeIn K cd_law_deed "_law_deed" = true)
    (k_law_deed:PySem.W.keepIn K (.ref f_law_deed)=true)
    (a_law_looks:PySem.W.nsIn K mainGlobals "_law_looks" = some (some (.ref f_law_looks)))
    (l_law_looks:K.lookup f_law_looks=some ⟨oc_law_looks,od_law_looks,.func (PySem.W.fnOf "_law_looks" "_law_looks" (defArgs s_law_looks) (defBody s_law_looks) (defScope s_law_looks) .none kV_law_looks dc_law_looks pm_law_looks an_law_looks cd_law_looks ct_law_looks),sl_law_looks⟩)
    (c_law_looks:PySem.W.codeIn K cd_law_looks "_law_looks" = true)
    (k_law_looks:PySem.W.keepIn K (.ref f_law_looks)=true)
    (a_law_room:PySem.W.nsIn K mainGlobals "_law_room" = some (some (.ref f_law_room)))
    (l_law_room:K.lookup f_law_room=some ⟨oc_law_room,od_law_room,.func (PySem.W.fnOf "_law_room" "_law_room" (defArgs s_law_room) (defBody s_law_room) (defScope s_law_room) .none kV_law_room dc_law_room pm_law_room an_law_room cd_law_room ct_law_room),sl_law_room⟩)
    (c_law_room:PySem.W.codeIn K cd_law_room "_law_room" = true)
    (k_law_room:PySem.W.keepIn K (.ref f_law_room)=true)
    (a_law_no_room:PySem.W.nsIn K mainGlobals "_law_no_room" = some (some (.ref f_law_no_room)))
    (l_law_no_room:K.lookup f_law_no_room=some ⟨oc_law_no_room,od_law_no_room,.func (PySem.W.fnOf "_law_no_room" "_law_no_room" (defArgs s_law_no_room) (defBody s_law_no_room) (defScope s_law_no_room) .none kV_law_no_room dc_law_no_room pm_law_no_room an_law_no_room cd_law_no_room ct_law_no_room),sl_law_no_room⟩)
    (c_law_no_room:PySem.W.codeIn K cd_law_no_room "_law_no_room" = true)
    (k_law_no_room:PySem.W.keepIn K (.ref f_law_no_room)=true)
    (a_law:PySem.W.nsIn K mainGlobals "law" = some (some (.ref f_law)))
    (l_law:K.lookup f_law=some ⟨oc_law,od_law,.func (PySem.W.fnOf "law" "law" (defArgs s_law) (defBody s_law) (defScope s_law) .none kV_law dc_law pm_law an_law cd_law ct_law),sl_law⟩)
    (c_law:PySem.W.codeIn K cd_law "law" = true)
    (k_law:PySem.W.keepIn K (.ref f_law)=true)
    (z_ValueError:PySem.W.nsIn K mainGlobals "ValueError" = some none)
    (z_bool:PySem.W.nsIn K mainGlobals "bool" = some none)
    (z_int:PySem.W.nsIn K mainGlobals "int" = some none)
    (z_isinstance:PySem.W.nsIn K mainGlobals "isinstance" = some none)
    (z_len:PySem.W.nsIn K mainGlobals "len" = some none)
    (z_list:PySem.W.nsIn K mainGlobals "list" = some none)
    (z_max:PySem.W.nsIn K mainGlobals "max" = some none)
    (z_min:PySem.W.nsIn K mainGlobals "min" = some none)
    (z_range:PySem.W.nsIn K mainGlobals "range" = some none)
    (z_sorted:PySem.W.nsIn K mainGlobals "sorted" = some none)
    (z_str:PySem.W.nsIn K mainGlobals "str" = some none)
    (z_tuple:PySem.W.nsIn K mainGlobals "tuple" = some none)
    (z_zip:PySem.W.nsIn K mainGlobals "zip" = some none)
    (vC_LineError:PySem.W.nsIn K mainGlobals "LineError" = some (some (.ref C_LineError)))
    (vC_NoCount:PySem.W.nsIn K mainGlobals "NoCount" = some (some (.ref C_NoCount)))
    (vC_NoHouse:PySem.W.nsIn K mainGlobals "NoHouse" = some (some (.ref C_NoHouse)))
    (vC_NoKey:PySem.W.nsIn K mainGlobals "NoKey" = some (some (.ref C_NoKey)))
    (vC_NoPlace:PySem.W.nsIn K mainGlobals "NoPlace" = some (some (.ref C_NoPlace)))
    (vC_NoRow:PySem.W.nsIn K mainGlobals "NoRow" = some (some (.ref C_NoRow)))
    (vC_NoRule:PySem.W.nsIn K mainGlobals "NoRule" = some (some (.ref C_NoRule)))
    (vC_Slots:PySem.W.nsIn K mainGlobals "Slots" = some (some (.ref C_Slots)))
    (pg_Slots:PySem.W.plainGet K C_Slots Str.empty=true)
    (hd_Slots:PySem.W.hasDictIn K C_Slots=true)
    (po_Slots:PySem.W.plainOver K C_Slots=true)
    (sa_Slots:PySem.W.findIn K (.ref C_Slots) "__setattr__" = some (some (.builtin "object.__setattr__")))
    (cc_Slots:PySem.W.findIn K (.ref C_Slots) "__class__" = some (some (.builtin "object.__class__")))
    (cg_Slots:PySem.W.specialIn K (.builtin "object.__class__") "__get__" = some (some (.builtin "getset_descriptor.__get__")))
    (ct_Slots:PySem.W.takesIn K (.builtin "object.__class__")=some true)
    (cm_Slots:PySem.W.mroIn K C_Slots (.type "object")=some true)
    (ko_Slots:PySem.W.kitOne K (.ref C_Slots) (.ref C_Slots)=some true)
    (kt_Slots:PySem.W.kitOne K (.type "tuple") (.ref C_Slots)=some false)
    (kd_Slots:PySem.W.kitOne K (.type "dict") (.ref C_Slots)=some false)
    (nt_Slots:PySem.W.notFirst K C_Slots (.type "tuple")=true)
    (nd_Slots:PySem.W.notFirst K C_Slots (.type "dict")=true)
    (ne_Slots:PySem.W.findIn K (.ref C_Slots) "__ne__" = some (some (.builtin "object.__ne__")))
    (na_Slots_places:PySem.W.findIn K (.ref C_Slots) "places" = some none)
    (na_Slots_room:PySem.W.findIn K (.ref C_Slots) "room" = some none)
    (mk_Slots:PySem.W.makesIn K C_Slots=true)
    (kc_Slots:PySem.W.keepIn K (.ref C_Slots)=true)
    (zsu:PySem.W.nsIn K mainGlobals "super" = some none)
    (ztp:(P.main.scope.names.lookup ("super":Str)).isSome=false)
    (fI_NoCount:PySem.W.findIn K (.ref C_NoCount) "__init__" = some (some (.ref I_NoCount)))
    (lI_NoCount:K.lookup I_NoCount=some ⟨.type "function",oJ_NoCount,.func (PySem.W.ksFn "__init__" "NoCount.__init__" (defArgs t_NoCount) (defBody t_NoCount) (defScope t_NoCount) .none kJ_NoCount dJ_NoCount pJ_NoCount aJ_NoCount (.ref cda_NoCount) tJ_NoCount cc_NoCount),sJ_NoCount⟩)
    (cI_NoCount:PySem.W.codeIn K (.ref cda_NoCount) "NoCount.__init__" = true)
    (hI_NoCount:K.lookup cda_NoCount=some ⟨cK_NoCount,oK_NoCount,.fields vK_NoCount,sK_NoCount⟩)
    (vI_NoCount:vK_NoCount[2]? = some (.str fi_NoCount ti_NoCount))
    (eI_NoCount:((P.main.file:Str) == fi_NoCount)=true)
    (gI_NoCount:K.lookup cc_NoCount=some ⟨cL_NoCount,oL_NoCount,.cell (some (.ref C_NoCount)),sL_NoCount⟩)
    (xk_NoCount:xk1In K C_NoCount C_LineError "what" = true)
    (xi_NoCount:xcIn K C_NoCount (some (.ref I_NoCount))=true)
    (kC_NoCount:PySem.W.keepIn K (.ref C_NoCount)=true)
    (fI_NoHouse:PySem.W.findIn K (.ref C_NoHouse) "__init__" = some (some (.ref I_NoHouse)))
    (lI_NoHouse:K.lookup I_NoHouse=some ⟨.type "function",oJ_NoHouse,.func (PySem.W.ksFn "__init__" "NoHouse.__init__" (defArgs t_NoHouse) (defBody t_NoHouse) (defScope t_NoHouse) .none kJ_NoHouse dJ_NoHouse pJ_NoHouse aJ_NoHouse (.ref cda_NoHouse) tJ_NoHouse cc_NoHouse),sJ_NoHouse⟩)
    (cI_NoHouse:PySem.W.codeIn K (.ref cda_NoHouse) "NoHouse.__init__" = true)
    (hI_NoHouse:K.lookup cda_NoHouse=some ⟨cK_NoHouse,oK_NoHouse,.fields vK_NoHouse,sK_NoHouse⟩)
    (vI_NoHouse:vK_NoHouse[2]? = some (.str fi_NoHouse ti_NoHouse))
    (eI_NoHouse:((P.main.file:Str) == fi_NoHouse)=true)
    (gI_NoHouse:K.lookup cc_NoHouse=some ⟨cL_NoHouse,oL_NoHouse,.cell (some (.ref C_NoHouse)),sL_NoHouse⟩)
    (xk_NoHouse:xk1In K C_NoHouse C_LineError "house" = true)
    (xi_NoHouse:xcIn K C_NoHouse (some (.ref I_NoHouse))=true)
    (kC_NoHouse:PySem.W.keepIn K (.ref C_NoHouse)=true)
    (fI_NoPlace:PySem.W.findIn K (.ref C_NoPlace) "__init__" = some (some (.ref I_NoPlace)))
    (lI_NoPlace:K.lookup I_NoPlace=some ⟨.type "function",oJ_NoPlace,.func (PySem.W.ksFn "__init__" "NoPlace.__init__" (defArgs t_NoPlace) (defBody t_NoPlace) (defScope t_NoPlace) .none kJ_NoPlace dJ_NoPlace pJ_NoPlace aJ_NoPlace (.ref cda_NoPlace) tJ_NoPlace cc_NoPlace),sJ_NoPlace⟩)
    (cI_NoPlace:PySem.W.codeIn K (.ref cda_NoPlace) "NoPlace.__init__" = true)
    (hI_NoPlace:K.lookup cda_NoPlace=some ⟨cK_NoPlace,oK_NoPlace,.fields vK_NoPlace,sK_NoPlace⟩)
    (vI_NoPlace:vK_NoPlace[2]? = some (.str fi_NoPlace ti_NoPlace))
    (eI_NoPlace:((P.main.file:Str) == fi_NoPlace)=true)
    (gI_NoPlace:K.lookup cc_NoPlace=some ⟨cL_NoPlace,oL_NoPlace,.cell (some (.ref C_NoPlace)),sL_NoPlace⟩)
    (xk_NoPlace:xk1In K C_NoPlace C_LineError "place" = true)
    (xi_NoPlace:xcIn K C_NoPlace (some (.ref I_NoPlace))=true)
    (kC_NoPlace:PySem.W.keepIn K (.ref C_NoPlace)=true)
    (xg_NoCount:xgIn K C_NoCount=true)
    (ex_NoCount_LineError:PySem.W.exmOne K (.ref C_NoCount) (.ref C_LineError)=some true)
    (is_NoCount_NoCount:PySem.W.kitOne K (.ref C_NoCount) (.ref C_NoCount)=some true)
    (is_NoCount_NoHouse:PySem.W.kitOne K (.ref C_NoCount) (.ref C_NoHouse)=some false)
    (is_NoCount_NoKey:PySem.W.kitOne K (.ref C_NoCount) (.ref C_NoKey)=some false)
    (is_NoCount_NoPlace:PySem.W.kitOne K (.ref C_NoCount) (.ref C_NoPlace)=some false)
    (is_NoCount_NoRow:PySem.W.kitOne K (.ref C_NoCount) (.ref C_NoRow)=some false)
    (is_NoCount_NoRule:PySem.W.kitOne K (.ref C_NoCount) (.ref C_NoRule)=some false)
    (is_NoCount_ValueError:PySem.W.kitOne K (.ref C_NoCount) (.type "ValueError")=some true)
    (xg_NoHouse:xgIn K C_NoHouse=true)
    (ex_NoHouse_LineError:PySem.W.exmOne K (.ref C_NoHouse) (.ref C_LineError)=some true)
    (is_NoHouse_NoCount:PySem.W.kitOne K (.ref C_NoHouse) (.ref C_NoCount)=some false)
    (is_NoHouse_NoHouse:PySem.W.kitOne K (.ref C_NoHouse) (.ref C_NoHouse)=some true)
    (is_NoHouse_NoKey:PySem.W.kitOne K (.ref C_NoHouse) (.ref C_NoKey)=some false)
    (is_NoHouse_NoPlace:PySem.W.kitOne K (.ref C_NoHouse) (.ref C_NoPlace)=some false)
    (is_NoHouse_NoRow:PySem.W.kitOne K (.ref C_NoHouse) (.ref C_NoRow)=some false)
    (is_NoHouse_NoRule:PySem.W.kitOne K (.ref C_NoHouse) (.ref C_NoRule)=some false)
    (is_NoHouse_ValueError:PySem.W.kitOne K (.ref C_NoHouse) (.type "ValueError")=some true)
    (xg_NoPlace:xgIn K C_NoPlace=true)
    (ex_NoPlace_LineError:PySem.W.exmOne K (.ref C_NoPlace) (.ref C_LineError)=some true)
    (is_NoPlace_NoCount:PySem.W.kitOne K (.ref C_NoPlace) (.ref C_NoCount)=some false)
    (is_NoPlace_NoHouse:PySem.W.kitOne K (.ref C_NoPlace) (.ref C_NoHouse)=some false)
    (is_NoPlace_NoKey:PySem.W.kitOne K (.ref C_NoPlace) (.ref C_NoKey)=some false)
    (is_NoPlace_NoPlace:PySem.W.kitOne K (.ref C_NoPlace) (.ref C_NoPlace)=some true)
    (is_NoPlace_NoRow:PySem.W.kitOne K (.ref C_NoPlace) (.ref C_NoRow)=some false)
    (is_NoPlace_NoRule:PySem.W.kitOne K (.ref C_NoPlace) (.ref C_NoRule)=some false)
    (is_NoPlace_ValueError:PySem.W.kitOne K (.ref C_NoPlace) (.type "ValueError")=some true)
    (v_HOUSES:PySem.W.nsIn K mainGlobals "HOUSES" = some (some u_HOUSES))
    (r_HOUSES:RelV (.int 8) u_HOUSES)
    (v_LAST_PLACE:PySem.W.nsIn K mainGlobals "LAST_PLACE" = some (some u_LAST_PLACE))
    (r_LAST_PLACE:RelV (.int 1000000) u_LAST_PLACE)
    (v_MOST_ROOM:PySem.W.nsIn K mainGlobals "MOST_ROOM" = some (some u_MOST_ROOM))
    (r_MOST_ROOM:RelV (.int 400) u_MOST_ROOM)
    (dq_require_house:∀ (u:Value) S,PySem.W.peek K S (bindArgs (PySem.W.fnOf "require_house" "require_house" (defArgs s_require_house) (defBody s_require_house) (defScope s_require_house) .none kV_require_house dc_require_house pm_require_house an_require_house cd_require_house ct_require_house) ⟨[u],[]⟩)=some [(("thing":Str),u),(("houses":Str),u_HOUSES)]) :
    ∃ a,Txt P K mg a:=by
  exact ⟨⟨f_is_number,PySem.W.fnOf "is_number" "is_number" (defArgs s_is_number) (defBody s_is_number) (defScope s_is_number) .none kV_is_number dc_is_number pm_is_number an_is_number cd_is_number ct_is_number,f_is_within,PySem.W.fnOf "is_within" "is_within" (defArgs s_is_within) (defBody s_is_within) (defScope s_is_within) .none kV_is_within dc_is_within pm_is_within an_is_within cd_is_within ct_is_within,f_require_within,PySem.W.fnOf "require_within" "require_within" (defArgs s_require_within) (defBody s_require_within) (defScope s_require_within) .none kV_require_within dc_require_within pm_require_within an_require_within cd_require_within ct_require_within,f_is_place,PySem.W.fnOf "is_place" "is_place" (defArgs s_is_place) (defBody s_is_place) (defScope s_is_place) .none kV_is_place dc_is_place pm_is_place an_is_place cd_is_place ct_is_place,f_require_place,PySem.W.fnOf "require_place" "require_place" (defArgs s_require_place) (defBody s_require_place) (defScope s_require_place) .none kV_require_place dc_require_place pm_require_place an_require_place cd_require_place ct_require_place,f_is_house,PySem.W.fnOf "is_house" "is_house" (defArgs s_is_house) (defBody s_is_house) (defScope s_is_house) .none kV_is_house dc_is_house pm_is_house an_is_house cd_is_house ct_is_house,f_require_house,PySem.W.fnOf "require_house" "require_house" (defArgs s_require_house) (defBody s_require_house) (defScope s_require_house) .none kV_require_house dc_require_house pm_require_house an_require_house cd_require_house ct_require_house,f_require_room,PySem.W.fnOf "require_room" "require_room" (defArgs s_require_room) (defBody s_require_room) (defScope s_require_room) .none kV_require_room dc_require_room pm_require_room an_require_room cd_require_room ct_require_room,f_cut_of,PySem.W.fnOf "cut_of" "cut_of" (defArgs s_cut_of) (defBody s_cut_of) (defScope s_cut_of) .none kV_cut_of dc_cut_of pm_cut_of an_cut_of cd_cut_of ct_cut_of,f_Slots_init,PySem.W.fnOf "__init__" "Slots.__init__" (defArgs s_Slots_init) (defBody s_Slots_init) (defScope s_Slots_init) .none kV_Slots_init dc_Slots_init pm_Slots_init an_Slots_init cd_Slots_init ct_Slots_init,f_Slots_hold,PySem.W.fnOf "hold" "Slots.hold" (defArgs s_Slots_hold) (defBody s_Slots_hold) (defScope s_Slots_hold) .none kV_Slots_hold dc_Slots_hold pm_Slots_hold an_Slots_hold cd_Slots_hold ct_Slots_hold,f_Slots_anew,PySem.W.fnOf "anew" "Slots.anew" (defArgs s_Slots_anew) (defBody s_Slots_anew) (defScope s_Slots_anew) .none kV_Slots_anew dc_Slots_anew pm_Slots_anew an_Slots_anew cd_Slots_anew ct_Slots_anew,f_Slots_free,PySem.W.fnOf "free" "Slots.free" (defArgs s_Slots_free) (defBody s_Slots_free) (defScope s_Slots_free) .none kV_Slots_free dc_Slots_free pm_Slots_free an_Slots_free cd_Slots_free ct_Slots_free,f_Slots_held,PySem.W.fnOf "held" "Slots.held" (defArgs s_Slots_held) (defBody s_Slots_held) (defScope s_Slots_held) .none kV_Slots_held dc_Slots_held pm_Slots_held an_Slots_held cd_Slots_held ct_Slots_held,f_Slots_cut_for,PySem.W.fnOf "cut_for" "Slots.cut_for" (defArgs s_Slots_cut_for) (defBody s_Slots_cut_for) (defScope s_Slots_cut_for) .none kV_Slots_cut_for dc_Slots_cut_for pm_Slots_cut_for an_Slots_cut_for cd_Slots_cut_for ct_Slots_cut_for,f_Slots___len,PySem.W.fnOf "__len__" "Slots.__len__" (defArgs s_Slots___len) (defBody s_Slots___len) (defScope s_Slots___len) .none kV_Slots___len dc_Slots___len pm_Slots___len an_Slots___len cd_Slots___len ct_Slots___len,f_Slots___eq,PySem.W.fnOf "__eq__" "Slots.__eq__" (defArgs s_Slots___eq) (defBody s_Slots___eq) (defScope s_Slots___eq) .none kV_Slots___eq dc_Slots___eq pm_Slots___eq an_Slots___eq cd_Slots___eq ct_Slots___eq,f_law_deck,PySem.W.fnOf "_law_deck" "_law_deck" (defArgs s_law_deck) (defBody s_law_deck) (defScope s_law_deck) .none kV_law_deck dc_law_deck pm_law_deck an_law_deck cd_law_deck ct_law_deck,f_law_take,PySem.W.fnOf "_law_take" "_law_take" (defArgs s_law_take) (defBody s_law_take) (defScope s_law_take) .none kV_law_take dc_law_take pm_law_take an_law_take cd_law_take ct_law_take,f_law_same,PySem.W.fnOf "_law_same" "_law_same" (defArgs s_law_same) (defBody s_law_same) (defScope s_law_same) .none kV_law_same dc_law_same pm_law_same an_law_same cd_law_same ct_law_same,f_law_names,PySem.W.fnOf "_law_names" "_law_names" (defArgs s_law_names) (defBody s_law_names) (defScope s_law_names) .none kV_law_names dc_law_names pm_law_names an_law_names cd_law_names ct_law_names,f_law_caught,PySem.W.fnOf "_law_caught" "_law_caught" (defArgs s_law_caught) (defBody s_law_caught) (defScope s_law_caught) .none kV_law_caught dc_law_caught pm_law_caught an_law_caught cd_law_caught ct_law_caught,f_law_refused,PySem.W.fnOf "_law_refused" "_law_refused" (defArgs s_law_refused) (defBody s_law_refused) (defScope s_law_refused) .none kV_law_refused dc_law_refused pm_law_refused an_law_refused cd_law_refused ct_law_refused,f_law_place,PySem.W.fnOf "_law_place" "_law_place" (defArgs s_law_place) (defBody s_law_place) (defScope s_law_place) .none kV_law_place dc_law_place pm_law_place an_law_place cd_law_place ct_law_place,f_law_odd,PySem.W.fnOf "_law_odd" "_law_odd" (defArgs s_law_odd) (defBody s_law_odd) (defScope s_law_odd) .none kV_law_odd dc_law_odd pm_law_odd an_law_odd cd_law_odd ct_law_odd,f_law_wrong,PySem.W.fnOf "_law_wrong" "_law_wrong" (defArgs s_law_wrong) (defBody s_law_wrong) (defScope s_law_wrong) .none kV_law_wrong dc_law_wrong pm_law_wrong an_law_wrong cd_law_wrong ct_law_wrong,f_law_cuts,PySem.W.fnOf "_law_cuts" "_law_cuts" (defArgs s_law_cuts) (defBody s_law_cuts) (defScope s_law_cuts) .none kV_law_cuts dc_law_cuts pm_law_cuts an_law_cuts cd_law_cuts ct_law_cuts,f_law_put,PySem.W.fnOf "_law_put" "_law_put" (defArgs s_law_put) (defBody s_law_put) (defScope s_law_put) .none kV_law_put dc_law_put pm_law_put an_law_put cd_law_put ct_law_put,f_law_deed,PySem.W.fnOf "_law_deed" "_law_deed" (defArgs s_law_deed) (defBody s_law_deed) (defScope s_law_deed) .none kV_law_deed dc_law_deed pm_law_deed an_law_deed cd_law_deed ct_law_deed,f_law_looks,PySem.W.fnOf "_law_looks" "_law_looks" (defArgs s_law_looks) (defBody s_law_looks) (defScope s_law_looks) .none kV_law_looks dc_law_looks pm_law_looks an_law_looks cd_law_looks ct_law_looks,f_law_room,PySem.W.fnOf "_law_room" "_law_room" (defArgs s_law_room) (defBody s_law_room) (defScope s_law_room) .none kV_law_room dc_law_room pm_law_room an_law_room cd_law_room ct_law_room,f_law_no_room,PySem.W.fnOf "_law_no_room" "_law_no_room" (defArgs s_law_no_room) (defBody s_law_no_room) (defScope s_law_no_room) .none kV_law_no_room dc_law_no_room pm_law_no_room an_law_no_room cd_law_no_room ct_law_no_room,f_law,PySem.W.fnOf "law" "law" (defArgs s_law) (defBody s_law) (defScope s_law) .none kV_law dc_law pm_law an_law cd_law ct_law,u_HOUSES,u_LAST_PLACE,u_MOST_ROOM,C_LineError,C_NoCount,C_NoHouse,C_NoKey,C_NoPlace,C_NoRow,C_NoRule,C_Slots,I_NoCount,I_NoHouse,I_NoPlace⟩,
    ⟨PySem.W.mg_of X G vC_LineError,
     PySem.W.mg_of X G vC_NoCount,
     PySem.W.mg_of X G vC_NoHouse,
     PySem.W.mg_of X G vC_NoKey,
     PySem.W.mg_of X G vC_NoPlace,
     PySem.W.mg_of X G vC_NoRow,
     PySem.W.mg_of X G vC_NoRule,
     PySem.W.mg_of X G vC_Slots,
     xini_mk ib_NoCount xk_NoCount xi_NoCount kC_NoCount zsu ztp lI_NoCount cI_NoCount hI_NoCount vI_NoCount eI_NoCount gI_NoCount,
     xini_mk ib_NoHouse xk_NoHouse xi_NoHouse kC_NoHouse zsu ztp lI_NoHouse cI_NoHouse hI_NoHouse vI_NoHouse eI_NoHouse gI_NoHouse,
     xini_mk ib_NoPlace xk_NoPlace xi_NoPlace kC_NoPlace zsu ztp lI_NoPlace cI_NoPlace hI_NoPlace vI_NoPlace eI_NoPlace gI_NoPlace,
     xg_of xg_NoCount,
     ex_NoCount_LineError,
     is_NoCount_NoCount,
     is_NoCount_NoHouse,
     is_NoCount_NoKey,
     is_NoCount_NoPlace,
     is_NoCount_NoRow,
     is_NoCount_NoRule,
     is_NoCount_ValueError,
     xg_of xg_NoHouse,
     ex_NoHouse_LineError,
     is_NoHouse_NoCount,
     is_NoHouse_NoHouse,
     is_NoHouse_NoKey,
     is_NoHouse_NoPlace,
     is_NoHouse_NoRow,
     is_NoHouse_NoRule,
     is_NoHouse_ValueError,
     xg_of xg_NoPlace,
     ex_NoPlace_LineError,
     is_NoPlace_NoCount,
     is_NoPlace_NoHouse,
     is_NoPlace_NoKey,
     is_NoPlace_NoPlace,
     is_NoPlace_NoRow,
     is_NoPlace_NoRule,
     is_NoPlace_ValueError,
     ⟨PySem.W.mg_of X G v_HOUSES,r_HOUSES⟩,
     ⟨PySem.W.mg_of X G v_LAST_PLACE,r_LAST_PLACE⟩,
     ⟨PySem.W.mg_of X G v_MOST_ROOM,r_MOST_ROOM⟩,
     PySem.W.mg_none_of X G z_ValueError,
     PySem.W.mg_none_of X G z_bool,
     PySem.W.mg_none_of X G z_int,
     PySem.W.mg_none_of X G z_isinstance,
     PySem.W.mg_none_of X G z_len,
     PySem.W.mg_none_of X G z_list,
     PySem.W.mg_none_of X G z_max,
     PySem.W.mg_none_of X G z_min,
     PySem.W.mg_none_of X G z_range,
     PySem.W.mg_none_of X G z_sorted,
     PySem.W.mg_none_of X G z_str,
     PySem.W.mg_none_of X G z_tuple,
     PySem.W.mg_none_of X G z_zip,
     ⟨pg_Slots,hd_Slots,po_Slots,sa_Slots⟩,
     ⟨⟨pg_Slots,hd_Slots,po_Slots,sa_Slots⟩,cc_Slots,cg_Slots,ct_Slots,cm_Slots⟩,
     ko_Slots,
     kt_Slots,
     kd_Slots,
     nt_Slots,
     nd_Slots,
     ne_Slots,
     na_Slots_places,
     na_Slots_room,
     ⟨mk_Slots,a_Slots_init,i_Slots_init,kc_Slots⟩,
     fun_mk (st:=s_is_number) l_is_number c_is_number k_is_number,
     PySem.W.mg_of X G a_is_number,
     k_is_number,
     (fun_mk (st:=s_is_number) l_is_number c_is_number k_is_number).binds (ps:=["thing"]) fun _ _ _ _ _ _ us hl=>match us,hl with | [_],_=>rfl,
     fun_mk (st:=s_is_within) l_is_within c_is_within k_is_within,
     PySem.W.mg_of X G a_is_within,
     k_is_within,
     (fun_mk (st:=s_is_within) l_is_within c_is_within k_is_within).binds (ps:=["thing","least","most"]) fun _ _ _ _ _ _ us hl=>match us,hl with | [_,_,_],_=>rfl,
     fun_mk (st:=s_require_within) l_require_within c_require_within k_require_within,
     PySem.W.mg_of X G a_require_within,
     k_require_within,
     (fun_mk (st:=s_require_within) l_require_within c_require_within k_require_within).binds (ps:=["thing","least","most","what"]) fun _ _ _ _ _ _ us hl=>match us,hl with | [_,_,_,_],_=>rfl,
     fun_mk (st:=s_is_place) l_is_place c_is_place k_is_place,
     PySem.W.mg_of X G a_is_place,
     k_is_place,
     (fun_mk (st:=s_is_place) l_is_place c_is_place k_is_place).binds (ps:=["thing"]) fun _ _ _ _ _ _ us hl=>match us,hl with | [_],_=>rfl,
     fun_mk (st:=s_require_place) l_require_place c_require_place k_require_place,
     PySem.W.mg_of X G a_require_place,
     k_require_place,
     (fun_mk (st:=s_require_place) l_require_place c_require_place k_require_place).binds (ps:=["thing"]) fun _ _ _ _ _ _ us hl=>match us,hl with | [_],_=>rfl,
     fun_mk (st:=s_is_house) l_is_house c_is_house k_is_house,
     PySem.W.mg_of X G a_is_house,
     k_is_house,
     (fun_mk (st:=s_is_house) l_is_house c_is_house k_is_house).kbinds (ps:=["thing","houses"]) (ks:=["houses"]) rfl fun _ _ _ _ _ _ _ _=>rfl,
     fun_mk (st:=s_require_house) l_require_house c_require_house k_require_house,
     PySem.W.mg_of X G a_require_house,
     k_require_house,
     (fun_mk (st:=s_require_house) l_require_house c_require_house k_require_house).kbinds (ps:=["thing","houses"]) (ks:=["houses"]) rfl fun _ _ _ _ _ _ _ _=>rfl,
     fun_mk (st:=s_require_room) l_require_room c_require_room k_require_room,
     PySem.W.mg_of X G a_require_room,
     k_require_room,
     (fun_mk (st:=s_require_room) l_require_room c_require_room k_require_room).binds (ps:=["room"]) fun _ _ _ _ _ _ us hl=>match us,hl with | [_],_=>rfl,
     fun_mk (st:=s_cut_of) l_cut_of c_cut_of k_cut_of,
     PySem.W.mg_of X G a_cut_of,
     k_cut_of,
     (fun_mk (st:=s_cut_of) l_cut_of c_cut_of k_cut_of).binds (ps:=["room","slots","end","applied"]) fun _ _ _ _ _ _ us hl=>match us,hl with | [_,_,_,_],_=>rfl,
     fun_mk (st:=s_Slots_init) l_Slots_init c_Slots_init k_Slots_init,
     (fun_mk (st:=s_Slots_init) l_Slots_init c_Slots_init k_Slots_init).binds (ps:=["self","room"]) fun _ _ _ _ _ _ us hl=>match us,hl with | [_,_],_=>rfl,
     fun_mk (st:=s_Slots_hold) l_Slots_hold c_Slots_hold k_Slots_hold,
     ⟨a_Slots_hold,i_Slots_hold,k_Slots_hold⟩,
     (fun_mk (st:=s_Slots_hold) l_Slots_hold c_Slots_hold k_Slots_hold).binds (ps:=["self","house","place"]) fun _ _ _ _ _ _ us hl=>match us,hl with | [_,_,_],_=>rfl,
     fun_mk (st:=s_Slots_anew) l_Slots_anew c_Slots_anew k_Slots_anew,
     ⟨a_Slots_anew,i_Slots_anew,k_Slots_anew⟩,
     (fun_mk (st:=s_Slots_anew) l_Slots_anew c_Slots_anew k_Slots_anew).binds (ps:=["self","house","place"]) fun _ _ _ _ _ _ us hl=>match us,hl with | [_,_,_],_=>rfl,
     fun_mk (st:=s_Slots_free) l_Slots_free c_Slots_free k_Slots_free,
     ⟨a_Slots_free,i_Slots_free,k_Slots_free⟩,
     (fun_mk (st:=s_Slots_free) l_Slots_free c_Slots_free k_Slots_free).binds (ps:=["self","house"]) fun _ _ _ _ _ _ us hl=>match us,hl with | [_,_],_=>rfl,
     fun_mk (st:=s_Slots_held) l_Slots_held c_Slots_held k_Slots_held,
     ⟨a_Slots_held,i_Slots_held,k_Slots_held⟩,
     (fun_mk (st:=s_Slots_held) l_Slots_held c_Slots_held k_Slots_held).binds (ps:=["self"]) fun _ _ _ _ _ _ us hl=>match us,hl with | [_],_=>rfl,
     fun_mk (st:=s_Slots_cut_for) l_Slots_cut_for c_Slots_cut_for k_Slots_cut_for,
     ⟨a_Slots_cut_for,i_Slots_cut_for,k_Slots_cut_for⟩,
     (fun_mk (st:=s_Slots_cut_for) l_Slots_cut_for c_Slots_cut_for k_Slots_cut_for).binds (ps:=["self","end","applied"]) fun _ _ _ _ _ _ us hl=>match us,hl with | [_,_,_],_=>rfl,
     fun_mk (st:=s_Slots___len) l_Slots___len c_Slots___len k_Slots___len,
     ⟨a_Slots___len,i_Slots___len,k_Slots___len⟩,
     (fun_mk (st:=s_Slots___len) l_Slots___len c_Slots___len k_Slots___len).binds (ps:=["self"]) fun _ _ _ _ _ _ us hl=>match us,hl with | [_],_=>rfl,
     fun_mk (st:=s_Slots___eq) l_Slots___eq c_Slots___eq k_Slots___eq,
     ⟨a_Slots___eq,i_Slots___eq,k_Slots___eq⟩,
     (fun_mk (st:=s_Slots___eq) l_Slots___eq c_Slots___eq k_Slots___eq).binds (ps:=["self","other"]) fun _ _ _ _ _ _ us hl=>match us,hl with | [_,_],_=>rfl,
     fun_mk (st:=s_law_deck) l_law_deck c_law_deck k_law_deck,
     PySem.W.mg_of X G a_law_deck,
     k_law_deck,
     (fun_mk (st:=s_law_deck) l_law_deck c_law_deck k_law_deck).binds (ps:=["_law_script"]) fun _ _ _ _ _ _ us hl=>match us,hl with | [_],_=>rfl,
     fun_mk (st:=s_law_take) l_law_take c_law_take k_law_take,
     PySem.W.mg_of X G a_law_take,
     k_law_take,
     (fun_mk (st:=s_law_take) l_law_take c_law_take k_law_take).binds (ps:=["_law_deck_here","_law_many"]) fun _ _ _ _ _ _ us hl=>match us,hl with | [_,_],_=>rfl,
     fun_mk (st:=s_law_same) l_law_same c_law_same k_law_same,
     PySem.W.mg_of X G a_law_same,
     k_law_same,
     (fun_mk (st:=s_law_same) l_law_same c_law_same k_law_same).binds (ps:=["_law_found","_law_due"]) fun _ _ _ _ _ _ us hl=>match us,hl with | [_,_],_=>rfl,
     fun_mk (st:=s_law_names) l_law_names c_law_names k_law_names,
     PySem.W.mg_of X G a_law_names,
     k_law_names,
     (fun_mk (st:=s_law_names) l_law_names c_law_names k_law_names).binds (ps:=["_law_error"]) fun _ _ _ _ _ _ us hl=>match us,hl with | [_],_=>rfl,
     fun_mk (st:=s_law_caught) l_law_caught c_law_caught k_law_caught,
     PySem.W.mg_of X G a_law_caught,
     k_law_caught,
     (fun_mk (st:=s_law_caught) l_law_caught c_law_caught k_law_caught).binds (ps:=["_law_way","_law_slots","_law_one","_law_other"]) fun _ _ _ _ _ _ us hl=>match us,hl with | [_,_,_,_],_=>rfl,
     fun_mk (st:=s_law_refused) l_law_refused c_law_refused k_law_refused,
     PySem.W.mg_of X G a_law_refused,
     k_law_refused,
     (fun_mk (st:=s_law_refused) l_law_refused c_law_refused k_law_refused).binds (ps:=["_law_way","_law_slots","_law_handed","_law_name","_law_field"]) fun _ _ _ _ _ _ us hl=>match us,hl with | [_,_,_,_,_],_=>rfl,
     fun_mk (st:=s_law_place) l_law_place c_law_place k_law_place,
     PySem.W.mg_of X G a_law_place,
     k_law_place,
     (fun_mk (st:=s_law_place) l_law_place c_law_place k_law_place).binds (ps:=["_law_deck_here"]) fun _ _ _ _ _ _ us hl=>match us,hl with | [_],_=>rfl,
     fun_mk (st:=s_law_odd) l_law_odd c_law_odd k_law_odd,
     PySem.W.mg_of X G a_law_odd,
     k_law_odd,
     (fun_mk (st:=s_law_odd) l_law_odd c_law_odd k_law_odd).binds (ps:=["_law_deck_here","_law_most"]) fun _ _ _ _ _ _ us hl=>match us,hl with | [_,_],_=>rfl,
     fun_mk (st:=s_law_wrong) l_law_wrong c_law_wrong k_law_wrong,
     PySem.W.mg_of X G a_law_wrong,
     k_law_wrong,
     (fun_mk (st:=s_law_wrong) l_law_wrong c_law_wrong k_law_wrong).binds (ps:=["_law_deck_here","_law_slots"]) fun _ _ _ _ _ _ us hl=>match us,hl with | [_,_],_=>rfl,
     fun_mk (st:=s_law_cuts) l_law_cuts c_law_cuts k_law_cuts,
     PySem.W.mg_of X G a_law_cuts,
     k_law_cuts,
     (fun_mk (st:=s_law_cuts) l_law_cuts c_law_cuts k_law_cuts).binds (ps:=["_law_deck_here","_law_slots","_law_room_here","_law_model"]) fun _ _ _ _ _ _ us hl=>match us,hl with | [_,_,_,_],_=>rfl,
     fun_mk (st:=s_law_put) l_law_put c_law_put k_law_put,
     PySem.W.mg_of X G a_law_put,
     k_law_put,
     (fun_mk (st:=s_law_put) l_law_put c_law_put k_law_put).binds (ps:=["_law_deck_here","_law_slots","_law_model","_law_way"]) fun _ _ _ _ _ _ us hl=>match us,hl with | [_,_,_,_],_=>rfl,
     fun_mk (st:=s_law_deed) l_law_deed c_law_deed k_law_deed,
     PySem.W.mg_of X G a_law_deed,
     k_law_deed,
     (fun_mk (st:=s_law_deed) l_law_deed c_law_deed k_law_deed).binds (ps:=["_law_deck_here","_law_slots","_law_room_here","_law_model"]) fun _ _ _ _ _ _ us hl=>match us,hl with | [_,_,_,_],_=>rfl,
     fun_mk (st:=s_law_looks) l_law_looks c_law_looks k_law_looks,
     PySem.W.mg_of X G a_law_looks,
     k_law_looks,
     (fun_mk (st:=s_law_looks) l_law_looks c_law_looks k_law_looks).binds (ps:=["_law_slots","_law_model"]) fun _ _ _ _ _ _ us hl=>match us,hl with | [_,_],_=>rfl,
     fun_mk (st:=s_law_room) l_law_room c_law_room k_law_room,
     PySem.W.mg_of X G a_law_room,
     k_law_room,
     (fun_mk (st:=s_law_room) l_law_room c_law_room k_law_room).binds (ps:=["_law_deck_here"]) fun _ _ _ _ _ _ us hl=>match us,hl with | [_],_=>rfl,
     fun_mk (st:=s_law_no_room) l_law_no_room c_law_no_room k_law_no_room,
     PySem.W.mg_of X G a_law_no_room,
     k_law_no_room,
     (fun_mk (st:=s_law_no_room) l_law_no_room c_law_no_room k_law_no_room).binds (ps:=["_law_deck_here"]) fun _ _ _ _ _ _ us hl=>match us,hl with | [_],_=>rfl,
     fun_mk (st:=s_law) l_law c_law k_law,
     PySem.W.mg_of X G a_law,
     k_law,
     (fun_mk (st:=s_law) l_law c_law k_law).binds (ps:=["_law_script"]) fun _ _ _ _ _ _ us hl=>match us,hl with | [_],_=>rfl,
     binds_peek1 dq_require_house,
     fun s u=>.of_eq rfl⟩⟩
theorem all_ok {P:Program}{w:World}{K:PySem.W.Frag}{mg:Str→Option Value}{base:Heap}{a:Adr}(T:Txt P K mg a):FnOk P w K mg base CX0 11 a.f_law a.d_law ["_law_script"] (sp_law K):=by
  have G_is_number:FnOk P w K mg base CX0 1 a.f_is_number a.d_is_number ["thing"] (sp_is_number K):=ok_is_number T 
  have G_Slots_held:FnOk P w K mg base CX0 1 a.f_Slots_held a.d_Slots_held ["self"] (sp_Slots_held K a):=ok_Slots_held T 
  have G_Slots___len:FnOk P w K mg base CX0 1 a.f_Slots___len a.d_Slots___len ["self"] (sp_Slots___len K a):=ok_Slots___len T 
  have G_Slots___eq:FnOk P w K mg base CX0 1 a.f_Slots___eq a.d_Slots___eq ["self","other"] (sp_Slots___eq K a):=ok_Slots___eq T 
  have G__law_deck:FnOk P w K mg base CX0 1 a.f_law_deck a.d_law_deck ["_law_script"] (sp_law_deck K):=ok_law_deck T 
  have G__law_take:FnOk P w K mg base CX0 1 a.f_law_take a.d_law_take ["_law_deck_here","_law_many"] (sp_law_take K):=ok_law_take T 
  have G__law_names:FnOk P w K mg base CX0 1 a.f_law_names a.d_law_names ["_law_error"] (sp_law_names K a):=ok_law_names T 
  have G_is_within:FnOk P w K mg base CX0 2 a.f_is_within a.d_is_within ["thing","least","most"] (sp_is_within K):=ok_is_within T G_is_number
  have G__law_place:FnOk P w K mg base CX0 2 a.f_law_place a.d_law_place ["_law_deck_here"] (sp_law_place K):=ok_law_place T G__law_take
  have G__law_odd:FnOk P w K mg base CX0 2 a.f_law_odd a.d_law_odd ["_law_deck_here","_law_most"] (sp_law_odd K):=ok_law_odd T G__law_take
  have G__law_room:FnOk P w K mg base CX0 2 a.f_law_room a.d_law_room ["_law_deck_here"] (sp_law_room K):=ok_law_room T G__law_take
  have G_require_within:FnOk P w K mg base (CX1 P w) 3 a.f_require_within a.d_require_within ["thing","least","most","what"] (sp_require_within K a):=ok_require_within T G_is_within
  have G_is_place:FnOk P w K mg base CX0 3 a.f_is_place a.d_is_place ["thing"] (sp_is_place K):=ok_is_place T G_is_within
  have G_is_house:FnOk P w K mg base CX0 3 a.f_is_house a.d_is_house ["thing","houses"] (sp_is_house K):=ok_is_house T G_is_within
  have G__law_same:FnOk P w K mg base CX0 3 a.f_law_same a.d_law_same ["_law_found","_law_due"] (sp_law_same K):=ok_law_same T 
  have G_require_place:FnOk P w K mg base (CX1 P w) 4 a.f_require_place a.d_require_place ["thing"] (sp_require_place K a):=ok_require_place T G_is_place
  have G_require_house:FnOk P w K mg base (CX1 P w) 4 a.f_require_house a.d_require_house ["thing","houses"] (sp_require_house K a):=ok_require_house T G_is_house
  have G_require_room:FnOk P w K mg base (CX1 P w) 4 a.f_require_room a.d_require_room ["room"] (sp_require_room K a):=ok_require_room T G_require_within
  have G__law_looks:FnOk P w K mg base CX0 4 a.f_law_looks a.d_law_looks ["_law_slots","_law_model"] (sp_law_looks K a):=ok_law_looks T G_Slots___len G_Slots_held G__law_same
  have G_cut_of:FnOk P w K mg base (CX1 P w) 5 a.f_cut_of a.d_cut_of ["room","slots","end","applied"] (sp_cut_of K a):=ok_cut_of T G_is_within G_require_place G_require_room
  have G_Slots_init:FnOk P w K mg base (CX1 P w) 5 a.f_Slots_init a.d_Slots_init ["self","room"] (sp_Slots_init K a):=ok_Slots_init T G_require_room
  have G_Slots_hold:FnOk P w K mg base (CX1 P w) 5 a.f_Slots_hold a.d_Slots_hold ["self","house","place"] (sp_Slots_hold K a):=ok_Slots_hold T G_require_house G_require_place
  have G_Slots_anew:FnOk P w K mg base (CX1 P w) 5 a.f_Slots_anew a.d_Slots_anew ["self","house","place"] (sp_Slots_anew K a):=ok_Slots_anew T G_require_house G_require_place
  have G_Slots_free:FnOk P w K mg base (CX1 P w) 5 a.f_Slots_free a.d_Slots_free ["self","house"] (sp_Slots_free K a):=ok_Slots_free T G_require_house
  have G_Slots_cut_for:FnOk P w K mg base (CX1 P w) 6 a.f_Slots_cut_for a.d_Slots_cut_for ["self","end","applied"] (sp_Slots_cut_for K a):=ok_Slots_cut_for T G_Slots_held G_cut_of
  have G__law_put:FnOk P w K mg base CX0 6 a.f_law_put a.d_law_put ["_law_deck_here","_law_slots","_law_model","_law_way"] (sp_law_put K a):=ok_law_put T G_Slots_anew G_Slots_hold G__law_place G__law_take
  have G__law_caught:FnOk P w K mg base CX0 7 a.f_law_caught a.d_law_caught ["_law_way","_law_slots","_law_one","_law_other"] (sp_law_caught K a):=ok_law_caught T G_Slots_anew G_Slots_cut_for G_Slots_free G_Slots_hold
  have G__law_cuts:FnOk P w K mg base CX0 7 a.f_law_cuts a.d_law_cuts ["_law_deck_here","_law_slots","_law_room_here","_law_model"] (sp_law_cuts K a):=ok_law_cuts T G_Slots_cut_for G__law_place G__law_same G__law_take
  have G__law_no_room:FnOk P w K mg base CX0 7 a.f_law_no_room a.d_law_no_room ["_law_deck_here"] (sp_law_no_room K a):=ok_law_no_room T G_Slots_init G__law_names G__law_same G__law_take
  have G__law_refused:FnOk P w K mg base CX0 8 a.f_law_refused a.d_law_refused ["_law_way","_law_slots","_law_handed","_law_name","_law_field"] (sp_law_refused K a):=ok_law_refused T G__law_caught G__law_names G__law_same
  have G__law_wrong:FnOk P w K mg base CX0 9 a.f_law_wrong a.d_law_wrong ["_law_deck_here","_law_slots"] (sp_law_wrong K a):=ok_law_wrong T G__law_odd G__law_place G__law_refused G__law_take
  have G__law_deed:FnOk P w K mg base CX0 10 a.f_law_deed a.d_law_deed ["_law_deck_here","_law_slots","_law_room_here","_law_model"] (sp_law_deed K a):=ok_law_deed T G_Slots_free G__law_cuts G__law_put G__law_take G__law_wrong
  have G_law:FnOk P w K mg base CX0 11 a.f_law a.d_law ["_law_script"] (sp_law K):=ok_law T G_Slots___eq G_Slots_init G_Slots_anew G_Slots_held G__law_deck G__law_deed G__law_looks G__law_no_room G__law_room G__law_same G__law_take
  exact G_law
end My
open PySem PySem.W PyProof.Rows
set_option maxRecDepth 100000 in
set_option maxHeartbeats 0 in
theorem PySem.Challenge.cw_laterline_k31_slots_in_turn_holds : PySem.Challenge.rw_laterline_k31_slots_in_turn.Holds := by
  w_on; o_law
  refine PySem.W.holds_open (q:=My.vw) (loose:=My.lo) (Xt:=My.xt) (XP:=PySem.W.XL My.vw My.lv) (Yf:=(PySem.W.kHook My.KF My.KA My.ke).obs) (Ya:=(PySem.W.kHook My.KF My.KA My.ke).val) (YP:=(PySem.W.kHook My.KF My.KA My.ke).says) (N:=6240) My.left (PySem.W.kHook My.KF My.KA My.ke).of (PySem.W.kHook My.KF My.KA My.ke).keeps (fun s e=>PySem.W.xl_of s (Bool.and_eq_true_iff.mp e).1) PySem.W.XL.keeps (by rfl) (by rfl) (by rfl) (fun s e=>PySem.W.recFacts_of (Bool.and_eq_true_iff.mp e).2) (by rfl) (by first | assumption | decide +kernel) (by decide +kernel) ⟨rfl,rfl,rfl,rfl,rfl,by decide +kernel⟩ ?hw ?hc
  case hw=>w_witness2
  k_fill
  refine L2.walk_ofK (l:=PySem.Challenge.rw_laterline_k31_slots_in_turn) (n:=63) (k:=11) (x:="_law_script") (CX:=L2.CX0) (sp:=My.sp_law) rfl (by decide) rfl ⟨rfl,by decide,by decide,rfl⟩ (fun w h Y=>PySem.W.kIn_of Y) ?F ?S ?C
  case F =>
    intro w mg fa h KX G hmg
    have T:∃ a,My.Txt (PySem.Challenge.rw_laterline_k31_slots_in_turn).prog (L2.KOf KX) mg a:=by
      dsimp only [L2.KOf]
      refine' My.txt_mk KX G ?a_is_number ?l_is_number ?c_is_number ?k_is_number ?a_is_within ?l_is_within ?c_is_within ?k_is_within ?a_require_within ?l_require_within ?c_require_within ?k_require_within ?a_is_place ?l_is_place ?c_is_place ?k_is_place ?a_require_place ?l_require_place ?c_require_place ?k_require_place ?a_is_house ?l_is_house ?c_is_house ?k_is_house ?a_require_house ?l_require_house ?c_require_house ?k_require_house ?a_require_room ?l_require_room ?c_require_room ?k_require_room ?a_cut_of ?l_cut_of ?c_cut_of ?k_cut_of ?a_Slots_init ?i_Slots_init ?l_Slots_init ?c_Slots_init ?k_Slots_init ?a_Slots_hold ?i_Slots_hold ?l_Slots_hold ?c_Slots_hold ?k_Slots_hold ?a_Slots_anew ?i_Slots_anew ?l_Slots_anew ?c_Slots_anew ?k_Slots_anew ?a_Slots_free ?i_Slots_free ?l_Slots_free ?c_Slots_free ?k_Slots_free ?a_Slots_held ?i_Slots_held ?l_Slots_held ?c_Slots_held ?k_Slots_held ?a_Slots_cut_for ?i_Slots_cut_for ?l_Slots_cut_for ?c_Slots_cut_for ?k_Slots_cut_for ?a_Slots___len ?i_Slots___len ?l_Slots___len ?c_Slots___len ?k_Slots___len ?a_Slots___eq ?i_Slots___eq ?l_Slots___eq ?c_Slots___eq ?k_Slots___eq ?a_law_deck ?l_law_deck ?c_law_deck ?k_law_deck ?a_law_take ?l_law_take ?c_law_take ?k_law_take ?a_law_same ?l_law_same ?c_law_same ?k_law_same ?a_law_names ?l_law_names ?c_law_names ?k_law_names ?a_law_caught ?l_law_caught ?c_law_caught ?k_law_caught ?a_law_refused ?l_law_refused ?c_law_refused ?k_law_refused ?a_law_place ?l_law_place ?c_law_place ?k_law_place ?a_law_odd ?l_law_odd ?c_law_odd ?k_law_odd ?a_law_wrong ?l_law_wrong ?c_law_wrong ?k_law_wrong ?a_law_cuts ?l_law_cuts ?c_law_cuts ?k_law_cuts ?a_law_put ?l_law_put ?c_law_put ?k_law_put ?a_law_deed ?l_law_deed ?c_law_deed ?k_law_deed ?a_law_looks ?l_law_looks ?c_law_looks ?k_law_looks ?a_law_room ?l_law_room ?c_law_room ?k_law_room ?a_law_no_room ?l_law_no_room ?c_law_no_room ?k_law_no_room ?a_law ?l_law ?c_law ?k_law ?z_ValueError ?z_bool ?z_int ?z_isinstance ?z_len ?z_list ?z_max ?z_min ?z_range ?z_sorted ?z_str ?z_tuple ?z_zip ?vC_LineError ?vC_NoCount ?vC_NoHouse ?vC_NoKey ?vC_NoPlace ?vC_NoRow ?vC_NoRule ?vC_Slots ?pg_Slots ?hd_Slots ?po_Slots ?sa_Slots ?cc_Slots ?cg_Slots ?ct_Slots ?cm_Slots ?rr_ko_Slots ?rr_kt_Slots ?rr_kd_Slots ?nt_Slots ?nd_Slots ?ne_Slots ?na_Slots_places ?na_Slots_room ?mk_Slots ?kc_Slots ?zsu ?rr_ztp ?fI_NoCount ?lI_NoCount ?cI_NoCount ?hI_NoCount ?rf_vI_NoCount ?rr_eI_NoCount ?gI_NoCount ?rr_xk_NoCount ?rr_xi_NoCount ?kC_NoCount ?fI_NoHouse ?lI_NoHouse ?cI_NoHouse ?hI_NoHouse ?rf_vI_NoHouse ?rr_eI_NoHouse ?gI_NoHouse ?rr_xk_NoHouse ?rr_xi_NoHouse ?kC_NoHouse ?fI_NoPlace ?lI_NoPlace ?cI_NoPlace ?hI_NoPlace ?rf_vI_NoPlace ?rr_eI_NoPlace ?gI_NoPlace ?rr_xk_NoPlace ?rr_xi_NoPlace ?kC_NoPlace ?rr_xg_NoCount ?rr_ex_NoCount_LineError ?rr_is_NoCount_NoCount ?rr_is_NoCount_NoHouse ?rr_is_NoCount_NoKey ?rr_is_NoCount_NoPlace ?rr_is_NoCount_NoRow ?rr_is_NoCount_NoRule ?rr_is_NoCount_ValueError ?rr_xg_NoHouse ?rr_ex_NoHouse_LineError ?rr_is_NoHouse_NoCount ?rr_is_NoHouse_NoHouse ?rr_is_NoHouse_NoKey ?rr_is_NoHouse_NoPlace ?rr_is_NoHouse_NoRow ?rr_is_NoHouse_NoRule ?rr_is_NoHouse_ValueError ?rr_xg_NoPlace ?rr_ex_NoPlace_LineError ?rr_is_NoPlace_NoCount ?rr_is_NoPlace_NoHouse ?rr_is_NoPlace_NoKey ?rr_is_NoPlace_NoPlace ?rr_is_NoPlace_NoRow ?rr_is_NoPlace_NoRule ?rr_is_NoPlace_ValueError ?v_HOUSES ?r_HOUSES ?v_LAST_PLACE ?r_LAST_PLACE ?v_MOST_ROOM ?r_MOST_ROOM ?rq_dq_require_house
      (case vC_LineError=>k_is)
      (case vC_NoCount=>k_is)
      (case vC_NoHouse=>k_is)
      (case vC_NoKey=>k_is)
      (case vC_NoPlace=>k_is)
      (case vC_NoRow=>k_is)
      (case vC_NoRule=>k_is)
      (case vC_Slots=>k_is)
      (case a_is_number=>k_is)
      (case l_is_number=>k_is)
      (case c_is_number=>k_is)
      (case k_is_number=>k_is)
      (case a_is_within=>k_is)
      (case l_is_within=>k_is)
      (case c_is_within=>k_is)
      (case k_is_within=>k_is)
      (case a_require_within=>k_is)
      (case l_require_within=>k_is)
      (case c_require_within=>k_is)
      (case k_require_within=>k_is)
      (case a_is_place=>k_is)
      (case l_is_place=>k_is)
      (case c_is_place=>k_is)
      (case k_is_place=>k_is)
      (case a_require_place=>k_is)
      (case l_require_place=>k_is)
      (case c_require_place=>k_is)
      (case k_require_place=>k_is)
      (case a_is_house=>k_is)
      (case l_is_house=>k_is)
      (case c_is_house=>k_is)
      (case k_is_house=>k_is)
      (case a_require_house=>k_is)
      (case l_require_house=>k_is)
      (case c_require_house=>k_is)
      (case k_require_house=>k_is)
      (case a_require_room=>k_is)
      (case l_require_room=>k_is)
      (case c_require_room=>k_is)
      (case k_require_room=>k_is)
      (case a_cut_of=>k_is)
      (case l_cut_of=>k_is)
      (case c_cut_of=>k_is)
      (case k_cut_of=>k_is)
      (case a_Slots_init=>k_is)
      (case i_Slots_init=>k_is)
      (case l_Slots_init=>k_is)
      (case c_Slots_init=>k_is)
      (case k_Slots_init=>k_is)
      (case a_Slots_hold=>k_is)
      (case i_Slots_hold=>k_is)
      (case l_Slots_hold=>k_is)
      (case c_Slots_hold=>k_is)
      (case k_Slots_hold=>k_is)
      (case a_Slots_anew=>k_is)
      (case i_Slots_anew=>k_is)
      (case l_Slots_anew=>k_is)
      (case c_Slots_anew=>k_is)
      (case k_Slots_anew=>k_is)
      (case a_Slots_free=>k_is)
      (case i_Slots_free=>k_is)
      (case l_Slots_free=>k_is)
      (case c_Slots_free=>k_is)
      (case k_Slots_free=>k_is)
      (case a_Slots_held=>k_is)
      (case i_Slots_held=>k_is)
      (case l_Slots_held=>k_is)
      (case c_Slots_held=>k_is)
      (case k_Slots_held=>k_is)
      (case a_Slots_cut_for=>k_is)
      (case i_Slots_cut_for=>k_is)
      (case l_Slots_cut_for=>k_is)
      (case c_Slots_cut_for=>k_is)
      (case k_Slots_cut_for=>k_is)
      (case a_Slots___len=>k_is)
      (case i_Slots___len=>k_is)
      (case l_Slots___len=>k_is)
      (case c_Slots___len=>k_is)
      (case k_Slots___len=>k_is)
      (case a_Slots___eq=>k_is)
      (case i_Slots___eq=>k_is)
      (case l_Slots___eq=>k_is)
      (case c_Slots___eq=>k_is)
      (case k_Slots___eq=>k_is)
      (case a_law_deck=>k_is)
      (case l_law_deck=>k_is)
      (case c_law_deck=>k_is)
      (case k_law_deck=>k_is)
      (case a_law_take=>k_is)
      (case l_law_take=>k_is)
      (case c_law_take=>k_is)
      (case k_law_take=>k_is)
      (case a_law_same=>k_is)
      (case l_law_same=>k_is)
      (case c_law_same=>k_is)
      (case k_law_same=>k_is)
      (case a_law_names=>k_is)
      (case l_law_names=>k_is)
      (case c_law_names=>k_is)
      (case k_law_names=>k_is)
      (case a_law_caught=>k_is)
      (case l_law_caught=>k_is)
      (case c_law_caught=>k_is)
      (case k_law_caught=>k_is)
      (case a_law_refused=>k_is)
      (case l_law_refused=>k_is)
      (case c_law_refused=>k_is)
      (case k_law_refused=>k_is)
      (case a_law_place=>k_is)
      (case l_law_place=>k_is)
      (case c_law_place=>k_is)
      (case k_law_place=>k_is)
      (case a_law_odd=>k_is)
      (case l_law_odd=>k_is)
      (case c_law_odd=>k_is)
      (case k_law_odd=>k_is)
      (case a_law_wrong=>k_is)
      (case l_law_wrong=>k_is)
      (case c_law_wrong=>k_is)
      (case k_law_wrong=>k_is)
      (case a_law_cuts=>k_is)
      (case l_law_cuts=>k_is)
      (case c_law_cuts=>k_is)
      (case k_law_cuts=>k_is)
      (case a_law_put=>k_is)
      (case l_law_put=>k_is)
      (case c_law_put=>k_is)
      (case k_law_put=>k_is)
      (case a_law_deed=>k_is)
      (case l_law_deed=>k_is)
      (case c_law_deed=>k_is)
      (case k_law_deed=>k_is)
      (case a_law_looks=>k_is)
      (case l_law_looks=>k_is)
      (case c_law_looks=>k_is)
      (case k_law_looks=>k_is)
      (case a_law_room=>k_is)
      (case l_law_room=>k_is)
      (case c_law_room=>k_is)
      (case k_law_room=>k_is)
      (case a_law_no_room=>k_is)
      (case l_law_no_room=>k_is)
      (case c_law_no_room=>k_is)
      (case k_law_no_room=>k_is)
      (case a_law=>k_is)
      (case l_law=>k_is)
      (case c_law=>k_is)
      (case k_law=>k_is)
      (case z_ValueError=>k_is)
      (case z_bool=>k_is)
      (case z_int=>k_is)
      (case z_isinstance=>k_is)
      (case z_len=>k_is)
      (case z_list=>k_is)
      (case z_max=>k_is)
      (case z_min=>k_is)
      (case z_range=>k_is)
      (case z_sorted=>k_is)
      (case z_str=>k_is)
      (case z_tuple=>k_is)
      (case z_zip=>k_is)
      (case pg_Slots=>k_is)
      (case hd_Slots=>k_is)
      (case po_Slots=>k_is)
      (case sa_Slots=>k_is)
      (case cc_Slots=>k_is)
      (case cg_Slots=>k_is)
      (case ct_Slots=>k_is)
      (case cm_Slots=>k_is)
      (case rr_ko_Slots=>kernel_rfl)
      (case rr_kt_Slots=>kernel_rfl)
      (case rr_kd_Slots=>kernel_rfl)
      (case nt_Slots=>k_is)
      (case nd_Slots=>k_is)
      (case ne_Slots=>k_is)
      (case na_Slots_places=>k_is)
      (case na_Slots_room=>k_is)
      (case mk_Slots=>k_is)
      (case kc_Slots=>k_is)
      (case zsu=>k_is)
      (case rr_ztp=>kernel_rfl)
      (case fI_NoCount=>k_is)
      (case lI_NoCount=>k_is)
      (case cI_NoCount=>k_is)
      (case hI_NoCount=>k_is)
      (case rf_vI_NoCount=>exact rfl)
      (case rr_eI_NoCount=>kernel_rfl)
      (case gI_NoCount=>k_is)
      (case rr_xk_NoCount=>kernel_rfl)
      (case rr_xi_NoCount=>kernel_rfl)
      (case kC_NoCount=>k_is)
      (case fI_NoHouse=>k_is)
      (case lI_NoHouse=>k_is)
      (case cI_NoHouse=>k_is)
      (case hI_NoHouse=>k_is)
      (case rf_vI_NoHouse=>exact rfl)
      (case rr_eI_NoHouse=>kernel_rfl)
      (case gI_NoHouse=>k_is)
      (case rr_xk_NoHouse=>kernel_rfl)
      (case rr_xi_NoHouse=>kernel_rfl)
      (case kC_NoHouse=>k_is)
      (case fI_NoPlace=>k_is)
      (case lI_NoPlace=>k_is)
      (case cI_NoPlace=>k_is)
      (case hI_NoPlace=>k_is)
      (case rf_vI_NoPlace=>exact rfl)
      (case rr_eI_NoPlace=>kernel_rfl)
      (case gI_NoPlace=>k_is)
      (case rr_xk_NoPlace=>kernel_rfl)
      (case rr_xi_NoPlace=>kernel_rfl)
      (case kC_NoPlace=>k_is)
      (case rr_xg_NoCount=>kernel_rfl)
      (case rr_ex_NoCount_LineError=>kernel_rfl)
      (case rr_is_NoCount_NoCount=>kernel_rfl)
      (case rr_is_NoCount_NoHouse=>kernel_rfl)
      (case rr_is_NoCount_NoKey=>kernel_rfl)
      (case rr_is_NoCount_NoPlace=>kernel_rfl)
      (case rr_is_NoCount_NoRow=>kernel_rfl)
      (case rr_is_NoCount_NoRule=>kernel_rfl)
      (case rr_is_NoCount_ValueError=>kernel_rfl)
      (case rr_xg_NoHouse=>kernel_rfl)
      (case rr_ex_NoHouse_LineError=>kernel_rfl)
      (case rr_is_NoHouse_NoCount=>kernel_rfl)
      (case rr_is_NoHouse_NoHouse=>kernel_rfl)
      (case rr_is_NoHouse_NoKey=>kernel_rfl)
      (case rr_is_NoHouse_NoPlace=>kernel_rfl)
      (case rr_is_NoHouse_NoRow=>kernel_rfl)
      (case rr_is_NoHouse_NoRule=>kernel_rfl)
      (case rr_is_NoHouse_ValueError=>kernel_rfl)
      (case rr_xg_NoPlace=>kernel_rfl)
      (case rr_ex_NoPlace_LineError=>kernel_rfl)
      (case rr_is_NoPlace_NoCount=>kernel_rfl)
      (case rr_is_NoPlace_NoHouse=>kernel_rfl)
      (case rr_is_NoPlace_NoKey=>kernel_rfl)
      (case rr_is_NoPlace_NoPlace=>kernel_rfl)
      (case rr_is_NoPlace_NoRow=>kernel_rfl)
      (case rr_is_NoPlace_NoRule=>kernel_rfl)
      (case rr_is_NoPlace_ValueError=>kernel_rfl)
      (case v_HOUSES=>k_is)
      (case r_HOUSES=>exact ⟨_,rfl⟩)
      (case v_LAST_PLACE=>k_is)
      (case r_LAST_PLACE=>exact ⟨_,rfl⟩)
      (case v_MOST_ROOM=>k_is)
      (case r_MOST_ROOM=>exact ⟨_,rfl⟩)
      (case rq_dq_require_house=>intro u S; kernel_rfl)
    obtain ⟨a,T⟩:=T
    have e0:=hmg.symm.trans T.m_law
    cases e0
    exact ⟨_,T.bl_law,fun base kb nb=>My.all_ok T⟩
  case S=>exact fun K H a ns hl hO hS=>⟨a,ns,rfl,hS,hl,fun _=>rfl⟩
  case C=>exact fun _ _ _ _ z=>z
