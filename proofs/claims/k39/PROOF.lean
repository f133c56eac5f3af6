import PyProof.Rows.All
import Wide.All
import OpenK.AllK
import Wide.FinOn
import Lean
import PyProof.EqAt
import PyProof.EqKinds
import PyProof.TupleCall
import KE.KTryMore
import PyProof.NsDelKeeps
import OpenK.KOwn
import PyProof.ExcClass3
import KE.KSuper
import PyProof.InstStoreFacts
import PyProof.ExcArgsOwn
import PyProof.ExcAttrAll.ValueError
import KE.KIsAll
import PyProof.EnumFor
import PyProof.EnumStmt
import PyProof.EnumIter
import KE.KStar
import KE.KUnpack
import PyProof.ListRange
import PyProof.P3In
import PyProof.Rows.SortShell
import PyProof.Rows.SortWalk
import PyProof.SeqI3
import PyProof.WalkInts
import KE.KRevIter
import PyProof.CollectIter
import PyProof.TupleOfGen
import KE.KDictSum
import KE.KDictOf
import KE.KEqDict
import PyProof.AttrMissHeap
import KE.KPar
import KE.KSortTup
import PyProof.DictWalks
import PyProof.DictCompW
import PyProof.Rows.SortRev
import PyProof.Rows.CallKwBuiltin
import PySem.Challenge.RW_laterline_k39_done_papers_judged
set_option Elab.async false
set_option linter.all false
set_option maxRecDepth 100000
namespace Hd
open PySem PySem.W
noncomputable def topT (tb:String→Option Builtin)(p:Program)(w:World)(n₀:Nat)(ann:Option Value):Nat→SharedT→Thread→Option SharedT
 | 0,_,_=>none
 | n+1,s,t=>match through t with
  | true=>some s
  | false=>match stepOk n₀ ann t with
   | false=>none
   | true=>match stepT (denote tb) p w s t with
    | some (s',t')=>topT tb p w n₀ ann n s' t'
    | none=>none
theorem topT_spec {tb:String→Option Builtin}{p:Program}{w:World}{n₀:Nat}{ann:Option Value}:∀ {n:Nat}{s s':SharedT}{t:Thread},topT tb p w n₀ ann n s t=some s'→topRun tb p w n₀ ann n s.abs t=some s'.abs
 | 0,_,_,_,h=>by cases h
 | n+1,s,s',t,h=>by
  unfold topT at h
  unfold topRun
  cases e1:through t with
  | true=>rw[e1]at h;cases h;rfl
  | false =>
   rw[e1]at h
   cases e2:stepOk n₀ ann t with
   | false=>rw[e2]at h;cases h
   | true =>
    rw[e2]at h
    dsimp only at h ⊢
    cases e3:stepT (denote tb) p w s t with
    | none=>rw[e3]at h;cases h
    | some q =>
     obtain⟨s1,t1⟩:=q
     rw[e3]at h
     rw[stepT_spec e3]
     exact topT_spec h
noncomputable def btOf (l:List Obj):BT:=(l.foldl (fun (q:BT×Nat) o=>(q.1.ins q.2 o,q.2+1)) (BT.nil,0)).1
noncomputable def start0 (P:Params)(os:OsState):SharedT:=⟨btOf (boot_heap P).objs.toList,(boot_heap P).objs.size,(boot_heap P).life,Array.mk [],boot_drawn,boot_toks,os⟩
theorem start_abs (P:Params)(os:OsState):(start0 P os).abs = ⟨boot_heap P,Array.mk [],boot_drawn,boot_toks,os⟩:=by kernel_rfl
theorem boot_is (P:Params):((boot_heap P).isNs mainGlobals && (Array.mk []:Array GenState).size == 0)=true:=by kernel_rfl
theorem left_of {p q:Program}{loose:List Str}{Xt:Shared→Bool}{α:Type}{Yf:Shared→α}{Ya:World→α}{N:Nat}(ho:opening p=plainProg p.main.scope.names)(hN:Nat.ble 600 N=true)(hf:∀s,fenceModules? p s=some s)
  (run:∀(w:World) (os:OsState),(topT treeTable p w (boot_heap w.params).objs.size ((boot_heap w.params).nsMap mainGlobals "__annotations__") N (start0 w.params os) (topStub p)).map (fun s =>
    ((staticsOk (importedModules p.main.body) (boot_heap w.params) s.abs.heap && namesBound p s.abs.heap && gensDone s.abs && laidKept (boot_heap w.params) s.abs.heap),openSeen q loose (importedModules p.main.body) Xt true s.abs,Yf s.abs))=some (true,openGood q loose,Ya w)) :
  LeftO p q loose Xt Yf Ya N:=fun w=>by
 obtain⟨⟨h,gs,d,k,os⟩,e,e'⟩:=Option.map_eq_some_iff.mp (boot_open (N:=N) ho hN hf w)
 obtain⟨rfl,rfl,rfl,rfl⟩:h=boot_heap w.params∧gs=Array.mk []∧d=boot_drawn∧k=boot_toks:=by simpa using e'
 obtain⟨s,r1,r2⟩:=Option.map_eq_some_iff.mp (run w os)
 obtain⟨l1,l2,l3⟩:_∧_∧_:=by simpa only[Prod.mk.injEq]using r2
 have r:=topT_spec r1
 rw[start_abs]at r
 have t:topFrom treeTable p w N ⟨boot_heap w.params,Array.mk [],boot_drawn,boot_toks,os⟩ = some s.abs:=by
  unfold topFrom
  dsimp only
  rw[boot_is,r]
  show (match staticsOk (importedModules p.main.body) (boot_heap w.params) s.abs.heap && namesBound p s.abs.heap && gensDone s.abs && laidKept (boot_heap w.params) s.abs.heap with |true=>some s.abs |false=>none)=_
  rw[l1]
 unfold openEnds
 rw[e]
 show (topFrom treeTable p w N _).map _=_
 rw[t]
 exact congrArg some (Prod.ext l2 l3)
noncomputable def inCls (s:Stmt)(j:Nat):Stmt:=match s with
 | .ClassDef _ _ _ b _ _ _ _ _ _ _=>b.getD j (.Pass ⟨0,0,0,0⟩)
 | z=>z
noncomputable def dArgs (s:Stmt):Arguments:=match s with
 | .FunctionDef _ a _ _ _ _ _ _ _ _=>a
 | _=>⟨[],[],none,[],[],none,[]⟩
noncomputable def dBody (s:Stmt):List Stmt:=match s with
 | .FunctionDef _ _ b _ _ _ _ _ _ _=>b
 | _=>[]
noncomputable def dScope (s:Stmt):Scope:=match s with
 | .FunctionDef _ _ _ _ _ _ c _ _ _=>c
 | _=>{ kind:=.function,names:=[],isGenerator:=false,isCoroutine:=false }
end Hd
namespace My
open PySem PyProof.Rows
noncomputable def top (i:Nat):Stmt:=PySem.Challenge.pw_laterline_k39_done_papers_judged.main.body.getD i (.Pass ⟨0,0,0,0⟩)
noncomputable abbrev qS (s:String):Str:=Str.ofString s
noncomputable abbrev vS (s:String)(t:Nat):Value:=.str (Str.ofString s) t
noncomputable abbrev dE (P:Params)(s:String)(t:Nat)(v:Value):DictEntry:=⟨PyData.keyHash P (Str.ofString s),.str (Str.ofString s) t,v⟩
noncomputable abbrev tO (xs:Array Value):PySem.Obj:=⟨.type "tuple",none,.seq xs 0,#[]⟩
noncomputable abbrev oO (c:Value)(d:Data):PySem.Obj:=⟨c,none,d,#[]⟩
noncomputable abbrev vN :Value:=Value.none
noncomputable abbrev vT :Value:=.bool Bool.true
noncomputable abbrev vC (t:Nat):Value:=vS "/claim/cut.py" t
noncomputable abbrev vZ (i:Int):Value:=.int i 0
noncomputable def KF:PySem.Params→PySem.W.Frag:=fun P =>
 (nat_lit 2,(oO vN (Data.dict #[] 0))) ::
 (nat_lit 3,(oO (.type "dict") (Data.dict #[(dE P "__name__" 165 (vS "law_laterline_k39_done_papers_judged" 552)),(dE P "__doc__" 166 vN),(dE P "__package__" 167 vN),(dE P "__loader__" 168 (Value.builtin "__main__.__loader__#opaque")),(dE P "__spec__" 169 vN),(dE P "__annotations__" 170 (.ref 6)),(dE P "__builtins__" 171 (.ref 4)),(dE P "__file__" 173 (vC 172)),(dE P "__cached__" 174 vN),(dE P "LineError" 206 (.ref 24)),(dE P "NoPlace" 233 (.ref 46)),(dE P "NoHouse" 260 (.ref 67)),(dE P "NoRule" 285 (.ref 88)),(dE P "NoCount" 312 (.ref 109)),(dE P "NoSaying" 337 (.ref 130)),(dE P "LAST_PLACE" 343 (.int 1000000 342)),(dE P "is_number" 350 (.ref 139)),(dE P "is_within" 359 (.ref 146)),(dE P "is_place" 366 (.ref 153)),(dE P "LAST_LINE" 372 (.int 1000000000 371)),(dE P "is_line" 379 (.ref 160)),(dE P "is_word" 389 (.ref 167)),(dE P "WRITTEN" 393 (.ref 168)),(dE P "HOUSES" 395 (.int 8 394)),(dE P "is_house" 404 (.ref 176)),(dE P "is_counted_rule" 411 (.ref 183)),(dE P "is_rule" 418 (.ref 190)),(dE P "require_rule" 425 (.ref 197)),(dE P "need" 432 (.ref 204)),(dE P "is_saying" 445 (.ref 211)),(dE P "Book" 518 (.ref 261)),(dE P "counted" 526 (.ref 272)),(dE P "others_told" 532 (.ref 277)),(dE P "is_rising" 538 (.ref 282)),(dE P "is_done_paper" 545 (.ref 289)),(dE P "right_done" 551 (.ref 294)),(dE P "_law_deck" 559 (.ref 299)),(dE P "_law_take" 573 (.ref 306)),(dE P "_law_saying" 583 (.ref 313)),(dE P "_law_put" 596 (.ref 320)),(dE P "_law_rule" 603 (.ref 327)),(dE P "_law_numbers" 609 (.ref 332)),(dE P "_law_done" 615 (.ref 337)),(dE P "_law_asked" 624 (.ref 344)),(dE P "_law_book" 635 (.ref 351)),(dE P "_law_whole" 642 (.ref 358)),(dE P "_law_right" 648 (.ref 363)),(dE P "_law_made_up" 654 (.ref 368)),(dE P "_law_bent_houses" 665 (.ref 375)),(dE P "_law_bent" 675 (.ref 382)),(dE P "_law_says" 692 (.ref 389)),(dE P "_law_no_rule" 710 (.ref 396)),(dE P "law" 726 (.ref 403))] 53))) ::
 (nat_lit 15,(tO #[(.type "ValueError")])) ::
 (nat_lit 22,(tO #[])) ::
 (nat_lit 23,(oO (.type "dict") (Data.dict #[(dE P "__module__" 196 (vS "laterline.errors" 187)),(dE P "__firstlineno__" 200 (.int 2 199)),(dE P "__static_attributes__" 201 (.ref 22)),(dE P "__weakref__" 203 (.ref 25)),(dE P "__doc__" 204 vN)] 3))) ::
 (nat_lit 24,(Obj.mk (.type "type") none (Data.cls (ClassData.mk (qS "LineError") [(.type "ValueError")] [(.ref 24),(.type "ValueError"),(.type "Exception"),(.type "BaseException"),(.type "object")] 23 (qS "LineError") Bool.true [] [(.ref 46),(.ref 67),(.ref 88),(.ref 109),(.ref 130)] Bool.false none Bool.false)) #[(some (.ref 15)),none,(some (vS "LineError" 189)),(some (vS "LineError" 197)),(some (Value.builtin "ValueError.__new__")),(some vT)])) ::
 (nat_lit 25,(oO (.type "getset_descriptor") (Data.fields #[(vS "__weakref__" 202),(.ref 24),(Value.builtin "ExceptionGroup.__weakref__"),vN]))) ::
 (nat_lit 28,(tO #[(.ref 24)])) ::
 (nat_lit 31,(oO (.type "cell") (Data.cell (some (.ref 46))))) ::
 (nat_lit 36,(tO #[(.ref 31)])) ::
 (nat_lit 37,(tO #[(vS "__class__" 222)])) ::
 (nat_lit 39,(tO #[(vS "self" 223),(vS "place" 224)])) ::
 (nat_lit 40,(tO #[])) ::
 (nat_lit 42,(oO (.type "code") (Data.fields #[(vS "__init__" 219),(vS "NoPlace.__init__" 220),(vC 221),(vZ 6),(vZ 2),(vZ 0),(vZ 0),(vZ 3),(.ref 37),vT,(vZ 181),(.ref 38),vN,(.ref 39),(.ref 40),(.ref 41),(vZ 225),(vZ 6),(vC 226)]))) ::
 (nat_lit 43,(oO (.type "function") (Data.func (FuncData.mk (qS "__init__") (qS "NoPlace.__init__") (Hd.dArgs (Hd.inCls (top 2) 0)) (.stmts (Hd.dBody (Hd.inCls (top 2) 0))) (Hd.dScope (Hd.inCls (top 2) 0)) 3 [((qS "__class__"),31)] vN vN vN (vS "laterline.errors" 187) none (.ref 42) (.ref 36) 0)))) ::
 (nat_lit 44,(tO #[(vS "place" 228)])) ::
 (nat_lit 45,(oO (.type "dict") (Data.dict #[(dE P "__module__" 214 (vS "laterline.errors" 187)),(dE P "__firstlineno__" 218 (.int 4 217)),(dE P "__init__" 227 (.ref 43)),(dE P "__static_attributes__" 229 (.ref 44)),(dE P "__doc__" 231 vN)] 3))) ::
 (nat_lit 46,(Obj.mk (.type "type") none (Data.cls (ClassData.mk (qS "NoPlace") [(.ref 24)] [(.ref 46),(.ref 24),(.type "ValueError"),(.type "Exception"),(.type "BaseException"),(.type "object")] 45 (qS "NoPlace") Bool.true [] [] Bool.false none Bool.false)) #[(some (.ref 28)),none,(some (vS "NoPlace" 207)),(some (vS "NoPlace" 215)),(some (Value.builtin "ValueError.__new__")),(some vT)])) ::
 (nat_lit 49,(tO #[(.ref 24)])) ::
 (nat_lit 52,(oO (.type "cell") (Data.cell (some (.ref 67))))) ::
 (nat_lit 57,(tO #[(.ref 52)])) ::
 (nat_lit 58,(tO #[(vS "__class__" 249)])) ::
 (nat_lit 60,(tO #[(vS "self" 250),(vS "house" 251)])) ::
 (nat_lit 61,(tO #[])) ::
 (nat_lit 63,(oO (.type "code") (Data.fields #[(vS "__init__" 246),(vS "NoHouse.__init__" 247),(vC 248),(vZ 11),(vZ 2),(vZ 0),(vZ 0),(vZ 3),(.ref 58),vT,(vZ 181),(.ref 59),vN,(.ref 60),(.ref 61),(.ref 62),(vZ 252),(vZ 11),(vC 253)]))) ::
 (nat_lit 64,(oO (.type "function") (Data.func (FuncData.mk (qS "__init__") (qS "NoHouse.__init__") (Hd.dArgs (Hd.inCls (top 3) 0)) (.stmts (Hd.dBody (Hd.inCls (top 3) 0))) (Hd.dScope (Hd.inCls (top 3) 0)) 3 [((qS "__class__"),52)] vN vN vN (vS "laterline.errors" 187) none (.ref 63) (.ref 57) 0)))) ::
 (nat_lit 65,(tO #[(vS "house" 255)])) ::
 (nat_lit 66,(oO (.type "dict") (Data.dict #[(dE P "__module__" 241 (vS "laterline.errors" 187)),(dE P "__firstlineno__" 245 (.int 9 244)),(dE P "__init__" 254 (.ref 64)),(dE P "__static_attributes__" 256 (.ref 65)),(dE P "__doc__" 258 vN)] 3))) ::
 (nat_lit 67,(Obj.mk (.type "type") none (Data.cls (ClassData.mk (qS "NoHouse") [(.ref 24)] [(.ref 67),(.ref 24),(.type "ValueError"),(.type "Exception"),(.type "BaseException"),(.type "object")] 66 (qS "NoHouse") Bool.true [] [] Bool.false none Bool.false)) #[(some (.ref 49)),none,(some (vS "NoHouse" 234)),(some (vS "NoHouse" 242)),(some (Value.builtin "ValueError.__new__")),(some vT)])) ::
 (nat_lit 70,(tO #[(.ref 24)])) ::
 (nat_lit 73,(oO (.type "cell") (Data.cell (some (.ref 88))))) ::
 (nat_lit 78,(tO #[(.ref 73)])) ::
 (nat_lit 79,(tO #[(vS "__class__" 276)])) ::
 (nat_lit 81,(tO #[(vS "self" 277)])) ::
 (nat_lit 82,(tO #[])) ::
 (nat_lit 84,(oO (.type "code") (Data.fields #[(vS "__init__" 273),(vS "NoRule.__init__" 274),(vC 275),(vZ 16),(vZ 1),(vZ 0),(vZ 0),(vZ 3),(.ref 79),vT,(vZ 181),(.ref 80),vN,(.ref 81),(.ref 82),(.ref 83),(vZ 278),(vZ 16),(vC 279)]))) ::
 (nat_lit 85,(oO (.type "function") (Data.func (FuncData.mk (qS "__init__") (qS "NoRule.__init__") (Hd.dArgs (Hd.inCls (top 4) 0)) (.stmts (Hd.dBody (Hd.inCls (top 4) 0))) (Hd.dScope (Hd.inCls (top 4) 0)) 3 [((qS "__class__"),73)] vN vN vN (vS "laterline.errors" 187) none (.ref 84) (.ref 78) 0)))) ::
 (nat_lit 86,(tO #[])) ::
 (nat_lit 87,(oO (.type "dict") (Data.dict #[(dE P "__module__" 268 (vS "laterline.errors" 187)),(dE P "__firstlineno__" 272 (.int 14 271)),(dE P "__init__" 280 (.ref 85)),(dE P "__static_attributes__" 281 (.ref 86)),(dE P "__doc__" 283 vN)] 3))) ::
 (nat_lit 88,(Obj.mk (.type "type") none (Data.cls (ClassData.mk (qS "NoRule") [(.ref 24)] [(.ref 88),(.ref 24),(.type "ValueError"),(.type "Exception"),(.type "BaseException"),(.type "object")] 87 (qS "NoRule") Bool.true [] [] Bool.false none Bool.false)) #[(some (.ref 70)),none,(some (vS "NoRule" 261)),(some (vS "NoRule" 269)),(some (Value.builtin "ValueError.__new__")),(some vT)])) ::
 (nat_lit 91,(tO #[(.ref 24)])) ::
 (nat_lit 94,(oO (.type "cell") (Data.cell (some (.ref 109))))) ::
 (nat_lit 99,(tO #[(.ref 94)])) ::
 (nat_lit 100,(tO #[(vS "__class__" 301)])) ::
 (nat_lit 102,(tO #[(vS "self" 302),(vS "what" 303)])) ::
 (nat_lit 103,(tO #[])) ::
 (nat_lit 105,(oO (.type "code") (Data.fields #[(vS "__init__" 298),(vS "NoCount.__init__" 299),(vC 300),(vZ 20),(vZ 2),(vZ 0),(vZ 0),(vZ 3),(.ref 100),vT,(vZ 181),(.ref 101),vN,(.ref 102),(.ref 103),(.ref 104),(vZ 304),(vZ 20),(vC 305)]))) ::
 (nat_lit 106,(oO (.type "function") (Data.func (FuncData.mk (qS "__init__") (qS "NoCount.__init__") (Hd.dArgs (Hd.inCls (top 5) 0)) (.stmts (Hd.dBody (Hd.inCls (top 5) 0))) (Hd.dScope (Hd.inCls (top 5) 0)) 3 [((qS "__class__"),94)] vN vN vN (vS "laterline.errors" 187) none (.ref 105) (.ref 99) 0)))) ::
 (nat_lit 107,(tO #[(vS "what" 307)])) ::
 (nat_lit 108,(oO (.type "dict") (Data.dict #[(dE P "__module__" 293 (vS "laterline.errors" 187)),(dE P "__firstlineno__" 297 (.int 18 296)),(dE P "__init__" 306 (.ref 106)),(dE P "__static_attributes__" 308 (.ref 107)),(dE P "__doc__" 310 vN)] 3))) ::
 (nat_lit 109,(Obj.mk (.type "type") none (Data.cls (ClassData.mk (qS "NoCount") [(.ref 24)] [(.ref 109),(.ref 24),(.type "ValueError"),(.type "Exception"),(.type "BaseException"),(.type "object")] 108 (qS "NoCount") Bool.true [] [] Bool.false none Bool.false)) #[(some (.ref 91)),none,(some (vS "NoCount" 286)),(some (vS "NoCount" 294)),(some (Value.builtin "ValueError.__new__")),(some vT)])) ::
 (nat_lit 112,(tO #[(.ref 24)])) ::
 (nat_lit 115,(oO (.type "cell") (Data.cell (some (.ref 130))))) ::
 (nat_lit 120,(tO #[(.ref 115)])) ::
 (nat_lit 121,(tO #[(vS "__class__" 328)])) ::
 (nat_lit 123,(tO #[(vS "self" 329)])) ::
 (nat_lit 124,(tO #[])) ::
 (nat_lit 126,(oO (.type "code") (Data.fields #[(vS "__init__" 325),(vS "NoSaying.__init__" 326),(vC 327),(vZ 25),(vZ 1),(vZ 0),(vZ 0),(vZ 3),(.ref 121),vT,(vZ 181),(.ref 122),vN,(.ref 123),(.ref 124),(.ref 125),(vZ 330),(vZ 25),(vC 331)]))) ::
 (nat_lit 127,(oO (.type "function") (Data.func (FuncData.mk (qS "__init__") (qS "NoSaying.__init__") (Hd.dArgs (Hd.inCls (top 6) 0)) (.stmts (Hd.dBody (Hd.inCls (top 6) 0))) (Hd.dScope (Hd.inCls (top 6) 0)) 3 [((qS "__class__"),115)] vN vN vN (vS "laterline.errors" 187) none (.ref 126) (.ref 120) 0)))) ::
 (nat_lit 128,(tO #[])) ::
 (nat_lit 129,(oO (.type "dict") (Data.dict #[(dE P "__module__" 320 (vS "laterline.errors" 187)),(dE P "__firstlineno__" 324 (.int 23 323)),(dE P "__init__" 332 (.ref 127)),(dE P "__static_attributes__" 333 (.ref 128)),(dE P "__doc__" 335 vN)] 3))) ::
 (nat_lit 130,(Obj.mk (.type "type") none (Data.cls (ClassData.mk (qS "NoSaying") [(.ref 24)] [(.ref 130),(.ref 24),(.type "ValueError"),(.type "Exception"),(.type "BaseException"),(.type "object")] 129 (qS "NoSaying") Bool.true [] [] Bool.false none Bool.false)) #[(some (.ref 112)),none,(some (vS "NoSaying" 313)),(some (vS "NoSaying" 321)),(some (Value.builtin "ValueError.__new__")),(some vT)])) ::
 (nat_lit 133,(tO #[])) ::
 (nat_lit 135,(tO #[(vS "thing" 347)])) ::
 (nat_lit 136,(tO #[])) ::
 (nat_lit 138,(oO (.type "code") (Data.fields #[(vS "is_number" 344),(vS "is_number" 345),(vC 346),(vZ 29),(vZ 1),(vZ 0),(vZ 0),(vZ 3),(.ref 133),vT,(vZ 181),(.ref 134),vN,(.ref 135),(.ref 136),(.ref 137),(vZ 348),(vZ 29),(vC 349)]))) ::
 (nat_lit 139,(oO (.type "function") (Data.func (FuncData.mk (qS "is_number") (qS "is_number") (Hd.dArgs (top 9)) (.stmts (Hd.dBody (top 9))) (Hd.dScope (top 9)) 3 [] vN vN vN (vS "laterline.counts" 338) none (.ref 138) vN 0)))) ::
 (nat_lit 140,(tO #[])) ::
 (nat_lit 142,(tO #[(vS "thing" 354),(vS "least" 355),(vS "most" 356)])) ::
 (nat_lit 143,(tO #[])) ::
 (nat_lit 145,(oO (.type "code") (Data.fields #[(vS "is_within" 351),(vS "is_within" 352),(vC 353),(vZ 31),(vZ 3),(vZ 0),(vZ 0),(vZ 3),(.ref 140),vT,(vZ 181),(.ref 141),vN,(.ref 142),(.ref 143),(.ref 144),(vZ 357),(vZ 31),(vC 358)]))) ::
 (nat_lit 146,(oO (.type "function") (Data.func (FuncData.mk (qS "is_within") (qS "is_within") (Hd.dArgs (top 10)) (.stmts (Hd.dBody (top 10))) (Hd.dScope (top 10)) 3 [] vN vN vN (vS "laterline.counts" 338) none (.ref 145) vN 0)))) ::
 (nat_lit 147,(tO #[])) ::
 (nat_lit 149,(tO #[(vS "thing" 363)])) ::
 (nat_lit 150,(tO #[])) ::
 (nat_lit 152,(oO (.type "code") (Data.fields #[(vS "is_place" 360),(vS "is_place" 361),(vC 362),(vZ 33),(vZ 1),(vZ 0),(vZ 0),(vZ 3),(.ref 147),vT,(vZ 181),(.ref 148),vN,(.ref 149),(.ref 150),(.ref 151),(vZ 364),(vZ 33),(vC 365)]))) ::
 (nat_lit 153,(oO (.type "function") (Data.func (FuncData.mk (qS "is_place") (qS "is_place") (Hd.dArgs (top 11)) (.stmts (Hd.dBody (top 11))) (Hd.dScope (top 11)) 3 [] vN vN vN (vS "laterline.counts" 338) none (.ref 152) vN 0)))) ::
 (nat_lit 154,(tO #[])) ::
 (nat_lit 156,(tO #[(vS "thing" 376)])) ::
 (nat_lit 157,(tO #[])) ::
 (nat_lit 159,(oO (.type "code") (Data.fields #[(vS "is_line" 373),(vS "is_line" 374),(vC 375),(vZ 37),(vZ 1),(vZ 0),(vZ 0),(vZ 3),(.ref 154),vT,(vZ 181),(.ref 155),vN,(.ref 156),(.ref 157),(.ref 158),(vZ 377),(vZ 37),(vC 378)]))) ::
 (nat_lit 160,(oO (.type "function") (Data.func (FuncData.mk (qS "is_line") (qS "is_line") (Hd.dArgs (top 14)) (.stmts (Hd.dBody (top 14))) (Hd.dScope (top 14)) 3 [] vN vN vN (vS "laterline.lines" 367) none (.ref 159) vN 0)))) ::
 (nat_lit 161,(tO #[])) ::
 (nat_lit 163,(tO #[(vS "thing" 385),(vS "word" 386)])) ::
 (nat_lit 164,(tO #[])) ::
 (nat_lit 166,(oO (.type "code") (Data.fields #[(vS "is_word" 382),(vS "is_word" 383),(vC 384),(vZ 40),(vZ 2),(vZ 0),(vZ 0),(vZ 3),(.ref 161),vT,(vZ 181),(.ref 162),vN,(.ref 163),(.ref 164),(.ref 165),(vZ 387),(vZ 40),(vC 388)]))) ::
 (nat_lit 167,(oO (.type "function") (Data.func (FuncData.mk (qS "is_word") (qS "is_word") (Hd.dArgs (top 16)) (.stmts (Hd.dBody (top 16))) (Hd.dScope (top 16)) 3 [] vN vN vN (vS "laterline.rows" 380) none (.ref 166) vN 0)))) ::
 (nat_lit 168,(tO #[(vS "written" 392)])) ::
 (nat_lit 169,(oO (.type "dict") (Data.dict #[(dE P "houses" 396 (.int 8 394))] 1))) ::
 (nat_lit 170,(tO #[])) ::
 (nat_lit 172,(tO #[(vS "thing" 400),(vS "houses" 401)])) ::
 (nat_lit 173,(tO #[])) ::
 (nat_lit 175,(oO (.type "code") (Data.fields #[(vS "is_house" 397),(vS "is_house" 398),(vC 399),(vZ 45),(vZ 1),(vZ 0),(vZ 1),(vZ 3),(.ref 170),vT,(vZ 181),(.ref 171),vN,(.ref 172),(.ref 173),(.ref 174),(vZ 402),(vZ 45),(vC 403)]))) ::
 (nat_lit 176,(oO (.type "function") (Data.func (FuncData.mk (qS "is_house") (qS "is_house") (Hd.dArgs (top 20)) (.stmts (Hd.dBody (top 20))) (Hd.dScope (top 20)) 3 [] vN (.ref 169) vN (vS "laterline.rules" 390) none (.ref 175) vN 0)))) ::
 (nat_lit 177,(tO #[])) ::
 (nat_lit 179,(tO #[(vS "thing" 408)])) ::
 (nat_lit 180,(tO #[])) ::
 (nat_lit 182,(oO (.type "code") (Data.fields #[(vS "is_counted_rule" 405),(vS "is_counted_rule" 406),(vC 407),(vZ 47),(vZ 1),(vZ 0),(vZ 0),(vZ 3),(.ref 177),vT,(vZ 181),(.ref 178),vN,(.ref 179),(.ref 180),(.ref 181),(vZ 409),(vZ 47),(vC 410)]))) ::
 (nat_lit 183,(oO (.type "function") (Data.func (FuncData.mk (qS "is_counted_rule") (qS "is_counted_rule") (Hd.dArgs (top 21)) (.stmts (Hd.dBody (top 21))) (Hd.dScope (top 21)) 3 [] vN vN vN (vS "laterline.rules" 390) none (.ref 182) vN 0)))) ::
 (nat_lit 184,(tO #[])) ::
 (nat_lit 186,(tO #[(vS "thing" 415)])) ::
 (nat_lit 187,(tO #[])) ::
 (nat_lit 189,(oO (.type "code") (Data.fields #[(vS "is_rule" 412),(vS "is_rule" 413),(vC 414),(vZ 51),(vZ 1),(vZ 0),(vZ 0),(vZ 3),(.ref 184),vT,(vZ 181),(.ref 185),vN,(.ref 186),(.ref 187),(.ref 188),(vZ 416),(vZ 51),(vC 417)]))) ::
 (nat_lit 190,(oO (.type "function") (Data.func (FuncData.mk (qS "is_rule") (qS "is_rule") (Hd.dArgs (top 22)) (.stmts (Hd.dBody (top 22))) (Hd.dScope (top 22)) 3 [] vN vN vN (vS "laterline.rules" 390) none (.ref 189) vN 0)))) ::
 (nat_lit 191,(tO #[])) ::
 (nat_lit 193,(tO #[(vS "thing" 422)])) ::
 (nat_lit 194,(tO #[])) ::
 (nat_lit 196,(oO (.type "code") (Data.fields #[(vS "require_rule" 419),(vS "require_rule" 420),(vC 421),(vZ 57),(vZ 1),(vZ 0),(vZ 0),(vZ 3),(.ref 191),vT,(vZ 181),(.ref 192),vN,(.ref 193),(.ref 194),(.ref 195),(vZ 423),(vZ 57),(vC 424)]))) ::
 (nat_lit 197,(oO (.type "function") (Data.func (FuncData.mk (qS "require_rule") (qS "require_rule") (Hd.dArgs (top 23)) (.stmts (Hd.dBody (top 23))) (Hd.dScope (top 23)) 3 [] vN vN vN (vS "laterline.rules" 390) none (.ref 196) vN 0)))) ::
 (nat_lit 198,(tO #[])) ::
 (nat_lit 200,(tO #[(vS "rule" 429)])) ::
 (nat_lit 201,(tO #[])) ::
 (nat_lit 203,(oO (.type "code") (Data.fields #[(vS "need" 426),(vS "need" 427),(vC 428),(vZ 60),(vZ 1),(vZ 0),(vZ 0),(vZ 3),(.ref 198),vT,(vZ 181),(.ref 199),vN,(.ref 200),(.ref 201),(.ref 202),(vZ 430),(vZ 60),(vC 431)]))) ::
 (nat_lit 204,(oO (.type "function") (Data.func (FuncData.mk (qS "need") (qS "need") (Hd.dArgs (top 24)) (.stmts (Hd.dBody (top 24))) (Hd.dScope (top 24)) 3 [] vN vN vN (vS "laterline.rules" 390) none (.ref 203) vN 0)))) ::
 (nat_lit 205,(tO #[])) ::
 (nat_lit 207,(tO #[(vS "thing" 438),(vS "house" 439),(vS "line" 440),(vS "end" 441),(vS "applied" 442)])) ::
 (nat_lit 208,(tO #[])) ::
 (nat_lit 210,(oO (.type "code") (Data.fields #[(vS "is_saying" 435),(vS "is_saying" 436),(vC 437),(vZ 64),(vZ 1),(vZ 0),(vZ 0),(vZ 3),(.ref 205),vT,(vZ 181),(.ref 206),vN,(.ref 207),(.ref 208),(.ref 209),(vZ 443),(vZ 64),(vC 444)]))) ::
 (nat_lit 211,(oO (.type "function") (Data.func (FuncData.mk (qS "is_saying") (qS "is_saying") (Hd.dArgs (top 26)) (.stmts (Hd.dBody (top 26))) (Hd.dScope (top 26)) 3 [] vN vN vN (vS "laterline.books" 433) none (.ref 210) vN 0)))) ::
 (nat_lit 219,(tO #[])) ::
 (nat_lit 221,(tO #[(vS "self" 461)])) ::
 (nat_lit 222,(tO #[])) ::
 (nat_lit 224,(oO (.type "code") (Data.fields #[(vS "__init__" 458),(vS "Book.__init__" 459),(vC 460),(vZ 71),(vZ 1),(vZ 0),(vZ 0),(vZ 3),(.ref 219),vT,(vZ 181),(.ref 220),vN,(.ref 221),(.ref 222),(.ref 223),(vZ 462),(vZ 71),(vC 463)]))) ::
 (nat_lit 225,(oO (.type "function") (Data.func (FuncData.mk (qS "__init__") (qS "Book.__init__") (Hd.dArgs (Hd.inCls (top 27) 0)) (.stmts (Hd.dBody (Hd.inCls (top 27) 0))) (Hd.dScope (Hd.inCls (top 27) 0)) 3 [] vN vN vN (vS "laterline.books" 433) none (.ref 224) vN 0)))) ::
 (nat_lit 226,(tO #[])) ::
 (nat_lit 228,(tO #[(vS "self" 468),(vS "saying" 469),(vS "house" 470),(vS "line" 471),(vS "end" 472),(vS "applied" 473),(vS "most_end" 474),(vS "most_applied" 475)])) ::
 (nat_lit 229,(tO #[])) ::
 (nat_lit 231,(oO (.type "code") (Data.fields #[(vS "note" 465),(vS "Book.note" 466),(vC 467),(vZ 74),(vZ 2),(vZ 0),(vZ 0),(vZ 3),(.ref 226),vT,(vZ 181),(.ref 227),vN,(.ref 228),(.ref 229),(.ref 230),(vZ 476),(vZ 74),(vC 477)]))) ::
 (nat_lit 232,(oO (.type "function") (Data.func (FuncData.mk (qS "note") (qS "Book.note") (Hd.dArgs (Hd.inCls (top 27) 1)) (.stmts (Hd.dBody (Hd.inCls (top 27) 1))) (Hd.dScope (Hd.inCls (top 27) 1)) 3 [] vN vN vN (vS "laterline.books" 433) none (.ref 231) vN 0)))) ::
 (nat_lit 233,(tO #[])) ::
 (nat_lit 236,(oO (.type "code") (Data.fields #[(vS "said" 479),(vS "Book.said" 480),(vC 481),(vZ 81),(vZ 1),(vZ 0),(vZ 0),(vZ 3),(.ref 233),vT,(vZ 181),(.ref 234),vN,vN,vN,(.ref 235),(vZ 482),(vZ 81),(vC 483)]))) ::
 (nat_lit 237,(oO (.type "function") (Data.func (FuncData.mk (qS "said") (qS "Book.said") (Hd.dArgs (Hd.inCls (top 27) 2)) (.stmts (Hd.dBody (Hd.inCls (top 27) 2))) (Hd.dScope (Hd.inCls (top 27) 2)) 3 [] vN vN vN (vS "laterline.books" 433) none (.ref 236) vN 0)))) ::
 (nat_lit 238,(tO #[])) ::
 (nat_lit 240,(tO #[(vS "self" 488),(vS "house" 489),(vS "line" 490)])) ::
 (nat_lit 241,(tO #[])) ::
 (nat_lit 243,(oO (.type "code") (Data.fields #[(vS "told" 485),(vS "Book.told" 486),(vC 487),(vZ 84),(vZ 3),(vZ 0),(vZ 0),(vZ 3),(.ref 238),vT,(vZ 181),(.ref 239),vN,(.ref 240),(.ref 241),(.ref 242),(vZ 491),(vZ 84),(vC 492)]))) ::
 (nat_lit 244,(oO (.type "function") (Data.func (FuncData.mk (qS "told") (qS "Book.told") (Hd.dArgs (Hd.inCls (top 27) 3)) (.stmts (Hd.dBody (Hd.inCls (top 27) 3))) (Hd.dScope (Hd.inCls (top 27) 3)) 3 [] vN vN vN (vS "laterline.books" 433) none (.ref 243) vN 0)))) ::
 (nat_lit 245,(tO #[])) ::
 (nat_lit 247,(tO #[(vS "self" 497)])) ::
 (nat_lit 248,(tO #[])) ::
 (nat_lit 250,(oO (.type "code") (Data.fields #[(vS "__len__" 494),(vS "Book.__len__" 495),(vC 496),(vZ 87),(vZ 1),(vZ 0),(vZ 0),(vZ 3),(.ref 245),vT,(vZ 181),(.ref 246),vN,(.ref 247),(.ref 248),(.ref 249),(vZ 498),(vZ 87),(vC 499)]))) ::
 (nat_lit 251,(oO (.type "function") (Data.func (FuncData.mk (qS "__len__") (qS "Book.__len__") (Hd.dArgs (Hd.inCls (top 27) 4)) (.stmts (Hd.dBody (Hd.inCls (top 27) 4))) (Hd.dScope (Hd.inCls (top 27) 4)) 3 [] vN vN vN (vS "laterline.books" 433) none (.ref 250) vN 0)))) ::
 (nat_lit 252,(tO #[])) ::
 (nat_lit 254,(tO #[(vS "self" 504),(vS "other" 505)])) ::
 (nat_lit 255,(tO #[])) ::
 (nat_lit 257,(oO (.type "code") (Data.fields #[(vS "__eq__" 501),(vS "Book.__eq__" 502),(vC 503),(vZ 90),(vZ 2),(vZ 0),(vZ 0),(vZ 3),(.ref 252),vT,(vZ 181),(.ref 253),vN,(.ref 254),(.ref 255),(.ref 256),(vZ 506),(vZ 90),(vC 507)]))) ::
 (nat_lit 258,(oO (.type "function") (Data.func (FuncData.mk (qS "__eq__") (qS "Book.__eq__") (Hd.dArgs (Hd.inCls (top 27) 5)) (.stmts (Hd.dBody (Hd.inCls (top 27) 5))) (Hd.dScope (Hd.inCls (top 27) 5)) 3 [] vN vN vN (vS "laterline.books" 433) none (.ref 257) vN 0)))) ::
 (nat_lit 259,(tO #[(vS "sayings" 509)])) ::
 (nat_lit 260,(oO (.type "dict") (Data.dict #[(dE P "__module__" 453 (vS "laterline.books" 433)),(dE P "__firstlineno__" 457 (.int 69 456)),(dE P "__init__" 464 (.ref 225)),(dE P "note" 478 (.ref 232)),(dE P "said" 484 (.ref 237)),(dE P "told" 493 (.ref 244)),(dE P "__len__" 500 (.ref 251)),(dE P "__eq__" 508 (.ref 258)),(dE P "__static_attributes__" 510 (.ref 259)),(dE P "__dict__" 512 (.ref 262)),(dE P "__weakref__" 514 (.ref 263)),(dE P "__doc__" 515 vN),(dE P "__hash__" 516 vN)] 5))) ::
 (nat_lit 261,(Obj.mk (.type "type") none (Data.cls (ClassData.mk (qS "Book") [(.type "object")] [(.ref 261),(.type "object")] 260 (qS "Book") Bool.true [] [] Bool.false none Bool.false)) #[none,none,(some (vS "Book" 446)),(some (vS "Book" 454)),(some (Value.builtin "object.__new__")),(some vT)])) ::
 (nat_lit 262,(oO (.type "getset_descriptor") (Data.fields #[(vS "__dict__" 511),(.ref 261),(Value.builtin "function.__dict__"),(Value.builtin "function.__dict__#set")]))) ::
 (nat_lit 263,(oO (.type "getset_descriptor") (Data.fields #[(vS "__weakref__" 513),(.ref 261),(Value.builtin "ExceptionGroup.__weakref__"),vN]))) ::
 (nat_lit 266,(tO #[])) ::
 (nat_lit 268,(tO #[(vS "saying" 522),(vS "rule" 523)])) ::
 (nat_lit 269,(tO #[])) ::
 (nat_lit 271,(oO (.type "code") (Data.fields #[(vS "counted" 519),(vS "counted" 520),(vC 521),(vZ 92),(vZ 2),(vZ 0),(vZ 0),(vZ 3),(.ref 266),vT,(vZ 181),(.ref 267),vN,(.ref 268),(.ref 269),(.ref 270),(vZ 524),(vZ 92),(vC 525)]))) ::
 (nat_lit 272,(oO (.type "function") (Data.func (FuncData.mk (qS "counted") (qS "counted") (Hd.dArgs (top 28)) (.stmts (Hd.dBody (top 28))) (Hd.dScope (top 28)) 3 [] vN vN vN (vS "laterline.books" 433) none (.ref 271) vN 0)))) ::
 (nat_lit 273,(tO #[])) ::
 (nat_lit 276,(oO (.type "code") (Data.fields #[(vS "others_told" 527),(vS "others_told" 528),(vC 529),(vZ 94),(vZ 4),(vZ 0),(vZ 0),(vZ 3),(.ref 273),vT,(vZ 181),(.ref 274),vN,vN,vN,(.ref 275),(vZ 530),(vZ 94),(vC 531)]))) ::
 (nat_lit 277,(oO (.type "function") (Data.func (FuncData.mk (qS "others_told") (qS "others_told") (Hd.dArgs (top 29)) (.stmts (Hd.dBody (top 29))) (Hd.dScope (top 29)) 3 [] vN vN vN (vS "laterline.books" 433) none (.ref 276) vN 0)))) ::
 (nat_lit 278,(tO #[])) ::
 (nat_lit 281,(oO (.type "code") (Data.fields #[(vS "is_rising" 533),(vS "is_rising" 534),(vC 535),(vZ 96),(vZ 1),(vZ 0),(vZ 0),(vZ 3),(.ref 278),vT,(vZ 181),(.ref 279),vN,vN,vN,(.ref 280),(vZ 536),(vZ 96),(vC 537)]))) ::
 (nat_lit 282,(oO (.type "function") (Data.func (FuncData.mk (qS "is_rising") (qS "is_rising") (Hd.dArgs (top 30)) (.stmts (Hd.dBody (top 30))) (Hd.dScope (top 30)) 3 [] vN vN vN (vS "laterline.books" 433) none (.ref 281) vN 0)))) ::
 (nat_lit 283,(tO #[])) ::
 (nat_lit 285,(tO #[(vS "thing" 542)])) ::
 (nat_lit 286,(tO #[])) ::
 (nat_lit 288,(oO (.type "code") (Data.fields #[(vS "is_done_paper" 539),(vS "is_done_paper" 540),(vC 541),(vZ 100),(vZ 1),(vZ 0),(vZ 0),(vZ 3),(.ref 283),vT,(vZ 181),(.ref 284),vN,(.ref 285),(.ref 286),(.ref 287),(vZ 543),(vZ 100),(vC 544)]))) ::
 (nat_lit 289,(oO (.type "function") (Data.func (FuncData.mk (qS "is_done_paper") (qS "is_done_paper") (Hd.dArgs (top 31)) (.stmts (Hd.dBody (top 31))) (Hd.dScope (top 31)) 3 [] vN vN vN (vS "laterline.books" 433) none (.ref 288) vN 0)))) ::
 (nat_lit 290,(tO #[])) ::
 (nat_lit 293,(oO (.type "code") (Data.fields #[(vS "right_done" 546),(vS "right_done" 547),(vC 548),(vZ 104),(vZ 7),(vZ 0),(vZ 0),(vZ 3),(.ref 290),vT,(vZ 181),(.ref 291),vN,vN,vN,(.ref 292),(vZ 549),(vZ 104),(vC 550)]))) ::
 (nat_lit 294,(oO (.type "function") (Data.func (FuncData.mk (qS "right_done") (qS "right_done") (Hd.dArgs (top 32)) (.stmts (Hd.dBody (top 32))) (Hd.dScope (top 32)) 3 [] vN vN vN (vS "laterline.books" 433) none (.ref 293) vN 0)))) ::
 (nat_lit 295,(tO #[])) ::
 (nat_lit 298,(oO (.type "code") (Data.fields #[(vS "_law_deck" 554),(vS "_law_deck" 555),(vC 556),(vZ 113),(vZ 1),(vZ 0),(vZ 0),(vZ 3),(.ref 295),vT,(vZ 181),(.ref 296),vN,vN,vN,(.ref 297),(vZ 557),(vZ 113),(vC 558)]))) ::
 (nat_lit 299,(oO (.type "function") (Data.func (FuncData.mk (qS "_law_deck") (qS "_law_deck") (Hd.dArgs (top 34)) (.stmts (Hd.dBody (top 34))) (Hd.dScope (top 34)) 3 [] vN vN vN (vS "law_laterline_k39_done_papers_judged" 552) none (.ref 298) vN 0)))) ::
 (nat_lit 300,(tO #[])) ::
 (nat_lit 302,(tO #[(vS "_law_deck_here" 563),(vS "_law_many" 564),(vS "_law_cells" 565),(vS "_law_count" 566),(vS "_law_rests" 567),(vS "_law_place" 568),(vS "_law_digits" 569),(vS "_law_mixed" 570)])) ::
 (nat_lit 303,(tO #[])) ::
 (nat_lit 305,(oO (.type "code") (Data.fields #[(vS "_law_take" 560),(vS "_law_take" 561),(vC 562),(vZ 116),(vZ 2),(vZ 0),(vZ 0),(vZ 3),(.ref 300),vT,(vZ 181),(.ref 301),vN,(.ref 302),(.ref 303),(.ref 304),(vZ 571),(vZ 116),(vC 572)]))) ::
 (nat_lit 306,(oO (.type "function") (Data.func (FuncData.mk (qS "_law_take") (qS "_law_take") (Hd.dArgs (top 35)) (.stmts (Hd.dBody (top 35))) (Hd.dScope (top 35)) 3 [] vN vN vN (vS "law_laterline_k39_done_papers_judged" 552) none (.ref 305) vN 0)))) ::
 (nat_lit 307,(tO #[])) ::
 (nat_lit 309,(tO #[(vS "_law_deck_here" 577),(vS "_law_end" 578),(vS "_law_line" 579),(vS "_law_applied" 580)])) ::
 (nat_lit 310,(tO #[])) ::
 (nat_lit 312,(oO (.type "code") (Data.fields #[(vS "_law_saying" 574),(vS "_law_saying" 575),(vC 576),(vZ 128),(vZ 1),(vZ 0),(vZ 0),(vZ 3),(.ref 307),vT,(vZ 181),(.ref 308),vN,(.ref 309),(.ref 310),(.ref 311),(vZ 581),(vZ 128),(vC 582)]))) ::
 (nat_lit 313,(oO (.type "function") (Data.func (FuncData.mk (qS "_law_saying") (qS "_law_saying") (Hd.dArgs (top 36)) (.stmts (Hd.dBody (top 36))) (Hd.dScope (top 36)) 3 [] vN vN vN (vS "law_laterline_k39_done_papers_judged" 552) none (.ref 312) vN 0)))) ::
 (nat_lit 314,(tO #[])) ::
 (nat_lit 316,(tO #[(vS "_law_model" 587),(vS "_law_saying_here" 588),(vS "_law_one" 589),(vS "_law_line" 590),(vS "_law_end" 591),(vS "_law_applied" 592),(vS "_law_known" 593)])) ::
 (nat_lit 317,(tO #[])) ::
 (nat_lit 319,(oO (.type "code") (Data.fields #[(vS "_law_put" 584),(vS "_law_put" 585),(vC 586),(vZ 136),(vZ 2),(vZ 0),(vZ 0),(vZ 3),(.ref 314),vT,(vZ 181),(.ref 315),vN,(.ref 316),(.ref 317),(.ref 318),(vZ 594),(vZ 136),(vC 595)]))) ::
 (nat_lit 320,(oO (.type "function") (Data.func (FuncData.mk (qS "_law_put") (qS "_law_put") (Hd.dArgs (top 37)) (.stmts (Hd.dBody (top 37))) (Hd.dScope (top 37)) 3 [] vN vN vN (vS "law_laterline_k39_done_papers_judged" 552) none (.ref 319) vN 0)))) ::
 (nat_lit 321,(tO #[])) ::
 (nat_lit 323,(tO #[(vS "_law_deck_here" 600)])) ::
 (nat_lit 324,(tO #[])) ::
 (nat_lit 326,(oO (.type "code") (Data.fields #[(vS "_law_rule" 597),(vS "_law_rule" 598),(vC 599),(vZ 140),(vZ 1),(vZ 0),(vZ 0),(vZ 3),(.ref 321),vT,(vZ 181),(.ref 322),vN,(.ref 323),(.ref 324),(.ref 325),(vZ 601),(vZ 140),(vC 602)]))) ::
 (nat_lit 327,(oO (.type "function") (Data.func (FuncData.mk (qS "_law_rule") (qS "_law_rule") (Hd.dArgs (top 38)) (.stmts (Hd.dBody (top 38))) (Hd.dScope (top 38)) 3 [] vN vN vN (vS "law_laterline_k39_done_papers_judged" 552) none (.ref 326) vN 0)))) ::
 (nat_lit 328,(tO #[])) ::
 (nat_lit 331,(oO (.type "code") (Data.fields #[(vS "_law_numbers" 604),(vS "_law_numbers" 605),(vC 606),(vZ 142),(vZ 3),(vZ 0),(vZ 0),(vZ 3),(.ref 328),vT,(vZ 181),(.ref 329),vN,vN,vN,(.ref 330),(vZ 607),(vZ 142),(vC 608)]))) ::
 (nat_lit 332,(oO (.type "function") (Data.func (FuncData.mk (qS "_law_numbers") (qS "_law_numbers") (Hd.dArgs (top 39)) (.stmts (Hd.dBody (top 39))) (Hd.dScope (top 39)) 3 [] vN vN vN (vS "law_laterline_k39_done_papers_judged" 552) none (.ref 331) vN 0)))) ::
 (nat_lit 333,(tO #[])) ::
 (nat_lit 336,(oO (.type "code") (Data.fields #[(vS "_law_done" 610),(vS "_law_done" 611),(vC 612),(vZ 145),(vZ 2),(vZ 0),(vZ 0),(vZ 3),(.ref 333),vT,(vZ 181),(.ref 334),vN,vN,vN,(.ref 335),(vZ 613),(vZ 145),(vC 614)]))) ::
 (nat_lit 337,(oO (.type "function") (Data.func (FuncData.mk (qS "_law_done") (qS "_law_done") (Hd.dArgs (top 40)) (.stmts (Hd.dBody (top 40))) (Hd.dScope (top 40)) 3 [] vN vN vN (vS "law_laterline_k39_done_papers_judged" 552) none (.ref 336) vN 0)))) ::
 (nat_lit 338,(tO #[])) ::
 (nat_lit 340,(tO #[(vS "_law_deck_here" 619),(vS "_law_end" 620),(vS "_law_fork" 621)])) ::
 (nat_lit 341,(tO #[])) ::
 (nat_lit 343,(oO (.type "code") (Data.fields #[(vS "_law_asked" 616),(vS "_law_asked" 617),(vC 618),(vZ 158),(vZ 1),(vZ 0),(vZ 0),(vZ 3),(.ref 338),vT,(vZ 181),(.ref 339),vN,(.ref 340),(.ref 341),(.ref 342),(vZ 622),(vZ 158),(vC 623)]))) ::
 (nat_lit 344,(oO (.type "function") (Data.func (FuncData.mk (qS "_law_asked") (qS "_law_asked") (Hd.dArgs (top 41)) (.stmts (Hd.dBody (top 41))) (Hd.dScope (top 41)) 3 [] vN vN vN (vS "law_laterline_k39_done_papers_judged" 552) none (.ref 343) vN 0)))) ::
 (nat_lit 345,(tO #[])) ::
 (nat_lit 347,(tO #[(vS "_law_deck_here" 628),(vS "_law_book_here" 629),(vS "_law_model" 630),(vS "_law_k" 631),(vS "_law_saying_here" 632)])) ::
 (nat_lit 348,(tO #[])) ::
 (nat_lit 350,(oO (.type "code") (Data.fields #[(vS "_law_book" 625),(vS "_law_book" 626),(vC 627),(vZ 164),(vZ 3),(vZ 0),(vZ 0),(vZ 3),(.ref 345),vT,(vZ 181),(.ref 346),vN,(.ref 347),(.ref 348),(.ref 349),(vZ 633),(vZ 164),(vC 634)]))) ::
 (nat_lit 351,(oO (.type "function") (Data.func (FuncData.mk (qS "_law_book") (qS "_law_book") (Hd.dArgs (top 42)) (.stmts (Hd.dBody (top 42))) (Hd.dScope (top 42)) 3 [] vN vN vN (vS "law_laterline_k39_done_papers_judged" 552) none (.ref 350) vN 0)))) ::
 (nat_lit 352,(tO #[])) ::
 (nat_lit 354,(tO #[(vS "_law_thing" 639)])) ::
 (nat_lit 355,(tO #[])) ::
 (nat_lit 357,(oO (.type "code") (Data.fields #[(vS "_law_whole" 636),(vS "_law_whole" 637),(vC 638),(vZ 169),(vZ 1),(vZ 0),(vZ 0),(vZ 3),(.ref 352),vT,(vZ 181),(.ref 353),vN,(.ref 354),(.ref 355),(.ref 356),(vZ 640),(vZ 169),(vC 641)]))) ::
 (nat_lit 358,(oO (.type "function") (Data.func (FuncData.mk (qS "_law_whole") (qS "_law_whole") (Hd.dArgs (top 43)) (.stmts (Hd.dBody (top 43))) (Hd.dScope (top 43)) 3 [] vN vN vN (vS "law_laterline_k39_done_papers_judged" 552) none (.ref 357) vN 0)))) ::
 (nat_lit 359,(tO #[])) ::
 (nat_lit 362,(oO (.type "code") (Data.fields #[(vS "_law_right" 643),(vS "_law_right" 644),(vC 645),(vZ 171),(vZ 3),(vZ 0),(vZ 0),(vZ 3),(.ref 359),vT,(vZ 181),(.ref 360),vN,vN,vN,(.ref 361),(vZ 646),(vZ 171),(vC 647)]))) ::
 (nat_lit 363,(oO (.type "function") (Data.func (FuncData.mk (qS "_law_right") (qS "_law_right") (Hd.dArgs (top 44)) (.stmts (Hd.dBody (top 44))) (Hd.dScope (top 44)) 3 [] vN vN vN (vS "law_laterline_k39_done_papers_judged" 552) none (.ref 362) vN 0)))) ::
 (nat_lit 364,(tO #[])) ::
 (nat_lit 367,(oO (.type "code") (Data.fields #[(vS "_law_made_up" 649),(vS "_law_made_up" 650),(vC 651),(vZ 184),(vZ 3),(vZ 0),(vZ 0),(vZ 3),(.ref 364),vT,(vZ 181),(.ref 365),vN,vN,vN,(.ref 366),(vZ 652),(vZ 184),(vC 653)]))) ::
 (nat_lit 368,(oO (.type "function") (Data.func (FuncData.mk (qS "_law_made_up") (qS "_law_made_up") (Hd.dArgs (top 45)) (.stmts (Hd.dBody (top 45))) (Hd.dScope (top 45)) 3 [] vN vN vN (vS "law_laterline_k39_done_papers_judged" 552) none (.ref 367) vN 0)))) ::
 (nat_lit 369,(tO #[])) ::
 (nat_lit 371,(tO #[(vS "_law_deck_here" 658),(vS "_law_houses" 659),(vS "_law_place" 660),(vS "_law_more" 661),(vS "_law_some" 662)])) ::
 (nat_lit 372,(tO #[])) ::
 (nat_lit 374,(oO (.type "code") (Data.fields #[(vS "_law_bent_houses" 655),(vS "_law_bent_houses" 656),(vC 657),(vZ 190),(vZ 2),(vZ 0),(vZ 0),(vZ 3),(.ref 369),vT,(vZ 181),(.ref 370),vN,(.ref 371),(.ref 372),(.ref 373),(vZ 663),(vZ 190),(vC 664)]))) ::
 (nat_lit 375,(oO (.type "function") (Data.func (FuncData.mk (qS "_law_bent_houses") (qS "_law_bent_houses") (Hd.dArgs (top 46)) (.stmts (Hd.dBody (top 46))) (Hd.dScope (top 46)) 3 [] vN vN vN (vS "law_laterline_k39_done_papers_judged" 552) none (.ref 374) vN 0)))) ::
 (nat_lit 376,(tO #[])) ::
 (nat_lit 378,(tO #[(vS "_law_deck_here" 669),(vS "_law_paper" 670),(vS "_law_way" 671),(vS "_law_odd" 672)])) ::
 (nat_lit 379,(tO #[])) ::
 (nat_lit 381,(oO (.type "code") (Data.fields #[(vS "_law_bent" 666),(vS "_law_bent" 667),(vC 668),(vZ 198),(vZ 2),(vZ 0),(vZ 0),(vZ 3),(.ref 376),vT,(vZ 181),(.ref 377),vN,(.ref 378),(.ref 379),(.ref 380),(vZ 673),(vZ 198),(vC 674)]))) ::
 (nat_lit 382,(oO (.type "function") (Data.func (FuncData.mk (qS "_law_bent") (qS "_law_bent") (Hd.dArgs (top 47)) (.stmts (Hd.dBody (top 47))) (Hd.dScope (top 47)) 3 [] vN vN vN (vS "law_laterline_k39_done_papers_judged" 552) none (.ref 381) vN 0)))) ::
 (nat_lit 383,(tO #[])) ::
 (nat_lit 385,(tO #[(vS "_law_book_here" 679),(vS "_law_model" 680),(vS "_law_asked_here" 681),(vS "_law_thing" 682),(vS "_law_line" 683),(vS "_law_fork" 684),(vS "_law_end" 685),(vS "_law_one" 686),(vS "_law_rule_here" 687),(vS "_law_was" 688),(vS "_law_found" 689)])) ::
 (nat_lit 386,(tO #[])) ::
 (nat_lit 388,(oO (.type "code") (Data.fields #[(vS "_law_says" 676),(vS "_law_says" 677),(vC 678),(vZ 209),(vZ 4),(vZ 0),(vZ 0),(vZ 3),(.ref 383),vT,(vZ 181),(.ref 384),vN,(.ref 385),(.ref 386),(.ref 387),(vZ 690),(vZ 209),(vC 691)]))) ::
 (nat_lit 389,(oO (.type "function") (Data.func (FuncData.mk (qS "_law_says") (qS "_law_says") (Hd.dArgs (top 48)) (.stmts (Hd.dBody (top 48))) (Hd.dScope (top 48)) 3 [] vN vN vN (vS "law_laterline_k39_done_papers_judged" 552) none (.ref 388) vN 0)))) ::
 (nat_lit 390,(tO #[])) ::
 (nat_lit 392,(tO #[(vS "_law_deck_here" 696),(vS "_law_book_here" 697),(vS "_law_asked_here" 698),(vS "_law_thing" 699),(vS "_law_odd" 700),(vS "_law_line" 701),(vS "_law_fork" 702),(vS "_law_end" 703),(vS "_law_one" 704),(vS "_law_rule_here" 705),(vS "_law_caught" 706),(vS "error" 707)])) ::
 (nat_lit 393,(tO #[])) ::
 (nat_lit 395,(oO (.type "code") (Data.fields #[(vS "_law_no_rule" 693),(vS "_law_no_rule" 694),(vC 695),(vZ 214),(vZ 4),(vZ 0),(vZ 0),(vZ 3),(.ref 390),vT,(vZ 181),(.ref 391),vN,(.ref 392),(.ref 393),(.ref 394),(vZ 708),(vZ 214),(vC 709)]))) ::
 (nat_lit 396,(oO (.type "function") (Data.func (FuncData.mk (qS "_law_no_rule") (qS "_law_no_rule") (Hd.dArgs (top 49)) (.stmts (Hd.dBody (top 49))) (Hd.dScope (top 49)) 3 [] vN vN vN (vS "law_laterline_k39_done_papers_judged" 552) none (.ref 395) vN 0)))) ::
 (nat_lit 397,(tO #[])) ::
 (nat_lit 399,(tO #[(vS "_law_script" 714),(vS "_law_deck_here" 715),(vS "_law_book_here" 716),(vS "_law_model" 717),(vS "_law_was" 718),(vS "_law_turn" 719),(vS "_law_asked_here" 720),(vS "_law_paper" 721),(vS "_law_k" 722),(vS "_law_thing" 723)])) ::
 (nat_lit 400,(tO #[])) ::
 (nat_lit 402,(oO (.type "code") (Data.fields #[(vS "law" 711),(vS "law" 712),(vC 713),(vZ 225),(vZ 1),(vZ 0),(vZ 0),(vZ 3),(.ref 397),vT,(vZ 181),(.ref 398),vN,(.ref 399),(.ref 400),(.ref 401),(vZ 724),(vZ 225),(vC 725)]))) ::
 (nat_lit 403,(oO (.type "function") (Data.func (FuncData.mk (qS "law") (qS "law") (Hd.dArgs (top 50)) (.stmts (Hd.dBody (top 50))) (Hd.dScope (top 50)) 3 [] vN vN vN (vS "law_laterline_k39_done_papers_judged" 552) none (.ref 402) vN 0)))) :: []
noncomputable def KA:List Addr:=[nat_lit 2,nat_lit 3,nat_lit 15,nat_lit 22,nat_lit 23,nat_lit 24,nat_lit 25,nat_lit 28,nat_lit 31,nat_lit 36,nat_lit 37,nat_lit 39,nat_lit 40,nat_lit 42,nat_lit 43,nat_lit 44,nat_lit 45,nat_lit 46,nat_lit 49,nat_lit 52,nat_lit 57,nat_lit 58,nat_lit 60,nat_lit 61,nat_lit 63,nat_lit 64,nat_lit 65,nat_lit 66,nat_lit 67,nat_lit 70,nat_lit 73,nat_lit 78,nat_lit 79,nat_lit 81,nat_lit 82,nat_lit 84,nat_lit 85,nat_lit 86,nat_lit 87,nat_lit 88,nat_lit 91,nat_lit 94,nat_lit 99,nat_lit 100,nat_lit 102,nat_lit 103,nat_lit 105,nat_lit 106,nat_lit 107,nat_lit 108,nat_lit 109,nat_lit 112,nat_lit 115,nat_lit 120,nat_lit 121,nat_lit 123,nat_lit 124,nat_lit 126,nat_lit 127,nat_lit 128,nat_lit 129,nat_lit 130,nat_lit 133,nat_lit 135,nat_lit 136,nat_lit 138,nat_lit 139,nat_lit 140,nat_lit 142,nat_lit 143,nat_lit 145,nat_lit 146,nat_lit 147,nat_lit 149,nat_lit 150,nat_lit 152,nat_lit 153,nat_lit 154,nat_lit 156,nat_lit 157,nat_lit 159,nat_lit 160,nat_lit 161,nat_lit 163,nat_lit 164,nat_lit 166,nat_lit 167,nat_lit 168,nat_lit 169,nat_lit 170,nat_lit 172,nat_lit 173,nat_lit 175,nat_lit 176,nat_lit 177,nat_lit 179,nat_lit 180,nat_lit 182,nat_lit 183,nat_lit 184,nat_lit 186,nat_lit 187,nat_lit 189,nat_lit 190,nat_lit 191,nat_lit 193,nat_lit 194,nat_lit 196,nat_lit 197,nat_lit 198,nat_lit 200,nat_lit 201,nat_lit 203,nat_lit 204,nat_lit 205,nat_lit 207,nat_lit 208,nat_lit 210,nat_lit 211,nat_lit 219,nat_lit 221,nat_lit 222,nat_lit 224,nat_lit 225,nat_lit 226,nat_lit 228,nat_lit 229,nat_lit 231,nat_lit 232,nat_lit 233,nat_lit 236,nat_lit 237,nat_lit 238,nat_lit 240,nat_lit 241,nat_lit 243,nat_lit 244,nat_lit 245,nat_lit 247,nat_lit 248,nat_lit 250,nat_lit 251,nat_lit 252,nat_lit 254,nat_lit 255,nat_lit 257,nat_lit 258,nat_lit 259,nat_lit 260,nat_lit 261,nat_lit 262,nat_lit 263,nat_lit 266,nat_lit 268,nat_lit 269,nat_lit 271,nat_lit 272,nat_lit 273,nat_lit 276,nat_lit 277,nat_lit 278,nat_lit 281,nat_lit 282,nat_lit 283,nat_lit 285,nat_lit 286,nat_lit 288,nat_lit 289,nat_lit 290,nat_lit 293,nat_lit 294,nat_lit 295,nat_lit 298,nat_lit 299,nat_lit 300,nat_lit 302,nat_lit 303,nat_lit 305,nat_lit 306,nat_lit 307,nat_lit 309,nat_lit 310,nat_lit 312,nat_lit 313,nat_lit 314,nat_lit 316,nat_lit 317,nat_lit 319,nat_lit 320,nat_lit 321,nat_lit 323,nat_lit 324,nat_lit 326,nat_lit 327,nat_lit 328,nat_lit 331,nat_lit 332,nat_lit 333,nat_lit 336,nat_lit 337,nat_lit 338,nat_lit 340,nat_lit 341,nat_lit 343,nat_lit 344,nat_lit 345,nat_lit 347,nat_lit 348,nat_lit 350,nat_lit 351,nat_lit 352,nat_lit 354,nat_lit 355,nat_lit 357,nat_lit 358,nat_lit 359,nat_lit 362,nat_lit 363,nat_lit 364,nat_lit 367,nat_lit 368,nat_lit 369,nat_lit 371,nat_lit 372,nat_lit 374,nat_lit 375,nat_lit 376,nat_lit 378,nat_lit 379,nat_lit 381,nat_lit 382,nat_lit 383,nat_lit 385,nat_lit 386,nat_lit 388,nat_lit 389,nat_lit 390,nat_lit 392,nat_lit 393,nat_lit 395,nat_lit 396,nat_lit 397,nat_lit 399,nat_lit 400,nat_lit 402,nat_lit 403]
theorem ke:∀P,KA=(KF P).map (·.1):=fun _=>by kernel_rfl
noncomputable def vw:Program:={ PySem.Challenge.pw_laterline_k39_done_papers_judged with main:={ PySem.Challenge.pw_laterline_k39_done_papers_judged.main with body:=[top 1,top 2,top 3,top 4,top 5,top 6,top 8,top 9,top 10,top 11,top 13,top 14,top 16,top 18,top 19,top 21,top 22,top 23,top 24,top 26,top 27,top 28,top 29,top 30,top 31,top 32,top 34,top 35,top 36,top 37,top 38,top 39,top 40,top 41,top 42,top 43,top 44,top 45,top 46,top 47,top 48,top 49,top 50] } }
noncomputable def lv:List (Str×PySem.W.WData):=[("LAST_PLACE",(.int 1000000)),("LAST_LINE",(.int 1000000000))]
noncomputable def lo:List Str:=["LAST_PLACE","LAST_LINE","is_house"]
noncomputable def xt:Shared→Bool:=fun s=>PySem.W.xlAt vw lv s && PySem.W.recOk (PySem.W.RowW.records (PySem.W.OpenRow.toRowW (PySem.W.OpenLaw.row PySem.Challenge.rw_laterline_k39_done_papers_judged))) s
set_option maxHeartbeats 0 in
theorem ran:∀(w:World)(os:OsState),(Hd.topT PySem.treeTable PySem.Challenge.pw_laterline_k39_done_papers_judged w (PySem.W.boot_heap w.params).objs.size ((PySem.W.boot_heap w.params).nsMap mainGlobals "__annotations__") 6120 (Hd.start0 w.params os) (PySem.W.topStub PySem.Challenge.pw_laterline_k39_done_papers_judged)).map (fun s =>
  ((PySem.W.staticsOk (importedModules PySem.Challenge.pw_laterline_k39_done_papers_judged.main.body) (PySem.W.boot_heap w.params) s.abs.heap && PySem.W.namesBound PySem.Challenge.pw_laterline_k39_done_papers_judged s.abs.heap && PySem.W.gensDone s.abs && PySem.W.laidKept (PySem.W.boot_heap w.params) s.abs.heap),PySem.W.openSeen vw lo (importedModules PySem.Challenge.pw_laterline_k39_done_papers_judged.main.body) xt true s.abs,(PySem.W.kHook KF KA ke).obs s.abs))=some (true,PySem.W.openGood vw lo,(PySem.W.kHook KF KA ke).val w):=by
 intro w os
 kernel_rfl
theorem left:PySem.W.LeftO PySem.Challenge.pw_laterline_k39_done_papers_judged vw lo xt (PySem.W.kHook KF KA ke).obs (PySem.W.kHook KF KA ke).val 6120:=Hd.left_of (by kernel_rfl) (by decide) (fun _=>by kernel_rfl) ran
end My
namespace L2
open PySem PySem.Spec PyProof.Rows
noncomputable abbrev Key:=Sum Int Str
noncomputable def keyIs:Key→Value→Bool
 | .inl k,v=>Value.isInt k v
 | .inr x,v=>Value.isStrOf x v
noncomputable def keyH (w:World):Key→Int
 | .inl k=>hashInt k
 | .inr x=>hashStr w x
theorem keyIs_shape:∀ {k:Key}{v:Value},keyIs k v=true→(∃i t,k=Sum.inl i∧v=Value.int i t)∨(∃x t,k=Sum.inr x∧v=Value.str x t)
 | .inl i,v,h=>by
  obtain⟨t,e⟩:=Value.isInt_shape (k:=i) (v:=v) h
  exact .inl ⟨i,t,rfl,e⟩
 | .inr x,v,h=>by
  obtain⟨t,e⟩:=Value.isStrOf_shape (x:=x) (v:=v) h
  exact .inr ⟨x,t,rfl,e⟩
theorem keyIs_int (i:Int)(t:Tok):keyIs (.inl i) (.int i t)=true:=by simp[keyIs,Value.isInt]
theorem keyIs_str (x:Str)(t:Tok):keyIs (.inr x) (.str x t)=true:=by simp[keyIs,Value.isStrOf]
theorem key_ll (a b:Int):decide ((Sum.inl a:Key)=Sum.inl b)=(a == b):=by
 by_cases e:a=b
 ·subst e;simp
 ·have h:¬ (Sum.inl a:Key)=Sum.inl b:=fun q=>e (Sum.inl.inj q)
  rw[decide_eq_false h]
  exact(beq_eq_false_iff_ne.mpr e).symm
theorem key_rr (a b:Str):decide ((Sum.inr a:Key)=Sum.inr b)=decide (a=b):=by
 by_cases e:a=b
 ·subst e;simp
 ·have h:¬ (Sum.inr a:Key)=Sum.inr b:=fun q=>e (Sum.inr.inj q)
  rw[decide_eq_false h,decide_eq_false e]
theorem key_lr (a:Int)(b:Str):decide ((Sum.inl a:Key)=Sum.inr b)=false:=decide_eq_false (fun q=>nomatch q)
theorem key_rl (a:Str)(b:Int):decide ((Sum.inr a:Key)=Sum.inl b)=false:=decide_eq_false (fun q=>nomatch q)
noncomputable def mixKind (prog:Program)(w:World):PySem.KeyKind prog w Key where
 is:=keyIs
 hash:=keyH w
 inj := fun v a b ha hb=>by
  rcases keyIs_shape ha with ⟨i,t,rfl,rfl⟩ | ⟨x,t,rfl,rfl⟩
  ·rcases keyIs_shape hb with ⟨j,u,rfl,e⟩ | ⟨y,u,rfl,e⟩
   ·injection e with e1 _;rw[e1]
   ·exact nomatch e
  ·rcases keyIs_shape hb with ⟨j,u,rfl,e⟩ | ⟨y,u,rfl,e⟩
   ·exact nomatch e
   ·injection e with e1 _;rw[e1]
 byValue:=fun k v h=>by
  rcases keyIs_shape h with ⟨i,t,rfl,rfl⟩ | ⟨x,t,rfl,rfl⟩ <;> rfl
 pyHash:=fun hv h=>by
  rcases keyIs_shape hv with ⟨i,t,rfl,rfl⟩ | ⟨x,t,rfl,rfl⟩
  ·exact wpAny_pyHash_int h
  ·exact wpAny_pyHash_str h
 eqBool:=fun hu hv h=>by
  rcases keyIs_shape hu with ⟨i,t,rfl,rfl⟩ | ⟨x,t,rfl,rfl⟩
  ·rcases keyIs_shape hv with ⟨j,u,rfl,rfl⟩ | ⟨y,u,rfl,rfl⟩
   ·rw[key_ll]at h;exact wpAny_eqBool_int h
   ·rw[key_lr]at h;exact SeqAt.EqAt.int_str i t y u _ _ _ _ h
  ·rcases keyIs_shape hv with ⟨j,u,rfl,rfl⟩ | ⟨y,u,rfl,rfl⟩
   ·rw[key_rl]at h;exact SeqAt.EqAt.str_int x t j u _ _ _ _ h
   ·rw[key_rr]at h;exact wpAny_eqBool_str h
 «strs»:=fun k x t v h=>by
  rcases keyIs_shape h with ⟨i,u,rfl,e⟩ | ⟨y,u,rfl,e⟩
  ·exact nomatch e
  ·injection e with e1 _
   subst e1
   cases v <;> rfl
theorem mixKind_int (prog:Program)(w:World)(i:Int)(t:Tok):(mixKind prog w).is (.inl i) (.int i t)=true:=keyIs_int i t
theorem mixKind_str (prog:Program)(w:World)(x:Str)(t:Tok):(mixKind prog w).is (.inr x) (.str x t)=true:=keyIs_str x t
inductive V where
 | non |bl (b:Bool) |int (i:Int) |str (x:Str) |byt (b:Array UInt8) |flt (b:UInt64) |ref (a:Addr) |ty (n:String)
 deriving DecidableEq
noncomputable def RelV:V→Value→Prop
 | .non,u=>u=Value.none
 | .bl b,u=>u=Value.bool b
 | .int i,u=>∃t,u=Value.int i t
 | .str x,u=>∃t,u=Value.str x t
 | .byt b,u=>∃t,u=Value.bytes b t
 | .flt b,u=>∃t,u=Value.float b t
 | .ref a,u=>u=Value.ref a
 | .ty n,u=>u=Value.type n
noncomputable abbrev Vals:List V→List Value→Prop:=Paired RelV
theorem Vals.length {xs:List V}{us:List Value}(r:Vals xs us):xs.length=us.length:=Paired.length r
theorem Vals.get:∀ {xs:List V}{us:List Value}{i:Nat}{x:V},Vals xs us→xs[i]? = some x→∃u,us[i]? = some u∧RelV x u
 | _,_,_,_,.nil,e=>by simp at e
 | _,_,0,_,.cons r _,e=>by simp at e;subst e;exact⟨_,rfl,r⟩
 | _,_,i+1,x,.cons _ t,e=>by
  obtain⟨u,h1,h2⟩:=Vals.get (i:=i) (x:=x) t (by simpa using e)
  exact⟨u,by simpa using h1,h2⟩
theorem Vals.set {x:V}{u:Value}(r:RelV x u):∀ {xs:List V}{us:List Value}(i:Nat),Vals xs us→Vals (xs.set i x) (us.set i u)
 | _,_,_,.nil=>.nil
 | _,_,0,.cons _ t=>.cons r t
 | _,_,i+1,.cons q t=>.cons q (Vals.set r i t)
theorem Vals.append:∀ {xs ys:List V}{us ws:List Value},Vals xs us→Vals ys ws→Vals (xs ++ ys) (us ++ ws)
 | _,_,_,_,.nil,s=>s
 | _,_,_,_,.cons r t,s=>.cons r (Vals.append t s)
theorem Vals.take:∀ {xs:List V}{us:List Value}(n:Nat),Vals xs us→Vals (xs.take n) (us.take n)
 | _,_,0,_=>.nil
 | _,_,_+1,.nil=>.nil
 | _,_,n+1,.cons r t=>.cons r (Vals.take n t)
theorem Vals.drop:∀ {xs:List V}{us:List Value}(n:Nat),Vals xs us→Vals (xs.drop n) (us.drop n)
 | _,_,0,r=>r
 | _,_,_+1,.nil=>.nil
 | _,_,n+1,.cons _ t=>Vals.drop n t
noncomputable def RelO:Option V→Option Value→Prop
 | some v,some u=>RelV v u
 | none,none=>True
 | _,_=>False
noncomputable def KV {κ:Type}:List (κ×V)→List (κ×Value)→Prop:=Paired fun (p:κ×V)(q:κ×Value)=>p.1=q.1∧RelV p.2 q.2
noncomputable def kV:Key→V
 | .inl i=>.int i
 | .inr x=>.str x
inductive HO where
 | lst (xs:List V)
 | tup (xs:List V)
 | dK (kvs:List (Key×V)) |dT (kvs:List (List Key×V))
 | set (S:Int→Bool) (n:Nat)
 | ins (C dx:Addr) (fs:List (Str×V))
 | own (x:Addr)
 | xd (fs:List (Str×V))
 | met (f x:Addr)
 | rng (lo hi:Int)
 | frz (o:Obj) (u:HO)
 | tbl (ps:Array Value)
 | ext (φ:Heap→Prop)
noncomputable abbrev Hp:=Addr→Option HO
noncomputable def upd (H:Hp)(a:Addr)(o:HO):Hp:=fun b=>if b=a then some o else H b
theorem upd_same {H:Hp}{a:Addr}{o:HO}:upd H a o a=some o:=by unfold upd;rw[if_pos rfl]
theorem upd_ne {H:Hp}{a b:Addr}{o:HO}(h:b≠a):upd H a o b=H b:=by unfold upd;rw[if_neg h]
theorem ne_of {H:Hp}{a b:Addr}{o u:HO}(h:H a=some o)(h':H b=some u)(d:o≠u):a≠b:=by
 intro e;subst e;rw[h]at h';exact d (Option.some.inj h')
theorem ne_of_none {H:Hp}{a b:Addr}{o:HO}(h:H a=some o)(h':H b=none):a≠b:=by
 intro e;subst e;rw[h]at h';cases h'
section
variable (P:Program)(w:World)
noncomputable def ObjOk (H:Hp)(h:Heap)(a:Addr):HO→Prop
 | .lst xs=>xs.length≤sizeLine∧∃(its:List Value) (n:Nat),Vals xs its∧h.get? a=some { cls:=.type "list",data:=.seq its.toArray n }
 | .tup xs=>xs.length≤sizeLine∧∃its:List Value,Vals xs its∧IsTup h a its.toArray
 | .dK kvs=>kvs.length≤sizeLine∧(a == sysModules)=false∧∃vs,KV kvs vs∧h.DictOf (mixKind P w) a vs
 | .dT kvs=>kvs.length≤sizeLine∧(a == sysModules)=false∧∃xs:List (List Key×Addr×Value),
   Paired (fun (p:List Key×V) (q:List Key×Addr×Value)=>p.1=q.1∧H q.2.1=some (.tup (p.1.map kV))∧RelV p.2 q.2.2) kvs xs ∧
   ∃o es ep,h.get? a=some o∧o.ExactDict∧o.data = .dict es ep∧es.toList=xs.map (entryOfKey (tupleKind (mixKind P w)))∧(xs.map (·.1)).Nodup
 | .set S n=>h.SetOf (intKind P w) a S n
 | .ins C dx fs=>H dx=some (.own a)∧fs.length≤1000∧dx≠a∧h.get? a=some (PySem.W.instObj C dx) ∧
   ∃mA,h.Ns1 dx mA∧(∀f,RelO (fs.lookup f) (mA f))∧PySem.Within mA (fs.map (·.1))
 | .own _=>∃o,h.get? a=some o
 | .xd fs=>∃mA,h.Ns1 a mA∧∀f,RelO (fs.lookup f) (mA f)
 | .rng lo hi=>∃t u v,h.get? a=some { cls:=.type "range",data:=.fields #[.int lo t,.int hi u,.int 1 v] }
 | .frz o u=>h.get? a=some o∧ObjOk H h a u
 | .tbl ps=>h.get? a=some { cls:=.none,data:=.fields ps }
 | .met f x=>h.get? a=some (PySem.W.methodObj (.ref f) (.ref x))
 | .ext φ=>φ h∧(∃o,h.get? a=some o)∧∀h1 h2:Heap,φ h1→(∀o,h1.get? a=some o→h2.get? a=some o)→φ h2
noncomputable def HOk (H:Hp)(h:Heap):Prop:=∀a o,H a=some o→ObjOk P w H h a o
end
section
variable {P:Program}{w:World}{H H':Hp}{h h':Heap}{a:Addr}{o:HO}
theorem ObjOk.lt (x:ObjOk P w H h a o):a<h.objs.size:=by
 cases o with
 | lst xs=>obtain⟨_,_,_,_,e⟩:=x;exact Heap.lt_size e
 | tup xs=>obtain⟨_,_,_,p⟩:=x;exact p.lt
 | dK kvs=>obtain⟨_,_,_,_,o,_,_,e,_⟩:=x;exact Heap.lt_size e
 | dT kvs=>obtain⟨_,_,_,_,o,_,_,e,_⟩:=x;exact Heap.lt_size e
 | set S n=>obtain⟨o,_,_,_,e,_⟩:=x;exact Heap.lt_size e
 | ins C dx fs=>obtain⟨_,_,_,e,_⟩:=x;exact Heap.lt_size e
 | own y=>obtain⟨_,e⟩:=x;exact Heap.lt_size e
 | xd fs=>obtain⟨_,⟨_,_,_,e,_⟩,_⟩:=x;exact Heap.lt_size e
 | rng lo hi=>obtain⟨_,_,_,e⟩:=x;exact Heap.lt_size e
 | frz ob u=>obtain⟨e,_⟩:=x;exact Heap.lt_size e
 | tbl ps=>exact Heap.lt_size (show h.get? a=some _ from x)
 | met f y=>exact Heap.lt_size (show h.get? a=some _ from x)
 | ext φ=>obtain⟨_,⟨_,e⟩,_⟩:=x;exact Heap.lt_size e
theorem Paired.mapP {α β:Type}{F G:α→β→Prop}:∀ {l₁:List α}{l₂:List β},Paired F l₁ l₂→(∀a b,F a b→G a b)→Paired G l₁ l₂
 | _,_,.nil,_=>.nil
 | _,_,.cons r t,f=>.cons (f _ _ r) (Paired.mapP t f)
theorem ObjOk.stay (x:ObjOk P w H h a o)(k:∀b u,(b=a∨H b=some (.own a))→h.get? b=some u→h'.get? b=some u)
  (ho:∀b,H b=some (.own a)→H' b=some (.own a)) (ht:∀b xs,H b=some (.tup xs)→H' b=some (.tup xs)):ObjOk P w H' h' a o:=by
 induction o with
 | lst xs=>obtain⟨z,its,n,r,e⟩:=x;exact⟨z,its,n,r,k _ _ (.inl rfl) e⟩
 | tup xs=>obtain⟨z,its,r,ob,e,c⟩:=x;exact⟨z,its,r,ob,k _ _ (.inl rfl) e,c⟩
 | dK kvs=>obtain⟨z,y,vs,r,ob,es,ep,e,c⟩:=x;exact⟨z,y,vs,r,ob,es,ep,k _ _ (.inl rfl) e,c⟩
 | dT kvs =>
  obtain⟨z,y,xs,r,ob,es,ep,e,c⟩:=x
  exact⟨z,y,xs,Paired.mapP r fun p q z=>⟨z.1,ht _ _ z.2.1,z.2.2⟩,ob,es,ep,k _ _ (.inl rfl) e,c⟩
 | set S n=>obtain⟨ob,es,ep,t,e,c⟩:=x;exact⟨ob,es,ep,t,k _ _ (.inl rfl) e,c⟩
 | ins C dx fs =>
  obtain⟨d,z,ne,e,mA,⟨od,es,ep,e2,c⟩,r⟩:=x
  exact⟨ho _ d,z,ne,k _ _ (.inl rfl) e,mA,⟨od,es,ep,k _ _ (.inr d) e2,c⟩,r⟩
 | own y=>obtain⟨ob,e⟩:=x;exact⟨ob,k _ _ (.inl rfl) e⟩
 | xd fs=>obtain⟨mA,⟨od,es,ep,e,c⟩,r⟩:=x;exact⟨mA,⟨od,es,ep,k _ _ (.inl rfl) e,c⟩,r⟩
 | rng lo hi=>obtain⟨t,u,v,e⟩:=x;exact⟨t,u,v,k _ _ (.inl rfl) e⟩
 | frz ob u ih=>obtain⟨e,q⟩:=x;exact⟨k _ _ (.inl rfl) e,ih q⟩
 | tbl ps =>
  have e:h.get? a=some { cls:=.none,data:=.fields ps }:=x
  show h'.get? a=some { cls:=.none,data:=.fields ps }
  exact k a _ (.inl rfl) e
 | met f y =>
  have e:h.get? a=some (PySem.W.methodObj (.ref f) (.ref y)):=x
  show h'.get? a=some (PySem.W.methodObj (.ref f) (.ref y))
  exact k a _ (.inl rfl) e
 | ext φ=>obtain⟨p,⟨o,e⟩,st⟩:=x;exact⟨st _ _ p fun o q=>k _ _ (.inl rfl) q,⟨o,k _ _ (.inl rfl) e⟩,st⟩
theorem HOk.lt (x:HOk P w H h)(e:H a=some o):a<h.objs.size:=(x a o e).lt
theorem HOk.fresh (x:HOk P w H h)(e:h.objs.size≤a):H a=none:=by
 cases q:H a with
 | none=>rfl
 | some u=>exact absurd (Nat.lt_of_lt_of_le (x.lt q) e) (Nat.lt_irrefl _)
theorem HOk.kept (x:HOk P w H h)(k:∀b u,h.get? b=some u→h'.get? b=some u):HOk P w H h':=fun a o e =>
 (x a o e).stay (fun b u _ q=>k b u q) (fun _ q=>q) fun _ _ q=>q
theorem HOk.laid (x:HOk P w H h)(k:∀b u,h.get? b=some u→h'.get? b=some u)(hp:h.objs.size≤a)(new:ObjOk P w (upd H a o) h' a o):HOk P w (upd H a o) h':=fun b u e=>by
 have hn:=x.fresh hp
 by_cases hb:b=a
 ·subst hb;rw[upd_same]at e;cases e;exact new
 ·rw[upd_ne hb]at e
  exact(x b u e).stay (fun c v _ q=>k c v q) (fun c q=>by rw[upd_ne (ne_of_none q hn)];exact q) fun c xs q=>by rw[upd_ne (ne_of_none q hn)];exact q
end
noncomputable def Rd (H:Hp)(a:Addr)(u:HO):Prop:=H a=some u∨∃o,H a=some (.frz o u)
theorem Rd.ok {P:Program}{w:World}{H:Hp}{h:Heap}{a:Addr}{u:HO}(r:Rd H a u)(x:HOk P w H h):ObjOk P w H h a u:=by
 rcases r with r | ⟨o,r⟩
 ·exact x a u r
 ·obtain⟨_,q⟩:=x a _ r
  exact q
noncomputable def Mut:Option HO→Prop
 | some (.lst _)=>True
 | some (.dK _)=>True
 | some (.dT _)=>True
 | some (.set _ _)=>True
 | some (.ins _ _ _)=>True
 | some (.ext _)=>True
 | _=>False
section
variable {P:Program}{w:World}{H:Hp}{h h':Heap}{x e:Addr}{o':HO}
theorem HOk.write (ok:HOk P w H h)(mu:Mut (H x))(he:e=x∨H e=some (.own x))(k:∀b u,b≠e→h.get? b=some u→h'.get? b=some u)(heo:∃u,h'.get? e=some u)
  (new:ObjOk P w (upd H x o') h' x o'):HOk P w (upd H x o') h':=fun b u q=>by
 have nown:∀c y,H c=some (.own y)→c≠x:=fun c y r z=>by subst z;rw[r]at mu;exact mu
 have ntup:∀c xs,H c=some (.tup xs)→c≠x:=fun c xs r z=>by subst z;rw[r]at mu;exact mu
 by_cases hb:b=x
 ·subst hb;rw[upd_same]at q;cases q;exact new
 ·rw[upd_ne hb]at q
  by_cases hbe:b=e
  ·have q':H b=some (.own x):=by
    rcases he with z |z
    ·exact absurd (hbe.trans z) hb
    ·rw[hbe];exact z
   rw[q]at q';cases q'
   obtain⟨v,hv⟩:=heo
   exact⟨v,by rw[hbe];exact hv⟩
  ·refine(ok b u q).stay (fun c v hc r=>k c v ?_ r) (fun c r=>by rw[upd_ne (nown c b r)];exact r) fun c xs r=>by rw[upd_ne (ntup c xs r)];exact r
   rcases hc with rfl |hc
   ·exact hbe
   ·rintro rfl
    rcases he with z |z
    ·exact nown c b hc z
    ·rw[hc]at z;cases z;exact hb rfl
end
structure Un (fs ex:List Addr) (H H':Hp) (h h':Heap):Prop where
 keep:∀b o,h.get? b=some o→H b=none→b∉fs→b∉ex→h'.get? b=some o
 slot:∀b o,h.get? b=some o→H b=none→b∈fs→b∉ex→∃sl,h'.get? b=some { o with slots:=sl }
 free:∀b o,h.get? b=some o→H b=none→b∉ex→H' b=none
 there:∀b o,h.get? b=some o→b∉ex→∃o',h'.get? b=some o'
 tups:∀b xs,H b=some (.tup xs)→H' b=some (.tup xs)
 frzs:∀b o u,H b=some (.frz o u)→H' b=some (.frz o u)
 tbls:∀b ps,H b=some (.tbl ps)→∃more,H' b=some (.tbl (ps ++ more))
section
variable {fs fs' ex ex':List Addr}{H H1 H2:Hp}{h h1 h2 h':Heap}{a x e:Addr}{o:HO}
theorem Un.any (u:Un fs ex H H1 h h1) {b:Addr}{ob:Obj}(q:h.get? b=some ob)(n:H b=none)(hx:b∉ex):∃sl,h1.get? b=some { ob with slots:=sl }:=by
 by_cases hb:b∈fs
 ·exact u.slot b ob q n hb hx
 ·exact⟨ob.slots,u.keep b ob q n hb hx⟩
theorem Un.kept (k:∀b u,h.get? b=some u→h'.get? b=some u):Un fs ex H H h h' :=
 ⟨fun b ob q _ _ _=>k b ob q,fun b ob q _ _ _=>⟨ob.slots,k b ob q⟩,fun _ _ _ n _=>n,fun b ob q _=>⟨ob,k b ob q⟩,fun _ _ q=>q,fun _ _ _ q=>q,fun _ ps q=>⟨#[],by rw[q];simp⟩⟩
theorem Un.refl:Un fs ex H H h h:=Un.kept fun _ _ q=>q
theorem Un.laid (k:∀b u,h.get? b=some u→h'.get? b=some u)(hp:h.objs.size≤a)(hn:H a=none):Un fs ex H (upd H a o) h h' where
 keep:=fun b u q _ _ _=>k b u q
 slot:=fun b u q _ _ _=>⟨u.slots,k b u q⟩
 free:=fun b u q n _=>by rw[upd_ne (Nat.ne_of_lt (Nat.lt_of_lt_of_le (Heap.lt_size q) hp))];exact n
 there:=fun b u q _=>⟨u,k b u q⟩
 tups:=fun b xs q=>by rw[upd_ne (ne_of_none q hn)];exact q
 frzs:=fun b u xs q=>by rw[upd_ne (ne_of_none q hn)];exact q
 tbls:=fun b ps q=>⟨#[],by rw[upd_ne (ne_of_none q hn),q];simp⟩
theorem Un.write (mu:Mut (H x))(he:e=x∨H e=some (.own x))(k:∀b u,b≠e→h.get? b=some u→h'.get? b=some u)(heo:∃u,h'.get? e=some u):Un fs ex H (upd H x o) h h':=by
 have hx:∀b,H b=none→b≠x:=fun b n z=>by subst z;rw[n]at mu;exact mu
 have hb:∀b,H b=none→b≠e:=fun b n z=>by
  subst z
  rcases he with r |r
  ·exact hx b n r
  ·rw[n]at r;cases r
 have hm:∀b u,H b=some u→¬ Mut (some u)→b≠x:=fun b u q nm z=>by subst z;rw[q]at mu;exact nm mu
 refine⟨fun b u q n _ _=>k b u (hb b n) q,fun b u q n _ _=>⟨u.slots,k b u (hb b n) q⟩,fun b u q n _=>by rw[upd_ne (hx b n)];exact n,fun b u q _=>?_,
  fun b xs q=>by rw[upd_ne (hm b _ q fun z=>z)];exact q,fun b u xs q=>by rw[upd_ne (hm b _ q fun z=>z)];exact q,fun b ps q=>⟨#[],by rw[upd_ne (hm b _ q fun z=>z),q];simp⟩⟩
 by_cases hbe:b=e
 ·subst hbe;exact heo
 ·exact⟨u,k b u hbe q⟩
theorem Un.mono (u:Un fs ex H H1 h h1)(hs:∀b∈fs,b∈fs')(hx:∀b∈ex,b∈ex'):Un fs' ex' H H1 h h1 :=
 ⟨fun b ob q n hb he=>u.keep b ob q n (fun z=>hb (hs b z)) fun z=>he (hx b z),fun _ _ q n _ he=>u.any q n fun z=>he (hx _ z),fun b ob q n he=>u.free b ob q n fun z=>he (hx b z),fun b ob q he=>u.there b ob q fun z=>he (hx b z),u.tups,u.frzs,u.tbls⟩
end
noncomputable def trk (h:Heap)(H:Hp):List Addr:=(List.range h.objs.size).filter fun a=>(H a).isSome
noncomputable def hidT (h:Heap)(H:Hp):Heap:=PySem.W.hideAll h (trk h H)
theorem hidT_size (h:Heap)(H:Hp):(hidT h H).objs.size=h.objs.size:=PySem.W.hideAll_size _ _
theorem hidT_get {h:Heap}{H:Hp}{b:Addr}{o:Obj}(e:h.get? b=some o)(n:H b=none):(hidT h H).get? b=some o :=
 PySem.W.hideAll_get _ e fun hm=>by
  have q:(H b).isSome=true:=(List.mem_filter.mp hm).2
  rw[n]at q;simp at q
theorem of_hidT {h:Heap}{H:Hp}{b:Addr}{o:Obj}(e:(hidT h H).get? b=some o):h.get? b=some o∧H b=none:=by
 have e':h.get? b=some o:=PySem.W.of_hideAll (trk h H) e
 refine⟨e',?_⟩
 cases q:H b with
 | none=>rfl
 | some x =>
  have hm:b∈trk h H:=List.mem_filter.mpr ⟨List.mem_range.mpr (Heap.lt_size e'),by simp[q]⟩
  have z:(hidT h H).get? b=none:=PySem.W.hideAll_none (trk h H) hm
  rw[z]at e;cases e
noncomputable def allNews (g h:Heap)(L:Addr):List (Addr×Obj):=(List.range h.objs.size).filterMap fun a=>if a=L∨(g.get? a).isSome=true then none else (h.get? a).map fun o=>(a,o)
noncomputable def rest (g h:Heap)(L d:Addr):List (Addr×Obj):=(allNews g h L).filter fun p=>decide (p.1≠d)
structure Mod (K:PySem.W.Frag) (mg:Str→Option Value) (base:Heap):Prop where
 kin:K.In base
 glob:base.Ns mainGlobals mg
 blt:∃mb,base.Ns builtinsNs mb∧∀x:Str,x ≠ "__name__"→mb x=bootBuiltins x
 nolimit:base.NoLimit
structure Cx where
 prog:Program
 w:World
 K:PySem.W.Frag
 mg:Str→Option Value
 base:Heap
 A:Around
 N:List Str
 s₀:Shared
 H₀:Hp
 env:Env
 outer:List Env
 stack:List Env
 ex:List Addr
 fn:Str→Bool
 calm:Bool
 pn:List (Addr×Obj)
 xe:Value→Shared→Prop
noncomputable def frs (l:List Env):List Addr:=l.filterMap (·.frame)
noncomputable abbrev Cx.fs (X:Cx):List Addr:=frs X.outer
noncomputable def Vis (sc:Scope)(x:Str):Prop:=sc.names.lookup x=some .local∨sc.names.lookup x=some .cell∨sc.names.lookup x=some .free
noncomputable def Loc (sc:Scope)(x:Str):Prop:=sc.names.lookup x=some .local∨sc.names.lookup x=some .cell
noncomputable def Look (env:Env)(h:Heap)(m:Str→Option Value)(x:Str)(u:Value):Prop :=
 (env.kindOf x=some .local∧m x=some u)∨((env.kindOf x=some .cell∨env.kindOf x=some .free)∧∃c,env.cells.lookup x=some c∧h.IsCell c (some u))
structure Cx.Ok (X:Cx):Prop where
 mod:Mod X.K X.mg X.base
 kind:X.env.scope.kind = .function
 glob:X.env.globals=mainGlobals
 blt:X.env.builtins=builtinsNs
 above:X.s₀.heap.objs.size≤X.env.locals
 inj:∀x y c,X.env.cells.lookup x=some c→X.env.cells.lookup y=some c→x=y
 has:∀x,(X.env.kindOf x=some .cell∨X.env.kindOf x=some .free)→∃c,X.env.cells.lookup x=some c
 cab:∀x c,X.fn x=true→X.env.cells.lookup x=some c→X.s₀.heap.objs.size≤c
 hd:X.calm=true→X.A.handled=none
 frames:X.A.frames=some X.stack
 stk:X.stack=X.outer∨(X.stack=X.env :: X.outer∧X.env.frame=some X.env.locals)
 exf:∀b∈X.ex,b≠X.env.locals∧∀x c,X.env.cells.lookup x=some c→c≠b
 bs:∀b o,X.base.get? b=some o→X.s₀.heap.get? b=some o∧X.H₀ b=none
 bsz:X.base.objs.size≤X.s₀.heap.objs.size
 noex:∀b o,X.base.get? b=some o→b∉X.ex
 exfs:∀b∈X.ex,b∉X.fs
 funs:X.s₀.heap.FunFrames X.base X.outer
 frf:∀b∈X.fs,X.H₀ b=none
structure Inv (X:Cx) (pins:List (Addr×Obj)) (σ:List (Option V)) (H:Hp) (s:Shared):Prop where
 ok:X.Ok
 os:s.os=X.s₀.os
 bare:AllBare s.gens
 base:Un X.fs X.ex X.H₀ H X.s₀.heap s.heap
 loc:∃m,s.heap.Ns X.env.locals m∧∀(i:Nat) (x:Str) (v:V),X.N[i]? = some x→σ[i]? = some (some v)→Vis X.env.scope x→∃u,RelV v u∧Look X.env s.heap m x u
 cell:∀x c,X.env.cells.lookup x=some c→∃v,s.heap.IsCell c v
 free:H X.env.locals=none
 freeC:∀x c,X.env.cells.lookup x=some c→H c=none
 pin:∀p∈X.pn ++ pins,s.heap.get? p.1=some p.2∧H p.1=none∧p.1≠X.env.locals∧p.1∉X.fs∧∀v,p.2.data ≠ .cell v
 hok:HOk X.prog X.w H s.heap
 len:σ.length=X.N.length
section
variable {X:Cx}{pins:List (Addr×Obj)}{σ:List (Option V)}{H H':Hp}{s:Shared}{h':Heap}
theorem Cx.Ok.nofr (ok:X.Ok) {b:Addr}{o:Obj}(e:X.base.get? b=some o):b∉X.fs:=fun hb=>by
 have:=(ok.funs.mem hb).1
 rw[e]at this;cases this
theorem Inv.bs (I:Inv X pins σ H s):∀b o,X.base.get? b=some o→s.heap.get? b=some o∧H b=none:=fun b o e =>
 ⟨I.base.keep b o (I.ok.bs b o e).1 (I.ok.bs b o e).2 (I.ok.nofr e) (I.ok.noex b o e),I.base.free b o (I.ok.bs b o e).1 (I.ok.bs b o e).2 (I.ok.noex b o e)⟩
theorem Inv.bk (I:Inv X pins σ H s):∀b o,X.base.get? b=some o→s.heap.get? b=some o:=fun b o e=>(I.bs b o e).1
theorem Inv.mod (I:Inv X pins σ H s):Mod X.K X.mg X.base:=I.ok.mod
theorem Inv.kIn (I:Inv X pins σ H s):X.K.In s.heap:=I.ok.mod.kin.keeps I.bk
theorem Inv.fr (I:Inv X pins σ H s):∃m,Fr X.base X.env.locals s.heap m :=
 let ⟨m,hn,_⟩:=I.loc
 ⟨m,hn,I.bk,Nat.le_trans I.ok.bsz I.ok.above⟩
theorem Inv.lt (I:Inv X pins σ H s):X.env.locals<s.heap.objs.size:=let ⟨_,hn,_⟩:=I.loc;hn.lt
theorem Inv.sz (I:Inv X pins σ H s):X.s₀.heap.objs.size≤s.heap.objs.size:=Nat.le_trans I.ok.above (Nat.le_of_lt I.lt)
theorem Inv.nofs (I:Inv X pins σ H s) {a:Addr}(h:s.heap.objs.size≤a):a∉X.fs:=fun hb=>by
 obtain⟨_,o,ho,_⟩:=I.ok.funs.mem hb
 exact absurd (Nat.lt_of_lt_of_le (Heap.lt_size ho) (Nat.le_trans I.sz h)) (Nat.lt_irrefl _)
theorem Inv.cne (I:Inv X pins σ H s):∀x c,X.env.cells.lookup x=some c→c≠X.env.locals:=fun x c e z=>by
 obtain⟨v,o,ho,hd⟩:=I.cell x c e
 obtain⟨m,⟨o',es,ep,ho',hd',_⟩,_⟩:=I.loc
 rw[z,ho']at ho;cases ho;rw[hd']at hd;cases hd
theorem Inv.funs (I:Inv X pins σ H s):s.heap.FunFrames X.base X.outer:=by
 have all:∀(l:List Env),(∀b∈frs l,b∈X.fs)→X.s₀.heap.FunFrames X.base l→s.heap.FunFrames X.base l:=by
  intro l
  induction l with
  | nil=>intro _ _;trivial
  | cons env r ih =>
   intro hs hl
   obtain⟨hk,⟨L,o,hf,hn,ho,hd⟩,hr⟩:=hl
   have hL:L∈X.fs:=hs L (by unfold frs;rw[List.filterMap_cons,hf];exact List.mem_cons_self)
   obtain⟨sl,e⟩:=I.base.slot L o ho (I.ok.frf L hL) hL fun z=>I.ok.exfs L z hL
   exact⟨hk,⟨L,_,hf,hn,e,hd⟩,ih (fun b hb=>hs b (by unfold frs;rw[List.filterMap_cons,hf];exact List.mem_cons_of_mem _ hb)) hr⟩
 exact all X.outer (fun _ hb=>hb) I.ok.funs
theorem Inv.stack (I:Inv X pins σ H s):s.heap.FunFrames X.base X.stack:=by
 rcases I.ok.stk with e | ⟨e,hf⟩
 ·rw[e];exact I.funs
 ·rw[e]
  obtain⟨m,hn,_⟩:=I.loc
  refine .cons (by rw[I.ok.kind];decide) hf hn ?_ I.funs
  exact Heap.get?_none_of_le (Nat.le_trans I.ok.bsz I.ok.above)
theorem Inv.stkSub (I:Inv X pins σ H s):∀b∈frs X.stack,b∈X.env.locals :: X.fs:=fun b hb=>by
 rcases I.ok.stk with e | ⟨e,hf⟩
 ·rw[e]at hb;exact List.mem_cons_of_mem _ hb
 ·rw[e]at hb
  unfold frs at hb
  rw[List.filterMap_cons,hf]at hb
  exact hb
theorem Inv.stkFree (I:Inv X pins σ H s):∀b∈frs X.stack,H b=none:=fun b hb=>by
 rcases List.mem_cons.mp (I.stkSub b hb)with e |hb
 ·rw[e];exact I.free
 ·obtain⟨_,o,ho,_⟩:=I.ok.funs.mem hb
  exact I.base.free b o ho (I.ok.frf b hb) fun z=>I.ok.exfs b z hb
theorem Inv.step {g':Array GenState}{t':Nat}{d':Drawn}{ch:List Addr}(I:Inv X pins σ H s)
  (hch:∀b∈ch,(b∈X.ex∨X.s₀.heap.objs.size≤b)∧b≠X.env.locals∧(∀x c,X.env.cells.lookup x=some c→c≠b)∧∀p∈X.pn ++ pins,p.1≠b)
  (keep:∀b o,b≠X.env.locals→b∉X.fs→b∉ch→s.heap.get? b=some o→H b=none→h'.get? b=some o)
  (slot:∀b o,b≠X.env.locals→b∈X.fs→b∉ch→s.heap.get? b=some o→H b=none→∃sl,h'.get? b=some { o with slots:=sl }) (free:∀b o,b∉ch→s.heap.get? b=some o→H b=none→H' b=none)
  (there:∀b o,b∉ch→s.heap.get? b=some o→∃o',h'.get? b=some o')
  (tups:∀b xs,H b=some (.tup xs)→H' b=some (.tup xs)) (frzs:∀b o u,H b=some (.frz o u)→H' b=some (.frz o u)) (tbls:∀b ps,H b=some (.tbl ps)→∃more,H' b=some (.tbl (ps ++ more)))
  (ns:∀m,s.heap.Ns X.env.locals m→h'.Ns X.env.locals m) (hok:HOk X.prog X.w H' h') (hg:AllBare g') :
  Inv X pins σ H' { s with heap:=h',gens:=g',drawn:=d',toks:=t' }:=by
 have neL:∀b o,X.s₀.heap.get? b=some o→b≠X.env.locals:=fun b o e=>Nat.ne_of_lt (Nat.lt_of_lt_of_le (Heap.lt_size e) I.ok.above)
 have neC:∀b o,X.s₀.heap.get? b=some o→b∉X.ex→b∉ch:=fun b o e hx hb=>by
  rcases(hch b hb).1 with z |z
  ·exact hx z
  ·exact absurd (Nat.lt_of_lt_of_le (Heap.lt_size e) z) (Nat.lt_irrefl _)
 have cellK:∀x c,X.env.cells.lookup x=some c→∀v,s.heap.IsCell c v→h'.IsCell c v:=fun x c e v ⟨o,ho,hd⟩=>by
  have nch:c∉ch:=fun z=>(hch c z).2.2.1 x c e rfl
  by_cases hc:c∈X.fs
  ·obtain⟨sl,q⟩:=slot c o (I.cne x c e) hc nch ho (I.freeC x c e)
   exact⟨_,q,hd⟩
  ·exact⟨o,keep c o (I.cne x c e) hc nch ho (I.freeC x c e),hd⟩
 refine⟨I.ok,I.os,hg,⟨fun b o e n hb hx=>?_,fun b o e n hb hx=>?_,fun b o e n hx=>?_,fun b o e hx=>?_,fun b xs e=>tups b xs (I.base.tups b xs e),fun b o xs e=>frzs b o xs (I.base.frzs b o xs e),fun b ps e=>?_⟩,?_,fun x c e=>?_,?_,fun x c e=>?_,fun p hp=>?_,hok,I.len⟩
 ·exact keep b o (neL b o e) hb (neC b o e hx) (I.base.keep b o e n hb hx) (I.base.free b o e n hx)
 ·obtain⟨sl,e1⟩:=I.base.slot b o e n hb hx
  obtain⟨sl',e2⟩:=slot b _ (neL b o e) hb (neC b o e hx) e1 (I.base.free b o e n hx)
  exact⟨sl',e2⟩
 ·obtain⟨o',e1⟩:=I.base.there b o e hx
  exact free b o' (neC b o e hx) e1 (I.base.free b o e n hx)
 ·obtain⟨o',e1⟩:=I.base.there b o e hx
  exact there b o' (neC b o e hx) e1
 ·obtain⟨m1,e1⟩:=I.base.tbls b ps e
  obtain⟨m2,e2⟩:=tbls b _ e1
  exact⟨m1 ++ m2,by rw[e2,Array.append_assoc]⟩
 ·obtain⟨m,hn,hl⟩:=I.loc
  refine⟨m,ns m hn,fun i x v e1 e2 e3=>?_⟩
  obtain⟨u,r,l⟩:=hl i x v e1 e2 e3
  refine⟨u,r,?_⟩
  rcases l with l | ⟨k,c,e,z⟩
  ·exact .inl l
  ·exact .inr ⟨k,c,e,cellK x c e _ z⟩
 ·obtain⟨v,z⟩:=I.cell x c e
  exact⟨v,cellK x c e v z⟩
 ·obtain⟨m,⟨o,_,_,ho,_⟩,_⟩:=I.loc
  exact free _ o (fun z=>(hch _ z).2.1 rfl) ho I.free
 ·obtain⟨v,o,ho,hd⟩:=I.cell x c e
  exact free c o (fun z=>(hch c z).2.2.1 x c e rfl) ho (I.freeC x c e)
 ·obtain⟨e,n,ne,nf,d⟩:=I.pin p hp
  have nch:p.1∉ch:=fun z=>(hch p.1 z).2.2.2 p hp rfl
  exact⟨keep p.1 p.2 ne nf nch e n,free p.1 p.2 nch e n,ne,nf,d⟩
theorem Inv.un {t':Nat}(I:Inv X pins σ H s)(u:Un X.fs [] H H' s.heap h')(hok:HOk X.prog X.w H' h'):Inv X pins σ H' { s with heap:=h',toks:=t' }:=by
 obtain⟨m,⟨o,es,ep,ho,r⟩,_⟩:=id I.loc
 obtain⟨sl,hL⟩:=u.any ho I.free (by simp)
 exact I.step (g':=s.gens) (d':=s.drawn) (ch:=[]) (fun _ z=>nomatch z) (fun b o _ hb _ e n=>u.keep b o e n hb (by simp)) (fun b o _ hb _ e n=>u.slot b o e n hb (by simp)) (fun b o _ e n=>u.free b o e n (by simp)) (fun b o _ e=>u.there b o e (by simp)) u.tups u.frzs u.tbls (fun m' hm=>by
  obtain⟨o',es',ep',ho',r'⟩:=hm
  rw[ho]at ho';cases ho'
  exact⟨_,es',ep',hL,r'⟩) hok I.bare
theorem Inv.call {g':Array GenState}{t':Nat}{d':Drawn}{ch:List Addr}(I:Inv X pins σ H s)(u:Un (frs X.stack) ch H H' s.heap h')(hok:HOk X.prog X.w H' h')(hg:AllBare g')
  (hch:∀b∈ch,(b∈X.ex∨X.s₀.heap.objs.size≤b)∧b≠X.env.locals∧(∀x c,X.env.cells.lookup x=some c→c≠b)∧∀p∈X.pn ++ pins,p.1≠b) :
  Inv X pins σ H' { s with heap:=h',gens:=g',drawn:=d',toks:=t' }:=by
 obtain⟨m,⟨o,es,ep,ho,r⟩,_⟩:=id I.loc
 obtain⟨sl,hL⟩:=u.any ho I.free fun z=>(hch _ z).2.1 rfl
 exact I.step (ch:=ch) hch (fun b o hL hb hc e n=>u.keep b o e n (fun z=>(List.mem_cons.mp (I.stkSub b z)).elim hL hb) hc) (fun b o _ _ hc e n=>u.any e n hc) (fun b o hc e n=>u.free b o e n hc) (fun b o hc e=>u.there b o e hc) u.tups u.frzs u.tbls (fun m' hm=>by
  obtain⟨o',es',ep',ho',r'⟩:=hm
  rw[ho]at ho';cases ho'
  exact⟨_,es',ep',hL,r'⟩) hok hg
theorem Inv.turned {t':Nat}{it:Addr}(I:Inv X pins σ H s)(k:∀b o,b≠it→s.heap.get? b=some o→h'.get? b=some o)(hn:H it=none)(hL:it≠X.env.locals)
  (h1:it∈X.ex∨X.s₀.heap.objs.size≤it) (h2:∀x c,X.env.cells.lookup x=some c→c≠it) (h3:∀p∈X.pn ++ pins,p.1≠it):Inv X pins σ H { s with heap:=h',toks:=t' }:=by
 have nit:∀b u,H b=some u→b≠it:=fun b u e z=>by rw[z,hn]at e;cases e
 refine I.step (g':=s.gens) (d':=s.drawn) (ch:=[it]) (fun b hb=>?_) (fun b o _ _ hc e _=>k b o (fun z=>hc (by simp[z])) e) (fun b o _ _ hc e _=>⟨o.slots,k b o (fun z=>hc (by simp[z])) e⟩) (fun _ _ _ _ n=>n)
  (fun b o hc e=>⟨o,k b o (fun z=>hc (by simp[z])) e⟩) (fun _ _ e=>e) (fun _ _ _ e=>e) (fun b ps e=>⟨#[],by rw[e];simp⟩) (fun m hm=>?_) (fun b u e=>?_) I.bare
 ·have e:b=it:=by simpa using hb
  subst e
  exact⟨h1,hL,h2,h3⟩
 ·obtain⟨o,es,ep,ho,r⟩:=hm
  exact⟨o,es,ep,k _ o (Ne.symm hL) ho,r⟩
 ·refine(I.hok b u e).stay (fun c v hc q=>k c v ?_ q) (fun _ q=>q) fun _ _ q=>q
  rcases hc with z |z
  ·rw[z];exact nit b u e
  ·exact nit c _ z
theorem Inv.tok (I:Inv X pins σ H s) (t:Nat):Inv X pins σ H { s with toks:=t }:=I.un (h':=s.heap) (t':=t) Un.refl I.hok
theorem Inv.kept {t':Nat}(I:Inv X pins σ H s)(k:∀b u,s.heap.get? b=some u→h'.get? b=some u):Inv X pins σ H { s with heap:=h',toks:=t' }:=I.un (Un.kept k) (I.hok.kept k)
theorem Inv.laid {a:Addr}{o:HO}{t':Nat}(I:Inv X pins σ H s)(k:∀b u,s.heap.get? b=some u→h'.get? b=some u)(hp:s.heap.objs.size≤a)(new:ObjOk X.prog X.w (upd H a o) h' a o) :
  Inv X pins σ (upd H a o) { s with heap:=h',toks:=t' }:=I.un (Un.laid k hp (I.hok.fresh hp)) (I.hok.laid k hp new)
theorem Inv.write {x e:Addr}{o:HO}{t':Nat}(I:Inv X pins σ H s)(mu:Mut (H x))(he:e=x∨H e=some (.own x))(k:∀b u,b≠e→s.heap.get? b=some u→h'.get? b=some u)(heo:∃u,h'.get? e=some u)
  (new:ObjOk X.prog X.w (upd H x o) h' x o):Inv X pins σ (upd H x o) { s with heap:=h',toks:=t' }:=I.un (Un.write mu he k heo) (I.hok.write mu he k heo new)
theorem Inv.pins_of {pins':List (Addr×Obj)}(I:Inv X pins σ H s)(h:∀p∈pins',s.heap.get? p.1=some p.2∧H p.1=none∧p.1≠X.env.locals∧p.1∉X.fs∧∀v,p.2.data ≠ .cell v):Inv X pins' σ H s :=
 ⟨I.ok,I.os,I.bare,I.base,I.loc,I.cell,I.free,I.freeC,fun p hp=>(List.mem_append.mp hp).elim (fun z=>I.pin p (List.mem_append_left _ z)) (h p),I.hok,I.len⟩
theorem nodup_ix {N:List Str}(hN:N.Nodup) {i j:Nat}{x:Str}(a:N[i]? = some x)(b:N[j]? = some x):i=j:=by
 obtain⟨h1,e1⟩:=List.getElem?_eq_some_iff.mp a
 obtain⟨h2,e2⟩:=List.getElem?_eq_some_iff.mp b
 exact(List.getElem_inj hN).mp (e1.trans e2.symm)
theorem store_ok2 {M:Model}{A:Around}{E:Value→Shared→Prop}{i:Nat}{x:Str}{v:V}{u:Value}{Q:Unit→Shared→Prop}(I:Inv X pins σ H s)(hN:X.N.Nodup)(hi:X.N[i]? = some x)(hx:Loc X.env.scope x)(r:RelV v u)
  (h:∀s',Inv X pins (σ.set i (some v)) H s'→(∃a,Heap.SameBut a s.heap s'.heap∧(a=X.env.locals∨X.env.cells.lookup x=some a))→Q () s') (hf:X.fn x=true∨X.env.scope.names.lookup x=some .local:=by first |exact .inl rfl |exact .inr rfl |assumption):wpAny M A (storeName X.env x u) Q E s:=by
 obtain⟨m,hn,hl⟩:=id I.loc
 have hcls:(X.env.scope.kind == .class || (X.env.scope.kind == .module && X.env.locals != X.env.globals))=false:=by rw[I.ok.kind];rfl
 have hiσ:i<σ.length:=by rw[I.len];exact(List.getElem?_eq_some_iff.mp hi).1
 have cne:=I.cne
 have tracked:∀ {a:Addr}{h':Heap},(∃o,s.heap.get? a=some o∧H a=none)→Heap.SameBut a s.heap h'→HOk X.prog X.w H h':=fun {a h'} ha hs b ob e=>by
  obtain⟨_,_,hfree⟩:=ha
  refine(I.hok b ob e).stay (fun c w' hc q=>(hs.2 c ?_).trans q) (fun _ q=>q) fun _ _ q=>q
  rintro rfl
  rcases hc with rfl |hc
  ·rw[hfree]at e;cases e
  ·rw[hfree]at hc;cases hc
 rcases hx with hk |hk
 ·refine wpAny_storeName_local hk hn (fun h' hn' hs=>?_) hcls
  obtain⟨oL,_,_,hoL,_⟩:=id hn
  refine h _ ⟨I.ok,I.os,I.bare,⟨fun b o e n hb hx=>?_,fun b o e n hb hx=>?_,I.base.free,fun b o e hx=>?_,I.base.tups,I.base.frzs,I.base.tbls⟩,⟨_,hn',fun j y v' e1 e2 e3=>?_⟩,fun y c e=>?_,I.free,I.freeC,fun p hp=>?_,tracked ⟨oL,hoL,I.free⟩ hs,by simpa using I.len⟩ ⟨_,hs,.inl rfl⟩
  ·exact(hs.2 b (Nat.ne_of_lt (Nat.lt_of_lt_of_le (Heap.lt_size e) I.ok.above))).trans (I.base.keep b o e n hb hx)
  ·obtain⟨sl,e1⟩:=I.base.slot b o e n hb hx
   exact⟨sl,(hs.2 b (Nat.ne_of_lt (Nat.lt_of_lt_of_le (Heap.lt_size e) I.ok.above))).trans e1⟩
  ·obtain⟨o',e1⟩:=I.base.there b o e hx
   exact⟨o',(hs.2 b (Nat.ne_of_lt (Nat.lt_of_lt_of_le (Heap.lt_size e) I.ok.above))).trans e1⟩
  ·by_cases hj:j=i
   ·subst hj
    rw[hi]at e1;cases e1
    rw[List.getElem?_set_self hiσ]at e2
    cases e2
    exact⟨u,r,.inl ⟨hk,by simp⟩⟩
   ·rw[List.getElem?_set_ne (Ne.symm hj)]at e2
    obtain⟨u',r',q⟩:=hl j y v' e1 e2 e3
    refine⟨u',r',?_⟩
    rcases q with ⟨k,e⟩ | ⟨k,c,e,z⟩
    ·refine .inl ⟨k,?_⟩
     have:y≠x:=fun e=>hj (nodup_ix hN e1 (e ▸ hi))
     simp[this,e]
    ·exact .inr ⟨k,c,e,z.sameBut hs (cne y c e)⟩
  ·obtain⟨w',z⟩:=I.cell y c e
   exact⟨w',z.sameBut hs (cne y c e)⟩
  ·obtain⟨e,n,ne,nf,d⟩:=I.pin p hp
   exact⟨(hs.2 p.1 ne).trans e,n,ne,nf,d⟩
 ·have hfn:X.fn x=true:=by
   rcases hf with z |z
   ·exact z
   ·rw[z]at hk;cases hk
  obtain⟨c,hc⟩:=I.ok.has x (.inl hk)
  obtain⟨w',z⟩:=I.cell x c hc
  refine wpAny_storeName_cell I.ok.kind hk hc z (fun h' hc' hs=>?_)
  obtain⟨oc,hoc,hocd⟩:=id z
  refine h { s with heap:=h' } ⟨I.ok,I.os,I.bare,⟨fun b o e n hb hx=>?_,fun b o e n hb hx=>?_,I.base.free,fun b o e hx=>?_,I.base.tups,I.base.frzs,I.base.tbls⟩,⟨m,hn.sameBut hs (Ne.symm (cne x c hc)),fun j y v' e1 e2 e3=>?_⟩,fun y c' e=>?_,I.free,I.freeC,fun p hp=>?_,tracked ⟨oc,hoc,I.freeC x c hc⟩ hs,by simpa using I.len⟩ ⟨c,hs,.inr hc⟩
  ·exact(hs.2 b (Nat.ne_of_lt (Nat.lt_of_lt_of_le (Heap.lt_size e) (I.ok.cab x c hfn hc)))).trans (I.base.keep b o e n hb hx)
  ·obtain⟨sl,e1⟩:=I.base.slot b o e n hb hx
   exact⟨sl,(hs.2 b (Nat.ne_of_lt (Nat.lt_of_lt_of_le (Heap.lt_size e) (I.ok.cab x c hfn hc)))).trans e1⟩
  ·obtain⟨o',e1⟩:=I.base.there b o e hx
   exact⟨o',(hs.2 b (Nat.ne_of_lt (Nat.lt_of_lt_of_le (Heap.lt_size e) (I.ok.cab x c hfn hc)))).trans e1⟩
  ·by_cases hj:j=i
   ·subst hj
    rw[hi]at e1;cases e1
    rw[List.getElem?_set_self hiσ]at e2
    cases e2
    exact⟨u,r,.inr ⟨.inl hk,c,hc,hc'⟩⟩
   ·rw[List.getElem?_set_ne (Ne.symm hj)]at e2
    obtain⟨u',r',q⟩:=hl j y v' e1 e2 e3
    refine⟨u',r',?_⟩
    rcases q with q | ⟨k,c',e,z'⟩
    ·exact .inl q
    ·refine .inr ⟨k,c',e,z'.sameBut hs ?_⟩
     rintro rfl
     exact hj (nodup_ix hN e1 (I.ok.inj _ _ _ e hc ▸ hi))
  ·by_cases hcc:c'=c
   ·subst hcc;exact⟨_,hc'⟩
   ·obtain⟨w2,z2⟩:=I.cell y c' e
    exact⟨w2,z2.sameBut hs hcc⟩
  ·obtain⟨e,n,ne,nf,d⟩:=I.pin p hp
   refine⟨(hs.2 p.1 ?_).trans e,n,ne,nf,d⟩
   intro q
   rw[q,hoc]at e
   have q':oc=p.2:=Option.some.inj e
   exact d w' (by rw[← q'];exact hocd)
theorem store_ok {M:Model}{A:Around}{E:Value→Shared→Prop}{i:Nat}{x:Str}{v:V}{u:Value}{Q:Unit→Shared→Prop}(I:Inv X pins σ H s)(hN:X.N.Nodup)(hi:X.N[i]? = some x)(hx:Loc X.env.scope x)(r:RelV v u)
  (h:∀s',Inv X pins (σ.set i (some v)) H s'→Q () s') (hf:X.fn x=true∨X.env.scope.names.lookup x=some .local:=by first |exact .inl rfl |exact .inr rfl |assumption):wpAny M A (storeName X.env x u) Q E s :=
 store_ok2 I hN hi hx r (fun s' I' _=>h s' I') hf
end
noncomputable abbrev XK:=Value→Option Addr→Hp→Prop
noncomputable abbrev St:=List (Option V)
noncomputable abbrev VK:=V→Hp→Prop
noncomputable abbrev TE:=St→Hp→VK→Prop
noncomputable abbrev TT:=St→Hp→(Bool→Hp→Prop)→Prop
noncomputable abbrev TA:=St→Hp→(List V→Hp→Prop)→Prop
structure Ends where
 nx:St→Hp→Prop
 rt:VK
 bk:St→Hp→Prop:=fun _ _=>False
 ct:St→Hp→Prop:=fun _ _=>False
noncomputable abbrev TS:=Ends→St→Hp→Prop
noncomputable def EP (X:Cx)(pins:List (Addr×Obj)) (σ:St)(Q:VK)(u:Value)(s':Shared):Prop:=∃v H',Inv X pins σ H' s'∧RelV v u∧Q v H'
noncomputable def TP (X:Cx)(pins:List (Addr×Obj)) (σ:St)(Q:Bool→Hp→Prop)(b:Bool)(s':Shared):Prop:=∃H',Inv X pins σ H' s'∧Q b H'
noncomputable def AP (X:Cx)(pins:List (Addr×Obj)) (σ:St)(Q:List V→Hp→Prop)(us:List Value)(s':Shared):Prop:=∃vs H',Inv X pins σ H' s'∧Vals vs us∧Q vs H'
noncomputable def SP (X:Cx)(pins:List (Addr×Obj))(D:Ends)(f:Flow)(s':Shared):Prop :=
 match f with
 | .next=>∃ σ' H',Inv X pins σ' H' s'∧D.nx σ' H'
 | .brk=>∃ σ' H',Inv X pins σ' H' s'∧D.bk σ' H'
 | .cont=>∃ σ' H',Inv X pins σ' H' s'∧D.ct σ' H'
 | .ret u=>∃v σ' H',Inv X pins σ' H' s'∧RelV v u∧D.rt v H'
noncomputable def PE (X:Cx)(e:Expr)(t:TE):Prop :=
 ∀(pins:List (Addr×Obj)) (s:Shared) (σ:St) (H:Hp) (Q:VK),Inv X pins σ H s→t σ H Q→wpAny (model X.prog X.w) X.A (eval e X.env) (EP X pins σ Q) X.xe s
noncomputable def PT (X:Cx)(e:Expr)(t:TT):Prop :=
 ∀(pins:List (Addr×Obj)) (s:Shared) (σ:St) (H:Hp) (Q:Bool→Hp→Prop),Inv X pins σ H s→t σ H Q→wpAny (model X.prog X.w) X.A (isTrue e X.env (eval e X.env)) (TP X pins σ Q) X.xe s
noncomputable def PW (X:Cx)(e:Expr)(t:TT):Prop :=
 ∀(whole:Sem Value) (pins:List (Addr×Obj)) (s:Shared) (σ:St) (H:Hp) (Q:Bool→Hp→Prop),Inv X pins σ H s→t σ H Q→wpAny (model X.prog X.w) X.A (isTrue e X.env whole) (TP X pins σ Q) X.xe s
theorem PW.pt {X:Cx}{e:Expr}{t:TT}(h:PW X e t):PT X e t:=h _
noncomputable def PA (X:Cx)(es:List Expr)(t:TA):Prop :=
 ∀(pos:Pos) (pins:List (Addr×Obj)) (s:Shared) (σ:St) (H:Hp) (Q:List V→Hp→Prop),Inv X pins σ H s→t σ H Q→wpAny (model X.prog X.w) X.A (spliced (backTo pos (starEach es X.env))) (AP X pins σ Q) X.xe s
noncomputable def PS (X:Cx)(st:Stmt)(t:TS):Prop :=
 ∀(pins:List (Addr×Obj)) (s:Shared) (σ:St) (H:Hp) (D:Ends),Inv X pins σ H s→t D σ H→wpAny (model X.prog X.w) X.A (exec st X.env) (SP X pins D) X.xe s
noncomputable def PSs (X:Cx)(st:List Stmt)(t:TS):Prop :=
 ∀(pins:List (Addr×Obj)) (s:Shared) (σ:St) (H:Hp) (D:Ends),Inv X pins σ H s→t D σ H→wpAny (model X.prog X.w) X.A (execs st X.env) (SP X pins D) X.xe s
theorem thn {α:Type}{t:Sem α}{Q Q':α→Shared→Prop}{M:Model}{A:Around}{E:Value→Shared→Prop}{s:Shared}(h:wpAny M A t Q E s)(hQ:∀a s,Q a s→Q' a s):wpAny M A t Q' E s:=wpAny_mono h hQ fun _ _ x=>x
section
variable {X:Cx}
noncomputable def tVar (i:Nat):TE:=fun σ H Q=>∃v,σ[i]? = some (some v)∧Q v H
noncomputable def tC (v:V):TE:=fun _ H Q=>Q v H
theorem pe_var {i:Nat}{x:Str}{pos:Pos}(hN:X.N[i]? = some x)(hv:Vis X.env.scope x)(hd:(x == ("__debug__":Str))=false:=by decide)(hcd:(x == ("__classdict__":Str))=false:=by decide):PE X (.Name x pos) (tVar i):=by
 intro pins s σ H Q I h
 obtain⟨v,e,h⟩:=h
 obtain⟨m,hn,hl⟩:=I.loc
 obtain⟨u,r,l⟩:=hl i x v hN e hv
 have fin:EP X pins σ Q u s:=⟨v,H,I,r,h⟩
 rcases l with ⟨hk,hm⟩ | ⟨hk,c,hc,hcell⟩
 ·exact wpAny_Name (wpAny_loadName_local I.ok.kind hk hn hm fin) hd
 ·rcases hk with hk |hk
  ·exact wpAny_Name (wpAny_loadName_cell I.ok.kind hk hc hcell fin) hd
  ·exact wpAny_Name (wpAny_loadName_free I.ok.kind hk hc hcell fin hcd) hd
theorem pe_int {i j pos}:PE X (.Constant (.int i) j pos) (tC (.int i)):=fun _ _ _ H _ I h=>wpAny_Constant_int ⟨.int i,H,I.tok _,⟨_,rfl⟩,h⟩
theorem pe_bl {b j pos}:PE X (.Constant (.bool b) j pos) (tC (.bl b)):=fun _ _ _ H _ I h=>Constant_bool ⟨.bl b,H,I,rfl,h⟩
theorem pe_non {j pos}:PE X (.Constant .none j pos) (tC .non):=fun _ _ _ H _ I h=>Constant_none ⟨.non,H,I,rfl,h⟩
theorem pe_str {x j pos}:PE X (.Constant (.str x) j pos) (tC (.str x)):=fun _ _ _ H _ I h=>Calls.Constant_str ⟨.str x,H,I.tok _,⟨_,rfl⟩,h⟩
noncomputable def Gl (X:Cx)(x:Str):Prop:=X.env.kindOf x=some .globalImplicit
theorem ld_glob {E:Value→Shared→Prop}{pins:List (Addr×Obj)}{s:Shared}{σ:St}{H:Hp}{x:Str}{u:Value}{pos:Pos}{Q:Value→Shared→Prop}(I:Inv X pins σ H s)(hg:Gl X x)(hm:X.mg x=some u)(h:Q u s)
  (hd:(x == ("__debug__":Str))=false:=by decide):wpAny (model X.prog X.w) X.A (eval (.Name x pos) X.env) Q E s :=
 Calls.Name_function_global I.ok.kind hg (Calls.loadGlobal_global (by rw[I.ok.glob];exact I.mod.glob.keeps I.bk) hm h) hd
theorem ld_blt {E:Value→Shared→Prop}{pins:List (Addr×Obj)}{s:Shared}{σ:St}{H:Hp}{x:Str}{u:Value}{pos:Pos}{Q:Value→Shared→Prop}(I:Inv X pins σ H s)(hg:Gl X x)(hm:X.mg x=none)(hv:bootBuiltins x=some u)(h:Q u s)
  (hn:x ≠ "__name__":=by decide) (hd:(x == ("__debug__":Str))=false:=by decide):wpAny (model X.prog X.w) X.A (eval (.Name x pos) X.env) Q E s:=by
 obtain⟨mb,h1,h2⟩:=I.mod.blt
 exact Calls.Name_function_global I.ok.kind hg (Calls.loadGlobal_builtin (by rw[I.ok.glob];exact I.mod.glob.keeps I.bk) hm (by rw[I.ok.blt];exact h1.keeps I.bk) ((h2 x hn).trans hv) h) hd
theorem pe_glob {x:Str}{v:V}{u:Value}{pos:Pos}(hg:Gl X x)(hm:X.mg x=some u)(r:RelV v u)(hd:(x == ("__debug__":Str))=false:=by decide):PE X (.Name x pos) (tC v) :=
 fun _ _ _ H _ I h=>ld_glob I hg hm ⟨v,H,I,r,h⟩ hd
theorem pe_bltn {x:Str}{v:V}{u:Value}{pos:Pos}(hg:Gl X x)(hm:X.mg x=none)(hv:bootBuiltins x=some u)(r:RelV v u)(hn:x ≠ "__name__":=by decide)(hd:(x == ("__debug__":Str))=false:=by decide):PE X (.Name x pos) (tC v) :=
 fun _ _ _ H _ I h=>ld_blt I hg hm hv ⟨v,H,I,r,h⟩ hn hd
variable {a b:Expr}{ta tb:TE}{pos:Pos}
noncomputable def tB (t:TE):TT:=fun σ H Q=>t σ H fun x H1=>∃c,x = .bl c∧Q c H1
theorem pt_val {e:Expr}{t:TE}(h:PE X e t)(he:∀whole,isTrue e X.env whole=(do let v ← whole;standAt e.pos;holding [v] (truthy v)):=by intro _;rfl):PT X e (tB t):=by
 intro pins s σ H Q I hw
 refine isTrue_plain (thn (h pins s σ H _ I hw) fun v s1 ⟨x,H1,I1,r1,q1⟩=>?_) (he _)
 obtain⟨d,rfl,q⟩:=q1
 cases r1
 exact wpAny_truthy_bool ⟨H1,I1,q⟩
variable {tA tB':TT}{rest:List Expr}
noncomputable def tAnd (t u:TT):TT:=fun σ H Q=>t σ H fun c H1=>if c=true then u σ H1 Q else Q false H1
noncomputable def tOr (t u:TT):TT:=fun σ H Q=>t σ H fun c H1=>if c=true then Q true H1 else u σ H1 Q
noncomputable def tNot (t:TT):TT:=fun σ H Q=>t σ H fun c H1=>Q (!c) H1
theorem pw_and1 (ha:PT X a tA):PW X (.BoolOp .And [a] pos) tA:=by
 intro wh pins s σ H Q I h
 refine isTrue_and (thn (ha pins s σ H Q I h) fun c s1 e=>?_)
 cases c with
 | true=>exact isTrue_and_nil e
 | false=>exact e
theorem pw_or1 (ha:PT X a tA):PW X (.BoolOp .Or [a] pos) tA:=by
 intro wh pins s σ H Q I h
 refine isTrue_or (thn (ha pins s σ H Q I h) fun c s1 e=>?_)
 cases c with
 | false=>exact isTrue_or_nil e
 | true=>exact e
theorem pw_and (ha:PT X a tA)(hb:PW X (.BoolOp .And (b :: rest) pos) tB'):PW X (.BoolOp .And (a :: b :: rest) pos) (tAnd tA tB'):=by
 intro wh pins s σ H Q I h
 refine isTrue_and (thn (ha pins s σ H _ I h) fun c s1 ⟨H1,I1,q1⟩=>?_)
 cases c with
 | true=>exact hb wh pins s1 σ H1 Q I1 q1
 | false=>exact⟨H1,I1,q1⟩
theorem pw_or (ha:PT X a tA)(hb:PW X (.BoolOp .Or (b :: rest) pos) tB'):PW X (.BoolOp .Or (a :: b :: rest) pos) (tOr tA tB'):=by
 intro wh pins s σ H Q I h
 refine isTrue_or (thn (ha pins s σ H _ I h) fun c s1 ⟨H1,I1,q1⟩=>?_)
 cases c with
 | true=>exact⟨H1,I1,q1⟩
 | false=>exact hb wh pins s1 σ H1 Q I1 q1
theorem pt_not (ha:PT X a tA):PT X (.UnaryOp .Not a pos) (tNot tA):=by
 intro pins s σ H Q I h
 exact isTrue_not (ha pins s σ H (fun c H1=>Q (!c) H1) I h)
noncomputable def tAndV (ta tb:TE):TE:=fun σ H Q=>ta σ H fun x H1=>∃c,x = .bl c∧if c=true then tb σ H1 Q else Q (.bl false) H1
noncomputable def tOrV (ta tb:TE):TE:=fun σ H Q=>ta σ H fun x H1=>∃c,x = .bl c∧if c=true then Q (.bl true) H1 else tb σ H1 Q
noncomputable def tNotV (ta:TE):TE:=fun σ H Q=>ta σ H fun x H1=>∃c,x = .bl c∧Q (.bl (!c)) H1
theorem pe_one {op}{t:TE}(h:PE X a t):PE X (.BoolOp op [a] pos) t:=fun pins s σ H Q I hw=>BoolOp_one (h pins s σ H Q I hw)
theorem pe_and (ha:PE X a ta)(hb:PE X (.BoolOp .And (b :: rest) pos) tb):PE X (.BoolOp .And (a :: b :: rest) pos) (tAndV ta tb):=by
 intro pins s σ H Q I h
 refine BoolOp_and (thn (ha pins s σ H _ I h) fun v s1 ⟨x,H1,I1,r1,q1⟩=>?_)
 obtain⟨c,rfl,q1⟩:=q1
 cases r1
 refine wpAny_truthy_bool ?_
 cases c with
 | true=>exact hb pins s1 σ H1 Q I1 q1
 | false=>exact⟨.bl false,H1,I1,rfl,q1⟩
theorem pe_or (ha:PE X a ta)(hb:PE X (.BoolOp .Or (b :: rest) pos) tb):PE X (.BoolOp .Or (a :: b :: rest) pos) (tOrV ta tb):=by
 intro pins s σ H Q I h
 refine BoolOp_or (thn (ha pins s σ H _ I h) fun v s1 ⟨x,H1,I1,r1,q1⟩=>?_)
 obtain⟨c,rfl,q1⟩:=q1
 cases r1
 refine wpAny_truthy_bool ?_
 cases c with
 | false=>exact hb pins s1 σ H1 Q I1 q1
 | true=>exact⟨.bl true,H1,I1,rfl,q1⟩
theorem pe_not (ha:PE X a ta):PE X (.UnaryOp .Not a pos) (tNotV ta):=by
 intro pins s σ H Q I h
 refine UnaryOp_ (thn (ha pins s σ H _ I h) fun v s1 ⟨x,H1,I1,r1,q1⟩=>?_)
 obtain⟨c,rfl,q1⟩:=q1
 cases r1
 exact not_of (wpAny_truthy_bool ⟨.bl (!c),H1,I1,rfl,q1⟩)
noncomputable def tIf (t:TT)(ta tb:TE):TE:=fun σ H Q=>t σ H fun c H1=>if c=true then ta σ H1 Q else tb σ H1 Q
theorem pe_ifExp {c:Expr}(hc:PT X c tA)(ha:PE X a ta)(hb:PE X b tb):PE X (.IfExp c a b pos) (tIf tA ta tb):=by
 intro pins s σ H Q I h
 refine wpAny_IfExp (thn (hc pins s σ H _ I h) fun d s1 ⟨H1,I1,q1⟩=>?_)
 cases d with
 | true=>exact ha pins s1 σ H1 Q I1 q1
 | false=>exact hb pins s1 σ H1 Q I1 q1
end
noncomputable def SqL (K:PySem.W.Frag)(H:Hp)(a:Addr)(xs:List V):Prop :=
 Rd H a (.lst xs) ∨
  ∃(o:Obj) (its:Array Value) (n:Nat),K.lookup a=some o∧o.cls = .type "list"∧o.dict=none∧o.data = .seq its n∧its.size≤sizeLine∧Vals xs its.toList
noncomputable def SqT (K:PySem.W.Frag)(H:Hp)(a:Addr)(xs:List V):Prop :=
 Rd H a (.tup xs) ∨
  ∃(o:Obj) (its:Array Value) (n:Nat),K.lookup a=some o∧o.cls = .type "tuple"∧o.data = .seq its n∧its.size≤sizeLine∧Vals xs its.toList
noncomputable def absV:Value→Option V
 | .none=>some .non
 | .bool b=>some (.bl b)
 | .int i _=>some (.int i)
 | .str x _=>some (.str x)
 | .bytes b _=>some (.byt b)
 | .float b _=>some (.flt b)
 | .ref a=>some (.ref a)
 | .type n=>some (.ty n)
 | _=>none
theorem RelV.abs {x:V}{u:Value}(r:RelV x u):absV u=some x:=by
 cases x with
 | non=>cases r;rfl
 | bl _=>cases r;rfl
 | int _=>obtain⟨t,rfl⟩:=r;rfl
 | str _=>obtain⟨t,rfl⟩:=r;rfl
 | byt _=>obtain⟨t,rfl⟩:=r;rfl
 | flt _=>obtain⟨t,rfl⟩:=r;rfl
 | ref _=>cases r;rfl
 | ty _=>cases r;rfl
theorem RelV.inj {x y:V}{u:Value}(r:RelV x u)(q:RelV y u):x=y:=Option.some.inj (r.abs.symm.trans q.abs)
theorem Vals.inj:∀ {xs ys:List V}{us:List Value},Vals xs us→Vals ys us→xs=ys
 | _,_,_,.nil,.nil=>rfl
 | _,_,_,.cons r t,.cons r' t'=>by rw[r.inj r',Vals.inj t t']
section
variable {X:Cx}{pins:List (Addr×Obj)}{σ:St}{H:Hp}{s:Shared}{a:Addr}{xs ys:List V}
theorem SqL.of {K:PySem.W.Frag}(h:H a=some (.lst xs)):SqL K H a xs:=.inl (.inl h)
theorem SqT.of {K:PySem.W.Frag}(h:H a=some (.tup xs)):SqT K H a xs:=.inl (.inl h)
theorem Inv.list (I:Inv X pins σ H s)(h:SqL X.K H a xs):∃its:List Value,Vals xs its∧PlainL s.heap a its.toArray∧xs.length≤sizeLine:=by
 rcases h with h | ⟨o,its,n,hk,hc,hd,hs,hz,r⟩
 ·obtain⟨z,its,n,r,e⟩:=h.ok I.hok
  exact⟨its,r,⟨_,n,e,rfl,rfl,rfl⟩,z⟩
 ·refine⟨its.toList,r,⟨o,n,I.kIn a o hk,hc,hd,by simpa using hs⟩,?_⟩
  have e:=r.length
  simp only[Array.length_toList]at e
  omega
theorem Inv.tuple (I:Inv X pins σ H s)(h:SqT X.K H a xs):∃its:List Value,Vals xs its∧IsTup s.heap a its.toArray∧xs.length≤sizeLine:=by
 rcases h with h | ⟨o,its,n,hk,hc,hs,hz,r⟩
 ·obtain⟨z,its,r,p⟩:=h.ok I.hok
  exact⟨its,r,p,z⟩
 ·refine⟨its.toList,r,⟨o,I.kIn a o hk,hc,n,by simpa using hs⟩,?_⟩
  have e:=r.length
  simp only[Array.length_toList]at e
  omega
theorem Inv.list_inj (I:Inv X pins σ H s)(h:SqL X.K H a xs)(h':SqL X.K H a ys):xs=ys:=by
 obtain⟨its,r,⟨o,n,e,_,_,d⟩,_⟩:=I.list h
 obtain⟨its',r',⟨o',n',e',_,_,d'⟩,_⟩:=I.list h'
 rw[e]at e';cases e'
 rw[d]at d'
 injection d' with d1 _
 have:its=its':=by simpa using congrArg Array.toList d1
 subst this
 exact r.inj r'
theorem Inv.tuple_inj (I:Inv X pins σ H s)(h:SqT X.K H a xs)(h':SqT X.K H a ys):xs=ys:=by
 obtain⟨its,r,⟨o,e,_,n,d⟩,_⟩:=I.tuple h
 obtain⟨its',r',⟨o',e',_,n',d'⟩,_⟩:=I.tuple h'
 rw[e]at e';cases e'
 rw[d]at d'
 injection d' with d1 _
 have:its=its':=by simpa using congrArg Array.toList d1
 subst this
 exact r.inj r'
end
noncomputable abbrev Cx.wish (X:Cx)(E:Value→Shared→Prop):Cx:={ X with xe:=E }
noncomputable abbrev Cx.nox (X:Cx):Cx:=X.wish fun _ _=>False
theorem Cx.Ok.wish {X:Cx}(ok:X.Ok)(E:Value→Shared→Prop):(X.wish E).Ok :=
 ⟨ok.mod,ok.kind,ok.glob,ok.blt,ok.above,ok.inj,ok.has,ok.cab,ok.hd,ok.frames,ok.stk,ok.exf,ok.bs,ok.bsz,ok.noex,ok.exfs,ok.funs,ok.frf⟩
theorem Cx.Ok.unwish {X:Cx}{E:Value→Shared→Prop}(ok:(X.wish E).Ok):X.Ok :=
 ⟨ok.mod,ok.kind,ok.glob,ok.blt,ok.above,ok.inj,ok.has,ok.cab,ok.hd,ok.frames,ok.stk,ok.exf,ok.bs,ok.bsz,ok.noex,ok.exfs,ok.funs,ok.frf⟩
section
variable {X:Cx}{pins:List (Addr×Obj)}{σ:St}{H:Hp}{s:Shared}{E:Value→Shared→Prop}
theorem Inv.wish (I:Inv X pins σ H s)(E:Value→Shared→Prop):Inv (X.wish E) pins σ H s:=⟨I.ok.wish E,I.os,I.bare,I.base,I.loc,I.cell,I.free,I.freeC,I.pin,I.hok,I.len⟩
theorem Inv.unwish (I:Inv (X.wish E) pins σ H s):Inv X pins σ H s:=⟨I.ok.unwish,I.os,I.bare,I.base,I.loc,I.cell,I.free,I.freeC,I.pin,I.hok,I.len⟩
theorem SP.unwish {D:Ends}{f:Flow}{s':Shared}(h:SP (X.wish E) pins D f s'):SP X pins D f s':=by
 cases f with
 | next=>obtain⟨σ',H',I,q⟩:=h;exact⟨σ',H',I.unwish,q⟩
 | brk=>obtain⟨σ',H',I,q⟩:=h;exact⟨σ',H',I.unwish,q⟩
 | cont=>obtain⟨σ',H',I,q⟩:=h;exact⟨σ',H',I.unwish,q⟩
 | ret u=>obtain⟨v,σ',H',I,r,q⟩:=h;exact⟨v,σ',H',I.unwish,r,q⟩
theorem PSs.nox {st:List Stmt}{t:TS}(h:PSs X.nox st t):PSs X st t:=fun pins s σ H D I hw =>
 wpAny_mono (h pins s σ H D (I.wish _) hw) (fun _ _ q=>q.unwish) fun _ _ z=>False.elim z
end
section
variable {X:Cx}{st:Stmt}{rest:List Stmt}{t u:TS}{e:Expr}{te:TE}{pos:Pos}
noncomputable def tNext:TS:=fun D σ H=>D.nx σ H
noncomputable def tSeq (t u:TS):TS:=fun D σ H=>t { D with nx:=u D } σ H
theorem pss_nil:PSs X [] tNext:=fun _ _ σ H _ I h=>wpAny_execs_nil ⟨σ,H,I,h⟩
theorem pss_cons (h1:PS X st t)(h2:PSs X rest u):PSs X (st :: rest) (tSeq t u):=by
 intro pins s σ H D I h
 refine wpAny_execs_cons (thn (h1 pins s σ H { D with nx:=u D } I h) fun f s1 q=>?_)
 cases f with
 | next =>
  obtain⟨σ',H',I',q⟩:=q
  exact h2 pins s1 σ' H' D I' q
 | ret v=>exact q
 | brk=>exact q
 | cont=>exact q
theorem pss_one (h1:PS X st t):PSs X [st] t:=by
 intro pins s σ H D I h
 refine wpAny_execs_cons (thn (h1 pins s σ H D I h) fun f s1 q=>?_)
 cases f with
 | next=>exact wpAny_execs_nil q
 | ret v=>exact q
 | brk=>exact q
 | cont=>exact q
theorem Inv.quiet {pins:List (Addr×Obj)}{σ:St}{H:Hp}{s:Shared}(I:Inv X pins σ H s):interactive X.env=false:=by simp[interactive,I.ok.kind]
noncomputable def tDrop (te:TE):TS:=fun D σ H=>te σ H fun _ H1=>D.nx σ H1
theorem ps_expr (he:PE X e te)(hs:swapsWith e none pos.line X.env=pure false:=by rfl):PS X (.Expr e pos) (tDrop te):=by
 intro pins s σ H D I h
 exact wpAny_Expr_any (thn (he pins s σ H _ I h) fun v s1 ⟨x,H1,I1,r1,q1⟩=>⟨σ,H1,I1,q1⟩) I.quiet hs
noncomputable def tRet (te:TE):TS:=fun D σ H=>te σ H D.rt
theorem ps_ret (he:PE X e te):PS X (.Return (some e) pos) (tRet te):=by
 intro pins s σ H D I h
 exact wpAny_Return_some (thn (he pins s σ H _ I h) fun v s1 ⟨x,H1,I1,r1,q1⟩=>⟨x,σ,H1,I1,r1,q1⟩)
noncomputable def tIfS (c:TT)(t u:TS):TS:=fun D σ H=>c σ H fun b H1=>if b=true then t D σ H1 else u D σ H1
theorem ps_if {c:Expr}{a b:List Stmt}{tc:TT}(hc:PT X c tc)(ha:PSs X a t)(hb:PSs X b u):PS X (.If c a b pos) (tIfS tc t u):=by
 intro pins s σ H D I h
 refine wpAny_If (thn (hc pins s σ H _ I h) fun d s1 ⟨H1,I1,q1⟩=>?_)
 cases d with
 | true=>exact ha pins s1 σ H1 D I1 q1
 | false=>exact hb pins s1 σ H1 D I1 q1
end
noncomputable abbrev TG:=V→St→Hp→(St→Hp→Prop)→Prop
noncomputable abbrev TGs:=List V→St→Hp→(St→Hp→Prop)→Prop
noncomputable def PG (X:Cx)(target:Expr)(t:TG):Prop :=
 ∀(pins:List (Addr×Obj)) (s:Shared) (σ:St) (H:Hp) (v:V) (u:Value) (Q:St→Hp→Prop),Inv X pins σ H s→RelV v u→t v σ H Q →
  wpAny (model X.prog X.w) X.A (assign target X.env u) (fun _ s'=>∃ σ' H',Inv X pins σ' H' s'∧Q σ' H') X.xe s
noncomputable def PGs (X:Cx)(ts:List Expr)(t:TGs):Prop :=
 ∀(pins:List (Addr×Obj)) (s:Shared) (σ:St) (H:Hp) (vs:List V) (us:List Value) (Q:St→Hp→Prop),Inv X pins σ H s→Vals vs us→t vs σ H Q →
  wpAny (model X.prog X.w) X.A (assignInOrder ((assignEach ts X.env).map (·.2)) us) (fun _ s'=>∃ σ' H',Inv X pins σ' H' s'∧Q σ' H') X.xe s
noncomputable abbrev TSet:=V→V→V→Hp→(Hp→Prop)→Prop
noncomputable def PSet (X:Cx)(t:TSet):Prop :=
 ∀(pins:List (Addr×Obj)) (s:Shared) (σ:St) (H:Hp) (o i v:V) (ov iv u:Value) (Q:Hp→Prop),Inv X pins σ H s→RelV o ov→RelV i iv→RelV v u→t o i v H Q →
  wpAny (model X.prog X.w) X.A (setItem ov iv u) (fun _ s'=>∃H',Inv X pins σ H' s'∧Q H') X.xe s
section
variable {X:Cx}{pos:Pos}
noncomputable def gName (i:Nat):TG:=fun v σ H Q=>Q (σ.set i (some v)) H
theorem pg_name {i:Nat}{x:Str}(hN:X.N.Nodup)(hi:X.N[i]? = some x)(hx:Loc X.env.scope x)(hf:X.fn x=true∨X.env.scope.names.lookup x=some .local:=by first |exact .inl rfl |exact .inr rfl |assumption):PG X (.Name x pos) (gName i):=by
 intro pins s σ H v u Q I r h
 exact wpAny_assign_Name (store_ok I hN hi hx r (fun s' I'=>⟨_,H,I',h⟩) hf)
noncomputable def gNil:TGs:=fun vs σ H Q=>vs = []∧Q σ H
noncomputable def gCons (t:TG)(u:TGs):TGs:=fun vs σ H Q=>∃v r,vs=v :: r∧t v σ H fun σ' H'=>u r σ' H' Q
theorem pgs_nil:PGs X [] gNil:=by
 intro pins s σ H vs us Q I r h
 obtain⟨e,h⟩:=h
 subst e
 cases r
 exact assignInOrder_nil ⟨σ,H,I,h⟩
theorem pgs_cons {e:Expr}{es:List Expr}{t:TG}{u:TGs}(h1:PG X e t)(h2:PGs X es u)
  (hs:(assignEach (e :: es) X.env).map (·.2)=assign e X.env :: (assignEach es X.env).map (·.2):=by rfl):PGs X (e :: es) (gCons t u):=by
 intro pins s σ H vs us Q I r h
 obtain⟨v,vr,e1,h⟩:=h
 subst e1
 cases r with
 | cons r rr =>
  rw[hs]
  refine assignInOrder_cons (thn (h1 pins s σ H _ _ _ I r h) fun _ s1 ⟨σ1,H1,I1,q1⟩=>?_)
  exact h2 pins s1 σ1 H1 _ _ Q I1 rr q1
noncomputable def gTup (K:PySem.W.Frag)(n:Nat)(t:TGs):TG:=fun v σ H Q=>∃a xs,v = .ref a∧SqT K H a xs∧xs.length=n∧t xs σ H Q
theorem pg_tup {es:List Expr}{k:Nat}{t:TGs}{n:Nat}(hc:X.calm=true)(h:PGs X es t)
  (hn:(assignEach es X.env).length=n:=by rfl) (hst:(assignEach es X.env).findIdx? (·.1)=none:=by rfl):PG X (.Tuple es k pos) (gTup X.K n t):=by
 intro pins s σ H v u Q I r hw
 obtain⟨a,xs,e1,hq,hl,hw⟩:=hw
 subst e1
 cases r
 obtain⟨its,rv,ht,hz⟩:=I.tuple hq
 refine assign_Tuple_tuple (I.ok.hd hc) ht (by simp[hn,← hl,rv.length]) hst fun h' hx=>?_
 have I1:Inv X pins σ H { s with heap:=h' }:=I.kept (t':=s.toks) fun b o e=>hx b o (Nat.ne_of_lt (Heap.lt_size e)) e
 exact h pins _ σ H xs _ Q I1 (by simpa using rv) hw
noncomputable def gSub (to ti:TE)(t:TSet):TG:=fun v σ H Q=>to σ H fun o H1=>ti σ H1 fun i H2=>t o i v H2 fun H3=>Q σ H3
theorem pg_sub {o i:Expr}{to ti:TE}{t:TSet}(ho:PE X o to)(hi:PE X i ti)(hs:PSet X t)
  (ha:∀v,assign (.Subscript o i pos) X.env v=(do
   let ov ← holding [v] (eval o X.env)
   let iv ← holding [v,ov] (eval i X.env)
   standAt pos
   holding [v,ov,iv] (setItem ov iv v)
   release [v,ov,iv] []):=by intro _;rfl):PG X (.Subscript o i pos) (gSub to ti t):=by
 intro pins s σ H v u Q I r h
 rw[ha]
 refine wpAny_bind (wpAny_holding (thn (ho pins s σ H _ I h) fun ov s1 ⟨x,H1,I1,r1,q1⟩=>?_))
 refine wpAny_bind (wpAny_holding (thn (hi pins s1 σ H1 _ I1 q1) fun iv s2 ⟨y,H2,I2,r2,q2⟩=>?_))
 refine wpAny_bind (wpAny_standAt (wpAny_bind (wpAny_holding (thn (hs pins s2 σ H2 x y v ov iv u _ I2 r1 r2 r q2) fun _ s3 ⟨H3,I3,q3⟩=>?_))))
 exact wpAny_release ⟨σ,H3,I3,q3⟩
noncomputable def tAsg (te:TE)(g:TG):TS:=fun D σ H=>te σ H fun x H1=>g x σ H1 D.nx
theorem ps_asg {tg e:Expr}{te:TE}{g:TG}(he:PE X e te)(hg:PG X tg g)(hs:swapsWithSole [tg] e pos.line X.env=pure false:=by rfl)(hw:swappedStores [tg] e X.env=pure none:=by rfl)
  (h1:(assignEach [tg] X.env).map (·.2) = [assign tg X.env]:=by rfl):PS X (.Assign [tg] e pos) (tAsg te g):=by
 intro pins s σ H D I h
 refine wpAny_Assign_stores (thn (he pins s σ H _ I h) fun v s1 ⟨x,H1,I1,r1,q1⟩=>?_) hs hw
 rw[h1]
 exact thn (hg pins s1 σ H1 x v _ I1 r1 q1) fun _ s2 q=>q
theorem ps_set {i:Nat}{x:Str}{e:Expr}{te:TE}{pos':Pos}(hN:X.N.Nodup)(hi:X.N[i]? = some x)(hx:Loc X.env.scope x)(he:PE X e te)(hs:swapsWith e (some (.Name x pos')) pos.line X.env=pure false:=by rfl)(hf:X.fn x=true∨X.env.scope.names.lookup x=some .local:=by first |exact .inl rfl |exact .inr rfl |assumption) :
  PS X (.Assign [.Name x pos'] e pos) (tAsg te (gName i)):=by
 intro pins s σ H D I h
 refine wpAny_Assign_Name (thn (he pins s σ H _ I h) fun v s1 ⟨y,H1,I1,r1,q1⟩=>?_) hs
 exact store_ok I1 hN hi hx r1 (fun s2 I2=>⟨_,H1,I2,q1⟩) hf
end
section
variable {X:Cx}{pos:Pos}
end
structure It where
 go:Nat→Hp→Prop
 yld:Nat→Hp→V→Hp→Prop
 stop:Nat→Hp→Prop
noncomputable def FpOk (X:Cx)(pins:List (Addr×Obj))(H:Hp)(b:Addr):Prop :=
 H b=none∧b≠X.env.locals∧b∉X.fs∧(b∈X.ex∨X.s₀.heap.objs.size≤b)∧(∀x c,X.env.cells.lookup x=some c→c≠b)∧∀p∈X.pn ++ pins,p.1≠b
theorem Inv.fpOk {X:Cx}{pins:List (Addr×Obj)}{σ:St}{H H':Hp}{s:Shared}{b:Addr}(I:Inv X pins σ H s)(hb:s.heap.objs.size≤b)(hn:H' b=none):FpOk X pins H' b:=by
 refine⟨hn,Nat.ne_of_gt (Nat.lt_of_lt_of_le I.lt hb),I.nofs hb,.inr (Nat.le_trans I.sz hb),fun x c e z=>?_,fun p hp z=>?_⟩
 ·obtain⟨v,q⟩:=I.cell x c e
  exact absurd (Nat.lt_of_lt_of_le q.lt (by rw[z];exact hb)) (Nat.lt_irrefl _)
 ·exact absurd (Nat.lt_of_lt_of_le (Heap.lt_size (I.pin p hp).1) (by rw[z];exact hb)) (Nat.lt_irrefl _)
structure Turn (P:Program) (w:World) (K:PySem.W.Frag) (tg:Expr) (J:It) (fp:List Addr) (it:Addr) (tn:Nat→Heap→Prop):Prop where
 mem:it∈fp
 obj:∀i h,tn i h→∀b∈fp,∃o,h.get? b=some o∧∀v,o.data ≠ .cell v
 keep:∀i h h',tn i h→(∀b∈fp,∀o,h.get? b=some o→h'.get? b=some o)→tn i h'
 item:∀(X:Cx),X.prog=P→X.w=w→X.K=K→X.calm=true→∀(i:Nat) (pins:List (Addr×Obj)) (s:Shared) (σ:St) (H:Hp) (E:Value→Shared→Prop),Inv X pins σ H s→(∀b∈fp,FpOk X pins H b)→tn i s.heap→J.go i H →
  wpAny (model P w) X.A (pyNext (.ref it)) (fun r s1=>∃u,r=some u ∧
   wpAny (model P w) X.A (letOwnedTupleGo tg (.ref it) u) (fun _ s2=>∃x H',Inv X pins σ H' s2∧RelV x u∧J.yld i H x H'∧tn (i+1) s2.heap∧∀b∈fp,H' b=none) E s1) E s
 done:∀(X:Cx),X.prog=P→X.w=w→X.K=K→X.calm=true→∀(i:Nat) (pins:List (Addr×Obj)) (s:Shared) (σ:St) (H:Hp) (E:Value→Shared→Prop),Inv X pins σ H s→(∀b∈fp,FpOk X pins H b)→tn i s.heap→J.stop i H →
  wpAny (model P w) X.A (pyNext (.ref it)) (fun r s1=>r=none∧Inv X pins σ H s1) E s
 self:∀(A:Around) (i:Nat) (s:Shared) (Q:Value→Shared→Prop) (E:Value→Shared→Prop),tn i s.heap→Q (.ref it) s→wpAny (model P w) A (pyIter (.ref it)) Q E s
noncomputable abbrev TI:=St→Hp→(It→Hp→Prop)→Prop
noncomputable def PIE (X:Cx)(pins:List (Addr×Obj)) (σ:St)(tg:Expr)(R:It→Hp→Prop)(itv:Value)(s2:Shared):Prop :=
 ∃(it:Addr) (fp:List Addr) (tn:Nat→Heap→Prop) (J:It) (H':Hp),itv = .ref it∧Inv X pins σ H' s2∧Turn X.prog X.w X.K tg J fp it tn∧tn 0 s2.heap∧(∀b∈fp,FpOk X pins H' b)∧R J H'
noncomputable def PI (X:Cx)(tg iter:Expr)(wi:TI):Prop :=
 ∀(pins:List (Addr×Obj)) (s:Shared) (σ:St) (H:Hp) (R:It→Hp→Prop),Inv X pins σ H s→wi σ H R →
  wpAny (model X.prog X.w) X.A (eval iter X.env) (fun v s1=>wpAny (model X.prog X.w) X.A (pyIter v) (PIE X pins σ tg R) X.xe s1) X.xe s
theorem go_of {M:Model}{A:Around}{E:Value→Shared→Prop}{s:Shared}{tg:Expr}{it:Addr}{u:Value}{o:Obj}{n:String}{vs:Array Value}{Q:Unit→Shared→Prop}(ho:s.heap.get? it=some o)(hc:o.cls = .type n)(hd:o.data = .fields vs)
    (hn:["enumerate","zip","dict_itemiterator","dict_reverseitemiterator","odict_iterator","itertools.zip_longest","itertools.pairwise"].contains n=false) (hQ:Q () s):wpAny M A (letOwnedTupleGo tg (.ref it) u) Q E s:=by
  unfold letOwnedTupleGo
  cases tg <;> first
    | exact wpAny_pure hQ
    | (cases u <;> first
        | exact wpAny_pure hQ
        | (refine wpAny_bind (wpAny_load ho ?_)
           rw[hc,hd]
           show wpAny M A (if (["enumerate","zip","dict_itemiterator","dict_reverseitemiterator","odict_iterator","itertools.zip_longest","itertools.pairwise"].contains n && vs[0]? == some (rawInt _))=true then _ else _) Q E s
           rw[if_neg (by intro h;rw[hn,Bool.false_and]at h;cases h)]
           exact wpAny_pure hQ))
noncomputable def Itl (K:PySem.W.Frag)(a:Addr):It :=
 ⟨fun i H=>∃xs x,SqL K H a xs∧xs[i]? = some x,fun i H x H'=>H'=H∧∀xs,SqL K H a xs→xs[i]? = some x,fun i H=>∃xs,SqL K H a xs∧xs.length≤i⟩
noncomputable def Itt (K:PySem.W.Frag)(a:Addr):It :=
 ⟨fun i H=>∃xs x,SqT K H a xs∧xs[i]? = some x,fun i H x H'=>H'=H∧∀xs,SqT K H a xs→xs[i]? = some x,fun i H=>∃xs,SqT K H a xs∧xs.length≤i⟩
noncomputable def Itr (lo:Int)(n:Nat):It:=⟨fun i _=>i<n,fun i H x H'=>H'=H∧x = .int (lo+i),fun i _=>n≤i⟩
theorem turn_list {P:Program}{w:World}{K:PySem.W.Frag}{tg:Expr}(a it:Addr):Turn P w K tg (Itl K a) [it] it (fun i h=>h.IsListIter it a i) where
 mem:=by simp
 obj:=fun i h st b hb=>by
  have e:b=it:=by simpa using hb
  subst e
  obtain⟨o,e,c,d⟩:=st
  exact⟨o,e,fun v z=>by rw[d]at z;cases z⟩
 keep:=fun i h h' st k=>st.at fun o e=>k it (by simp) o e
 item:=by
  intro X hP hw hK hc i pins s σ H E I hf st hg
  subst hP hw hK
  obtain⟨xs,x,hq,hx⟩:=hg
  obtain⟨its,rv,p,hz⟩:=I.list hq
  obtain⟨u,hu,ru⟩:=rv.get hx
  obtain⟨f0,f1,f2,f3,f4,f5⟩:=hf it (by simp)
  refine wpAny_pyNext_list_item st p.isList (x:=u) (by simpa using hu) fun h' st' sb=>?_
  have I1:Inv X pins σ H { s with heap:=h' }:=I.turned (t':=s.toks) (fun b o hb e=>(sb.2 b hb).trans e) f0 f1 f3 f4 f5
  obtain⟨o,e,c,d⟩:=id st'
  exact⟨u,rfl,go_of (s:={ s with heap:=h' }) e c d (by decide) ⟨x,H,I1,ru,⟨rfl,fun ys hy=>by rw[I.list_inj hy hq];exact hx⟩,st',fun b hb=>(hf b hb).1⟩⟩
 done:=by
  intro X hP hw hK hc i pins s σ H E I hf st hg
  subst hP hw hK
  obtain⟨xs,hq,hx⟩:=hg
  obtain⟨its,rv,p,hz⟩:=I.list hq
  obtain⟨f0,f1,f2,f3,f4,f5⟩:=hf it (by simp)
  have hl:=rv.length
  exact wpAny_pyNext_list_end (I.ok.hd hc) st p.isList (by simp;omega) fun h' eb=>⟨rfl,I.turned (t':=s.toks) (fun b o hb e=>eb b o hb e) f0 f1 f3 f4 f5⟩
 self:=fun _ _ _ _ _ st h=>wpAny_pyIter_listiter st h
theorem turn_tuple {P:Program}{w:World}{K:PySem.W.Frag}{tg:Expr}(a it:Addr):Turn P w K tg (Itt K a) [it] it (fun i h=>h.IsTupleIter it a i) where
 mem:=by simp
 obj:=fun i h st b hb=>by
  have e:b=it:=by simpa using hb
  subst e
  obtain⟨o,e,c,d⟩:=st
  exact⟨o,e,fun v z=>by rw[d]at z;cases z⟩
 keep:=fun i h h' st k=>st.at fun o e=>k it (by simp) o e
 item:=by
  intro X hP hw hK hc i pins s σ H E I hf st hg
  subst hP hw hK
  obtain⟨xs,x,hq,hx⟩:=hg
  obtain⟨its,rv,p,hz⟩:=I.tuple hq
  obtain⟨u,hu,ru⟩:=rv.get hx
  obtain⟨f0,f1,f2,f3,f4,f5⟩:=hf it (by simp)
  refine wpAny_pyNext_tuple_item st (show s.heap.IsTuple a its.toArray from p) (x:=u) (by simpa using hu) fun h' st' sb=>?_
  have I1:Inv X pins σ H { s with heap:=h' }:=I.turned (t':=s.toks) (fun b o hb e=>(sb.2 b hb).trans e) f0 f1 f3 f4 f5
  obtain⟨o,e,c,d⟩:=id st'
  exact⟨u,rfl,go_of (s:={ s with heap:=h' }) e c d (by decide) ⟨x,H,I1,ru,⟨rfl,fun ys hy=>by rw[I.tuple_inj hy hq];exact hx⟩,st',fun b hb=>(hf b hb).1⟩⟩
 done:=by
  intro X hP hw hK hc i pins s σ H E I hf st hg
  subst hP hw hK
  obtain⟨xs,hq,hx⟩:=hg
  obtain⟨its,rv,p,hz⟩:=I.tuple hq
  obtain⟨f0,f1,f2,f3,f4,f5⟩:=hf it (by simp)
  have hl:=rv.length
  exact wpAny_pyNext_tuple_end (I.ok.hd hc) st (show s.heap.IsTuple a its.toArray from p) (by simp;omega) fun h' eb=>⟨rfl,I.turned (t':=s.toks) (fun b o hb e=>eb b o hb e) f0 f1 f3 f4 f5⟩
 self:=fun _ _ _ _ _ st h=>wpAny_pyIter_tupleiter st h
theorem turn_range {P:Program}{w:World}{K:PySem.W.Frag}{tg:Expr}(it:Addr)(lo:Int)(n:Nat):Turn P w K tg (Itr lo n) [it] it (fun i h=>IsRangeIter h it (lo+(i:Nat) * 1) ((n:Int) - (i:Nat)) 1) where
 mem:=by simp
 obj := fun i h st b hb=>by
  have e:b=it:=by simpa using hb
  subst e
  exact⟨_,st,fun v z=>by
   have z':Data.fields _=Data.cell v:=z
   cases z'⟩
 keep:=fun i h h' st k=>k it (by simp) _ st
 item:=by
  intro X hP hw hK hc i pins s σ H E I hf st hg
  subst hP hw hK
  obtain⟨f0,f1,f2,f3,f4,f5⟩:=hf it (by simp)
  have W:=Walks.range (prog:=X.prog) (w:=X.w) (I.ok.hd hc) it lo 1 n
  refine W.item i s _ _ hg st fun v h' tk hv st' kk=>?_
  obtain⟨t,rfl⟩:=hv
  have I1:Inv X pins σ H { s with heap:=h',toks:=tk }:=I.turned (fun b o hb e=>kk b o (by simpa using hb) e) f0 f1 f3 f4 f5
  refine⟨_,rfl,go_of (s:={ s with heap:=h',toks:=tk }) (n:="range_iterator") st' rfl rfl (by decide) ⟨.int (lo+i),H,I1,⟨t,?_⟩,⟨rfl,rfl⟩,st',fun b hb=>(hf b hb).1⟩⟩
  rw[Int.mul_one]
 done:=by
  intro X hP hw hK hc i pins s σ H E I hf st hg
  subst hP hw hK
  obtain⟨f0,f1,f2,f3,f4,f5⟩:=hf it (by simp)
  exact wpAny_pyNext_range_end (I.ok.hd hc) st (by have:n≤i:=hg;omega) fun h' eb=>⟨rfl,I.turned (t':=s.toks) (fun b o hb e=>eb b o hb e) f0 f1 f3 f4 f5⟩
 self:=fun _ _ _ _ _ st h=>wpAny_pyIter_rangeiter st h
section
variable {X:Cx}{tg:Expr}
noncomputable def iList (K:PySem.W.Frag)(tl:TE):TI:=fun σ H R=>tl σ H fun x H1=>∃a,x = .ref a∧(∃xs,SqL K H1 a xs)∧R (Itl K a) H1
noncomputable def iTup (K:PySem.W.Frag)(tl:TE):TI:=fun σ H R=>tl σ H fun x H1=>∃a,x = .ref a∧(∃xs,SqT K H1 a xs)∧R (Itt K a) H1
theorem pi_list {l:Expr}{tl:TE}(hl:PE X l tl):PI X tg l (iList X.K tl):=by
 intro pins s σ H R I h
 refine thn (hl pins s σ H _ I h) fun v s1 ⟨x,H1,I1,r1,q1⟩=>?_
 obtain⟨a,e,⟨xs,hq⟩,q⟩:=q1
 subst e
 cases r1
 obtain⟨its,rv,p,hz⟩:=I1.list hq
 refine wpAny_pyIter_list p.isList ?_
 refine⟨s1.heap.objs.size,[s1.heap.objs.size],_,_,H1,rfl,I1.kept (t':=s1.toks) fun b o e=>Heap.get?_push_of_some _ e,turn_list a _,⟨_,Heap.get?_push_size _ rfl,rfl,rfl⟩,fun b hb=>?_,q⟩
 have e:b=s1.heap.objs.size:=by simpa using hb
 subst e
 exact I1.fpOk (Nat.le_refl _) (I1.hok.fresh (Nat.le_refl _))
theorem pi_tup {l:Expr}{tl:TE}(hl:PE X l tl):PI X tg l (iTup X.K tl):=by
 intro pins s σ H R I h
 refine thn (hl pins s σ H _ I h) fun v s1 ⟨x,H1,I1,r1,q1⟩=>?_
 obtain⟨a,e,⟨xs,hq⟩,q⟩:=q1
 subst e
 cases r1
 obtain⟨its,rv,p,hz⟩:=I1.tuple hq
 refine wpAny_pyIter_tuple (show s1.heap.IsTuple a its.toArray from p) ?_
 refine⟨s1.heap.objs.size,[s1.heap.objs.size],_,_,H1,rfl,I1.kept (t':=s1.toks) fun b o e=>Heap.get?_push_of_some _ e,turn_tuple a _,⟨_,Heap.get?_push_size _ rfl,rfl,rfl⟩,fun b hb=>?_,q⟩
 have e:b=s1.heap.objs.size:=by simpa using hb
 subst e
 exact I1.fpOk (Nat.le_refl _) (I1.hok.fresh (Nat.le_refl _))
theorem range_it {pins:List (Addr×Obj)}{σ:St}{H:Hp}{s:Shared}{R:It→Hp→Prop}{E:Value→Shared→Prop}{lo hi:Int}{t u v:Tok}{tk:Nat}(I:Inv X pins σ H s)(h1:-(2 ^ 62)≤lo)(h2:lo<2 ^ 62)(h3:-(2 ^ 62)≤hi)(h4:hi<2 ^ 62)
  (q:R (Itr lo (hi - lo).toNat) H):wpAny (model X.prog X.w) X.A (pyIter (.ref s.heap.objs.size)) (PIE X pins σ tg R) E { s with heap:=s.heap.push { cls:=.type "range",data:=.fields #[.int lo t,.int hi u,.int 1 v] },toks:=tk }:=by
 refine wpAny_pyIter_range (IsRange.new ..) (small_one h1 h2 h3 h4) ?_
 have I1:Inv X pins σ H { s with heap:=s.heap.push { cls:=.type "range",data:=.fields #[.int lo t,.int hi u,.int 1 v] },toks:=tk }:=I.kept fun b o e=>Heap.get?_push_of_some _ e
 refine⟨(s.heap.push { cls:=.type "range",data:=.fields #[.int lo t,.int hi u,.int 1 v] }).objs.size,[(s.heap.push { cls:=.type "range",data:=.fields #[.int lo t,.int hi u,.int 1 v] }).objs.size],_,_,H,rfl,
  I1.kept (t':=tk) fun b o e=>Heap.get?_push_of_some _ e,turn_range _ lo (hi - lo).toNat,?_,fun b hb=>?_,q⟩
 ·have e1:lo+((0:Nat):Int) * 1=lo:=by simp
  have e2:(((hi - lo).toNat:Nat):Int) - ((0:Nat):Int)=Builtin.Range.rangeSize lo hi 1:=by rw[rangeSize_one];split <;> omega
  show IsRangeIter _ _ (lo+((0:Nat):Int) * 1) ((((hi - lo).toNat:Nat):Int) - ((0:Nat):Int)) 1
  rw[e1,e2]
  exact Heap.get?_push_size _ rfl
 ·have e:b=(s.heap.push { cls:=.type "range",data:=.fields #[.int lo t,.int hi u,.int 1 v] }).objs.size:=by simpa using hb
  subst e
  exact I1.fpOk (Nat.le_refl _) (I1.hok.fresh (Nat.le_refl _))
noncomputable def iRng1 (ta:TA):TI:=fun σ H R=>ta σ H fun vs H1=>∃j:Int,vs = [.int j]∧-(2 ^ 62)≤j∧j<2 ^ 62∧R (Itr 0 j.toNat) H1
theorem pi_range1 {a:Expr}{ta:TA}{p pos:Pos}(hg:Gl X "range")(hm:X.mg "range" = none)(ha:PA X [a] ta)(hs:starEach [a] X.env = [(false,eval a X.env)]:=by rfl):PI X tg (.Call (.Name "range" p) [a] [] pos) (iRng1 ta):=by
 intro pins s σ H R I h
 refine Call_ (ld_blt I hg hm boot_range (PyProof.Rows.callWith_type1 (thn (ha pos pins s σ H _ I h) fun us s1 ⟨vs,H1,I1,r1,q1⟩=>?_) hs rfl))
 obtain⟨j,e,q1,q2,q⟩:=q1
 subst e
 cases r1 with
 | cons r rr =>
  cases rr
  obtain⟨t,rfl⟩:=r
  exact call_range_1 (range_it I1 (by omega) (by omega) q1 q2 (by simpa using q))
noncomputable def tFor (wi:TI)(g:TG)(tb:TS):TS:=fun D σ H=>wi σ H fun J H1=>∃W:Nat→Nat→St→Hp→Prop,(∃m,W 0 m σ H1)∧∀i m σ H,W i m σ H →
 (J.stop i H∧D.nx σ H)∨(J.go i H∧∃N:St→Hp→Prop,(∀ σ' H',N σ' H'→∃m',m'<m∧W (i+1) m' σ' H')∧∀x H',J.yld i H x H'→g x σ H' fun σ2 H2=>tb { D with nx:=N,ct:=N,bk:=D.nx } σ2 H2)
noncomputable def pinsAt (fp:List Addr)(h:Heap):List (Addr×Obj):=fp.filterMap fun b=>(h.get? b).map fun o=>(b,o)
theorem mem_pinsAt {fp:List Addr}{h:Heap}{b:Addr}{o:Obj}(hb:b∈fp)(e:h.get? b=some o):(b,o)∈pinsAt fp h:=List.mem_filterMap.mpr ⟨b,hb,by rw[e];rfl⟩
theorem of_pinsAt {fp:List Addr}{h:Heap}{p:Addr×Obj}(hp:p∈pinsAt fp h):p.1∈fp∧h.get? p.1=some p.2:=by
 obtain⟨b,hb,e⟩:=List.mem_filterMap.mp hp
 cases q:h.get? b with
 | none=>rw[q]at e;cases e
 | some o =>
  rw[q]at e
  have e':(b,o)=p:=Option.some.inj e
  subst e'
  exact⟨hb,q⟩
theorem Inv.pinned {pins:List (Addr×Obj)}{σ:St}{H:Hp}{s:Shared}{fp:List Addr}(I:Inv X pins σ H s)(hf:∀b∈fp,FpOk X pins H b)(ho:∀b∈fp,∃o,s.heap.get? b=some o∧∀v,o.data ≠ .cell v):Inv X (pins ++ pinsAt fp s.heap) σ H s :=
 I.pins_of fun p hp=>(List.mem_append.mp hp).elim (fun z=>I.pin p (List.mem_append_right _ z)) fun z=>by
  obtain⟨hb,e⟩:=of_pinsAt z
  obtain⟨f0,f1,f2,_⟩:=hf p.1 hb
  obtain⟨o,e',d⟩:=ho p.1 hb
  rw[e]at e';cases e'
  exact⟨e,f0,f1,f2,d⟩
theorem Inv.unpinned {pins pl:List (Addr×Obj)}{σ:St}{H:Hp}{s:Shared}(I:Inv X (pins ++ pl) σ H s):Inv X pins σ H s:=I.pins_of fun p hp=>I.pin p (List.mem_append_right _ (List.mem_append_left _ hp))
theorem ps_for {iter:Expr}{body:List Stmt}{wi:TI}{g:TG}{tb:TS}{pos:Pos}(hp:PassesOwn (model X.prog X.w) X.A X.env X.xe)(hc:X.calm=true)(hi:PI X tg iter wi)(hg:PG X tg g)(hb:PSs X body tb)
  (hs:∀x,foldedSetIterable iter X.env x=pure x:=by intro _;rfl):PS X (.For tg iter body [] pos) (tFor wi g tb):=by
 intro pins s σ H D I h
 refine wpAny_For (thn (hi pins s σ H _ I h) fun v s1 h1=>thn h1 fun itv s2 h2=>?_) hs
 obtain⟨it,fp,tn,J,H2,e,I2,T,st2,f2,W,⟨m0,w0⟩,turn⟩:=h2
 subst e
 -- what stays true of the iterator's objects through the loop
 have stat:∀ {H':Hp},(∀b∈fp,H' b=none)→∀b∈fp,FpOk X pins H' b:=fun hn b hb=>⟨hn b hb,(f2 b hb).2⟩
 refine codeAny_forLoop_any (fun n s'=>∃i σ' H',Inv X pins σ' H' s'∧tn i s'.heap∧(∀b∈fp,H' b=none)∧W i n σ' H') ?_ m0 ⟨0,σ,H2,I2,st2,fun b hb=>(f2 b hb).1,w0⟩
 rintro n s3 ⟨i,σ3,H3,I3,st3,fr3,w3⟩
 rcases turn i n σ3 H3 w3 with ⟨stop,qn⟩ | ⟨go,N,hN,step⟩
 ·refine wpAny_passesOwn hp (thn (T.done X rfl rfl rfl hc i pins s3 σ3 H3 X.xe I3 (stat fr3) st3 stop) fun r s4 ⟨hr,I4⟩=>?_)
  subst hr
  exact wpAny_execs_nil ⟨σ3,H3,I4,qn⟩
 ·refine wpAny_passesOwn hp (thn (T.item X rfl rfl rfl hc i pins s3 σ3 H3 X.xe I3 (stat fr3) st3 go) fun r s4 ⟨u,hr,h4⟩=>?_)
  subst hr
  refine wpAny_passesOwn hp (thn h4 fun _ s5 ⟨x,H5,I5,r5,y5,st5,fr5⟩=>?_)
  have I5':=I5.pinned (stat fr5) (T.obj _ _ st5)
  refine wpAny_passesOwn hp (thn (hg _ s5 σ3 H5 x u _ I5' r5 (step x H5 y5)) fun _ s6 ⟨σ6,H6,I6,q6⟩=>?_)
  refine wpAny_passesOwn hp (thn (hb _ s6 σ6 H6 _ I6 q6) fun f s7 q7=>?_)
  have again:∀ {σ7:St}{H7:Hp},Inv X (pins ++ pinsAt fp s5.heap) σ7 H7 s7→N σ7 H7→∃m,m<n∧∃i σ' H',Inv X pins σ' H' s7∧tn i s7.heap∧(∀b∈fp,H' b=none)∧W i m σ' H':=fun {σ7 H7} I7 n7=>by
   obtain⟨m',hm,w7⟩:=hN σ7 H7 n7
   refine⟨m',hm,i+1,σ7,H7,I7.unpinned,T.keep _ _ _ st5 fun b hb o e=>(I7.pin (b,o) (List.mem_append_right _ (List.mem_append_right _ (mem_pinsAt hb e)))).1,fun b hb=>?_,w7⟩
   obtain⟨o,e,d⟩:=T.obj _ _ st5 b hb
   exact(I7.pin (b,o) (List.mem_append_right _ (List.mem_append_right _ (mem_pinsAt hb e)))).2.1
  cases f with
  | next=>obtain⟨σ7,H7,I7,n7⟩:=q7;exact again I7 n7
  | cont=>obtain⟨σ7,H7,I7,n7⟩:=q7;exact again I7 n7
  | brk=>obtain⟨σ7,H7,I7,q7⟩:=q7;exact⟨σ7,H7,I7.unpinned,q7⟩
  | ret v=>obtain⟨x7,σ7,H7,I7,r7,q7⟩:=q7;exact⟨x7,σ7,H7,I7.unpinned,r7,q7⟩
end
theorem for_range {lo:Int}{n:Nat}{g:TG}{tb:TS}{D:Ends}{σ:St}{H:Hp}(Pv:Nat→St→Hp→Prop)(h0:Pv 0 σ H)
  (hs:∀i σ H,i<n→Pv i σ H→g (.int (lo+i)) σ H fun σ2 H2=>tb { D with nx:=Pv (i+1),ct:=Pv (i+1),bk:=D.nx } σ2 H2) (hd:∀ σ H,Pv n σ H→D.nx σ H) :
  ∃W:Nat→Nat→St→Hp→Prop,(∃m,W 0 m σ H)∧∀i m σ H,W i m σ H →
   ((Itr lo n).stop i H∧D.nx σ H)∨((Itr lo n).go i H∧∃N:St→Hp→Prop,(∀ σ' H',N σ' H'→∃m',m'<m∧W (i+1) m' σ' H')∧∀x H',(Itr lo n).yld i H x H'→g x σ H' fun σ2 H2=>tb { D with nx:=N,ct:=N,bk:=D.nx } σ2 H2):=by
 refine⟨fun i m σ H=>m=n - i∧i≤n∧Pv i σ H,⟨n,by simp,Nat.zero_le _,h0⟩,?_⟩
 rintro i m σ H ⟨rfl,hi,p⟩
 by_cases hlt:i<n
 ·refine .inr ⟨hlt,Pv (i+1),fun σ' H' p'=>⟨n - (i+1),by omega,rfl,hlt,p'⟩,fun x H' y=>?_⟩
  obtain⟨e,y⟩:=y
  subst e y
  exact hs i σ _ hlt p
 ·have e:i=n:=by omega
  subst e
  exact .inl ⟨Nat.le_refl _,hd σ H p⟩
noncomputable abbrev R2:=V→V→Hp→VK→Prop
noncomputable def OpR (X:Cx)(f:Value→Value→Sem Value)(r:R2):Prop :=
 ∀(pins:List (Addr×Obj)) (s:Shared) (σ:St) (H:Hp) (x y:V) (v u:Value) (Q:VK),Inv X pins σ H s→RelV x v→RelV y u→r x y H Q →
  wpAny (model X.prog X.w) X.A (f v u) (EP X pins σ Q) X.xe s
noncomputable def UnR (X:Cx)(f:Value→Sem Value)(r:V→Hp→VK→Prop):Prop :=
 ∀(pins:List (Addr×Obj)) (s:Shared) (σ:St) (H:Hp) (x:V) (v:Value) (Q:VK),Inv X pins σ H s→RelV x v→r x H Q →
  wpAny (model X.prog X.w) X.A (f v) (EP X pins σ Q) X.xe s
noncomputable def CallR (X:Cx)(f:Value)(r:List V→Hp→VK→Prop):Prop :=
 ∀(pins:List (Addr×Obj)) (s:Shared) (σ:St) (H:Hp) (xs:List V) (us:List Value) (Q:VK),Inv X pins σ H s→Vals xs us→r xs H Q →
  wpAny (model X.prog X.w) X.A (call f us) (EP X pins σ Q) X.xe s
noncomputable def tOp (r:R2)(ta tb:TE):TE:=fun σ H Q=>ta σ H fun x H1=>tb σ H1 fun y H2=>r x y H2 Q
noncomputable def tUn (r:V→Hp→VK→Prop)(ta:TE):TE:=fun σ H Q=>ta σ H fun x H1=>r x H1 Q
noncomputable def rI (C:Int→Int→Prop)(g:Int→Int→V):R2:=fun x y H Q=>∃i j,x = .int i∧y = .int j∧C i j∧Q (g i j) H
noncomputable def rI0 (g:Int→Int→V):R2:=fun x y H Q=>∃i j,x = .int i∧y = .int j∧Q (g i j) H
noncomputable def rU (g:Int→V):V→Hp→VK→Prop:=fun x H Q=>∃i,x = .int i∧Q (g i) H
section
variable {X:Cx}{a b c:Expr}{ta tb tc:TE}{pos:Pos}
theorem binT (ha:PE X a ta)(hb:PE X b tb) {pins:List (Addr×Obj)}{s:Shared}{σ:St}{H:Hp}{R:V→V→Hp→Prop}(I:Inv X pins σ H s)
  (h:ta σ H fun x H1=>tb σ H1 fun y H2=>R x y H2) {Q:Value→Shared→Prop}{f:Value→Value→Sem Value}
  (hf:∀v u s2 x y H2,Inv X pins σ H2 s2→RelV x v→RelV y u→R x y H2→wpAny (model X.prog X.w) X.A (f v u) Q X.xe s2) :
  wpAny (model X.prog X.w) X.A (eval a X.env) (fun v s₁=>wpAny (model X.prog X.w) X.A (eval b X.env) (fun u s₂=>wpAny (model X.prog X.w) X.A (f v u) Q X.xe s₂) X.xe s₁) X.xe s:=by
 refine thn (ha pins s σ H _ I h) fun v s1 ⟨x,H1,I1,r1,q1⟩=>?_
 refine thn (hb pins s1 σ H1 _ I1 q1) fun u s2 ⟨y,H2,I2,r2,q2⟩=>?_
 exact hf v u s2 x y H2 I2 r1 r2 q2
theorem pe_op {op:Operator}{r:R2}(ho:OpR X (binaryOp op) r)(ha:PE X a ta)(hb:PE X b tb):PE X (.BinOp a op b pos) (tOp r ta tb):=by
 intro pins s σ H Q I h
 exact wpAny_BinOp (binT ha hb I h fun v u s2 x y H2 I2 rx ry q=>ho pins s2 σ H2 x y v u Q I2 rx ry q)
theorem pe_un {op:UnaryOp}{r:V→Hp→VK→Prop}(ho:UnR X (unaryOp op) r)(ha:PE X a ta):PE X (.UnaryOp op a pos) (tUn r ta):=by
 intro pins s σ H Q I h
 exact UnaryOp_ (thn (ha pins s σ H _ I h) fun v s1 ⟨x,H1,I1,r1,q1⟩=>ho pins s1 σ H1 x v Q I1 r1 q1)
theorem opI {f:Value→Value→Sem Value}{C:Int→Int→Prop}{g:Int→Int→Int}
  (rule:∀(i j:Int) (t u:Tok) (s:Shared) (Q:Value→Shared→Prop) (E:Value→Shared→Prop),C i j→Q (.int (g i j) s.toks) { s with toks:=s.toks+1 }→wpAny (model X.prog X.w) X.A (f (.int i t) (.int j u)) Q E s) :
  OpR X f (rI C fun i j=>.int (g i j)):=by
 intro pins s σ H x y v u Q I rx ry h
 obtain⟨i,j,rfl,rfl,hc,q⟩:=h
 obtain⟨t,rfl⟩:=rx
 obtain⟨t',rfl⟩:=ry
 exact rule i j t t' s _ _ hc ⟨.int (g i j),H,I.tok _,⟨_,rfl⟩,q⟩
theorem opI0 {f:Value→Value→Sem Value}{g:Int→Int→Int}
  (rule:∀(i j:Int) (t u:Tok) (s:Shared) (Q:Value→Shared→Prop) (E:Value→Shared→Prop),Q (.int (g i j) s.toks) { s with toks:=s.toks+1 }→wpAny (model X.prog X.w) X.A (f (.int i t) (.int j u)) Q E s) :
  OpR X f (rI0 fun i j=>.int (g i j)):=by
 intro pins s σ H x y v u Q I rx ry h
 obtain⟨i,j,rfl,rfl,q⟩:=h
 obtain⟨t,rfl⟩:=rx
 obtain⟨t',rfl⟩:=ry
 exact rule i j t t' s _ _ ⟨.int (g i j),H,I.tok _,⟨_,rfl⟩,q⟩
theorem opB0 {f:Value→Value→Sem Value}{g:Int→Int→Bool}
  (rule:∀(i j:Int) (t u:Tok) (s:Shared) (Q:Value→Shared→Prop) (E:Value→Shared→Prop),Q (.bool (g i j)) s→wpAny (model X.prog X.w) X.A (f (.int i t) (.int j u)) Q E s) :
  OpR X f (rI0 fun i j=>.bl (g i j)):=by
 intro pins s σ H x y v u Q I rx ry h
 obtain⟨i,j,rfl,rfl,q⟩:=h
 obtain⟨t,rfl⟩:=rx
 obtain⟨t',rfl⟩:=ry
 exact rule i j t t' s _ _ ⟨.bl (g i j),H,I,rfl,q⟩
noncomputable def CDiv (i j:Int):Prop:=0<j∧j<1073741824
noncomputable def CPow (i j:Int):Prop:=0≤j∧j≤1000000∧i.natAbs<2 ^ 64
noncomputable def CMul (i j:Int):Prop:=(-(2 ^ 64)<i∧i<2 ^ 64)∨(-(2 ^ 64)<j∧j<2 ^ 64)
theorem CMul.ok {i j:Int}(h:CMul i j):IntMulOk i j:=by
 rcases h with ⟨h1,h2⟩ | ⟨h1,h2⟩
 ·exact .of_left (intBits_le_64 h1 h2)
 ·exact .of_right (intBits_le_64 h1 h2)
theorem op_add:OpR X (binaryOp .Add) (rI0 fun i j=>.int (i+j)):=opI0 fun _ _ _ _ _ _ _ q=>add_int q
theorem op_sub:OpR X (binaryOp .Sub) (rI0 fun i j=>.int (i - j)):=opI0 fun _ _ _ _ _ _ _ q=>sub_int q
theorem op_mul:OpR X (binaryOp .Mult) (rI CMul fun i j=>.int (i * j)):=opI fun _ _ _ _ _ _ _ hc q=>mul_int q hc.ok
theorem op_fdiv:OpR X (binaryOp .FloorDiv) (rI CDiv fun i j=>.int (i / j)):=opI fun i j _ _ _ _ _ hc q=>by
 have h1:(0:Int)<j:=hc.1
 have h2:j<1073741824:=hc.2
 exact floordiv_int (by omega) (by rw[Int.fdiv_eq_ediv_of_nonneg i (by omega)];exact q) (.inl (PyProof.noPylong_small (by omega)))
theorem op_mod:OpR X (binaryOp .Mod) (rI (fun _ j=>0<j) fun i j=>.int (i % j)):=opI fun i j _ _ _ _ _ hc q=>by
 have h1:(0:Int)<j:=hc
 exact mod_int' (by omega) (by rw[Int.fmod_eq_emod_of_nonneg i (by omega)];exact q)
theorem op_pow:OpR X (binaryOp .Pow) (rI CPow fun i j=>.int (i ^ j.toNat)):=opI fun _ _ _ _ _ _ _ hc q=>pow_int_small hc.1 hc.2.1 hc.2.2 q
theorem unI {f:Value→Sem Value}{g:Int→Int}
  (rule:∀(i:Int) (t:Tok) (s:Shared) (Q:Value→Shared→Prop) (E:Value→Shared→Prop),Q (.int (g i) s.toks) { s with toks:=s.toks+1 }→wpAny (model X.prog X.w) X.A (f (.int i t)) Q E s) :
  UnR X f (rU fun i=>.int (g i)):=by
 intro pins s σ H x v Q I rx h
 obtain⟨i,rfl,q⟩:=h
 obtain⟨t,rfl⟩:=rx
 exact rule i t s _ _ ⟨.int (g i),H,I.tok _,⟨_,rfl⟩,q⟩
theorem un_neg:UnR X (unaryOp .USub) (rU fun i=>.int (-i)):=unI fun _ _ _ _ _ q=>neg_int q
end
noncomputable def scal:V→V→Bool
 | .non,.non=>true | .non,.int _=>true | .int _,.non=>true | .non,.bl _=>true | .bl _,.non=>true | .non,.str _=>true | .str _,.non=>true
 | .int _,.int _=>true | .bl _,.bl _=>true | .str _,.str _=>true | .byt _,.byt _=>true
 | .int _,.str _=>true | .str _,.int _=>true | .bl _,.str _=>true | .str _,.bl _=>true
 | _,_=>false
noncomputable def rEq:R2:=fun x y H Q=>scal x y=true∧Q (.bl (decide (x=y))) H
noncomputable def rNe:R2:=fun x y H Q=>scal x y=true∧Q (.bl (!decide (x=y))) H
theorem dec_int {i j:Int}:decide (V.int i=V.int j)=(i == j):=by
 rw[Bool.eq_iff_iff]
 simp
theorem dec_bl {i j:Bool}:decide (V.bl i=V.bl j)=(i == j):=by
 rw[Bool.eq_iff_iff]
 simp
theorem dec_str {i j:Str}:decide (V.str i=V.str j)=(i == j):=by
 rw[Bool.eq_iff_iff]
 simp
theorem dec_byt {i j:Array UInt8}:decide (V.byt i=V.byt j)=(i.toList == j.toList):=by
 rw[Bool.eq_iff_iff]
 cases i
 cases j
 simp
section
variable {X:Cx}{a b c:Expr}{ta tb tc:TE}{pos:Pos}
theorem fin_bl {pins:List (Addr×Obj)}{σ:St}{H:Hp}{s:Shared}{Q:VK}{k k':Bool}(I:Inv X pins σ H s)(q:Q (.bl k) H)(e:k=k'):EP X pins σ Q (.bool k') s:=by
 subst e
 exact⟨.bl k,H,I,rfl,q⟩
theorem op_eq:OpR X (compareOp .Eq) rEq:=by
 intro pins s σ H x y v u Q I rx ry h
 obtain⟨hs,q⟩:=h
 cases x with
 | non =>
  cases rx
  cases y with
  | non=>cases ry;exact PySem.EqNone.eq_none_none (fin_bl I q (by simp))
  | bl j=>cases ry;exact PySem.EqNone.eq_none_bool (fin_bl I q (by simp))
  | int j=>obtain⟨t',rfl⟩:=ry;exact PySem.EqNone.eq_none_int (fin_bl I q (by simp))
  | str j=>obtain⟨t',rfl⟩:=ry;exact PySem.EqNone.eq_none_str (fin_bl I q (by simp))
  | _=>exact absurd (show false=true from hs) Bool.false_ne_true
 | bl i =>
  cases rx
  cases y with
  | non=>cases ry;exact PySem.EqNone.eq_bool_none (fin_bl I q (by simp))
  | bl j=>cases ry;exact eq_bool (fin_bl I q dec_bl)
  | str j=>obtain⟨t',rfl⟩:=ry;exact PySem.EqMixed.eq_bool_str (fin_bl I q (by simp))
  | _=>exact absurd (show false=true from hs) Bool.false_ne_true
 | int i =>
  obtain⟨t,rfl⟩:=rx
  cases y with
  | non=>cases ry;exact PySem.EqNone.eq_int_none (fin_bl I q (by simp))
  | int j=>obtain⟨t',rfl⟩:=ry;exact eq_int (fin_bl I q dec_int)
  | str j=>obtain⟨t',rfl⟩:=ry;exact PySem.EqMixed.eq_int_str (fin_bl I q (by simp))
  | _=>exact absurd (show false=true from hs) Bool.false_ne_true
 | str i =>
  obtain⟨t,rfl⟩:=rx
  cases y with
  | non=>cases ry;exact PySem.EqNone.eq_str_none (fin_bl I q (by simp))
  | bl j=>cases ry;exact PySem.EqMixed.eq_str_bool (fin_bl I q (by simp))
  | int j=>obtain⟨t',rfl⟩:=ry;exact PySem.EqMixed.eq_str_int (fin_bl I q (by simp))
  | str j=>obtain⟨t',rfl⟩:=ry;exact eq_str (fin_bl I q dec_str)
  | _=>exact absurd (show false=true from hs) Bool.false_ne_true
 | byt i =>
  obtain⟨t,rfl⟩:=rx
  cases y with
  | byt j=>obtain⟨t',rfl⟩:=ry;exact PySem.W.eq_bytes (fin_bl I q dec_byt)
  | _=>exact absurd (show false=true from hs) Bool.false_ne_true
 | _=>cases y <;> exact absurd (show false=true from hs) Bool.false_ne_true
theorem op_ne:OpR X (compareOp .NotEq) rNe:=by
 intro pins s σ H x y v u Q I rx ry h
 obtain⟨hs,q⟩:=h
 cases x with
 | non =>
  cases rx
  cases y with
  | non=>cases ry;exact PySem.EqNone.ne_none_none (fin_bl I q (by simp))
  | bl j=>cases ry;exact PySem.EqNone.ne_none_bool (fin_bl I q (by simp))
  | int j=>obtain⟨t',rfl⟩:=ry;exact PySem.EqNone.ne_none_int (fin_bl I q (by simp))
  | str j=>obtain⟨t',rfl⟩:=ry;exact PySem.EqNone.ne_none_str (fin_bl I q (by simp))
  | _=>exact absurd (show false=true from hs) Bool.false_ne_true
 | bl i =>
  cases rx
  cases y with
  | non=>cases ry;exact PySem.EqNone.ne_bool_none (fin_bl I q (by simp))
  | bl j=>cases ry;exact ne_bool (fin_bl I q (congrArg not dec_bl))
  | str j=>obtain⟨t',rfl⟩:=ry;exact PySem.EqMixed.ne_bool_str (fin_bl I q (by simp))
  | _=>exact absurd (show false=true from hs) Bool.false_ne_true
 | int i =>
  obtain⟨t,rfl⟩:=rx
  cases y with
  | non=>cases ry;exact PySem.EqNone.ne_int_none (fin_bl I q (by simp))
  | int j=>obtain⟨t',rfl⟩:=ry;exact ne_int (fin_bl I q (congrArg not dec_int))
  | str j=>obtain⟨t',rfl⟩:=ry;exact PySem.EqMixed.ne_int_str (fin_bl I q (by simp))
  | _=>exact absurd (show false=true from hs) Bool.false_ne_true
 | str i =>
  obtain⟨t,rfl⟩:=rx
  cases y with
  | non=>cases ry;exact PySem.EqNone.ne_str_none (fin_bl I q (by simp))
  | bl j=>cases ry;exact PySem.EqMixed.ne_str_bool (fin_bl I q (by simp))
  | int j=>obtain⟨t',rfl⟩:=ry;exact PySem.EqMixed.ne_str_int (fin_bl I q (by simp))
  | str j=>obtain⟨t',rfl⟩:=ry;exact ne_str (fin_bl I q (congrArg not dec_str))
  | _=>exact absurd (show false=true from hs) Bool.false_ne_true
 | byt i =>
  obtain⟨t,rfl⟩:=rx
  cases y with
  | byt j=>obtain⟨t',rfl⟩:=ry;exact PySem.W.ne_bytes (fin_bl I q (congrArg not dec_byt))
  | _=>exact absurd (show false=true from hs) Bool.false_ne_true
 | _=>cases y <;> exact absurd (show false=true from hs) Bool.false_ne_true
theorem op_lt:OpR X (compareOp .Lt) (rI0 fun i j=>.bl (decide (i<j))):=opB0 fun _ _ _ _ _ _ _ q=>lt_int q
theorem op_le:OpR X (compareOp .LtE) (rI0 fun i j=>.bl (decide (i≤j))):=opB0 fun _ _ _ _ _ _ _ q=>le_int q
theorem op_gt:OpR X (compareOp .Gt) (rI0 fun i j=>.bl (decide (j<i))):=opB0 fun _ _ _ _ _ _ _ q=>gt_int q
theorem op_ge:OpR X (compareOp .GtE) (rI0 fun i j=>.bl (decide (j≤i))):=opB0 fun _ _ _ _ _ _ _ q=>ge_int q
theorem op_isN:OpR X (compareOp .Is) (fun x y H Q=>y = .non∧Q (.bl (decide (x = .non))) H):=by
 intro pins s σ H x y v u Q I rx ry h
 obtain⟨rfl,q⟩:=h
 cases ry
 refine is_none_gen (fin_bl I q ?_)
 cases x <;> first
  | (cases rx;rfl)
  | (obtain⟨t,rfl⟩:=rx;rfl)
theorem nomark (b:Expr) {op:CmpOp}(h:op ≠ .In:=by decide)(h2:op ≠ .NotIn:=by decide):behindInMarks op b=false:=by
 have e1:(op == CmpOp.In)=false:=by cases op <;> first |rfl |exact absurd rfl h
 have e2:(op == CmpOp.NotIn)=false:=by cases op <;> first |rfl |exact absurd rfl h2
 cases b <;> simp[behindInMarks,e1,e2]
theorem pe_cmpR {op:CmpOp}{r:R2}(ho:OpR X (compareOp op) r)(ha:PE X a ta)(hb:PE X b tb)(hm:behindInMarks op b=false):PE X (.Compare a [op] [b] pos) (tOp r ta tb):=by
 intro pins s σ H Q I h
 exact wpAny_Compare1 (binT ha hb I h fun v u s2 x y H2 I2 rx ry q=>ho pins s2 σ H2 x y v u Q I2 rx ry q) hm
noncomputable def tTest (t:TE):TT:=fun σ H Q=>t σ H fun x H'=>∃k,x = .bl k∧Q k H'
theorem pt_cmpR {op:CmpOp}{r:R2}(ho:OpR X (compareOp op) r)(ha:PE X a ta)(hb:PE X b tb)(hm:behindInMarks op b=false):PT X (.Compare a [op] [b] pos) (tTest (tOp r ta tb)):=by
 intro pins s σ H Q I h
 refine wpAny_isTrue_Compare1 (thn (ha pins s σ H _ I h) fun v s1 ⟨x,H1,I1,r1,q1⟩=>thn (hb pins s1 σ H1 _ I1 q1) fun u s2 ⟨y,H2,I2,r2,q2⟩ =>
  thn (ho pins s2 σ H2 x y v u _ I2 r1 r2 q2) fun c s3 ⟨z,H3,I3,r3,k,e,q3⟩=>?_) hm
 subst e
 cases r3
 exact wpAny_truthy_bool ⟨H3,I3,q3⟩
noncomputable def tChain (r r':R2)(ta tb tc:TE):TE:=fun σ H Q=>ta σ H fun x H1=>tb σ H1 fun y H2=>r x y H2 fun z H3=>∃k,z = .bl k ∧
 (if k=true then tc σ H3 fun w' H4=>r' y w' H4 Q else Q (.bl false) H3)
theorem pe_chain {op op':CmpOp}{r r':R2}(ho:OpR X (compareOp op) r)(ho':OpR X (compareOp op') r')(ha:PE X a ta)(hb:PE X b tb)(hc:PE X c tc)
  (hm:lastMarks [op,op'] [b,c]=false:=by with_unfolding_all rfl):PE X (.Compare a [op,op'] [b,c] pos) (tChain r r' ta tb tc):=by
 intro pins s σ H Q I h
 refine Compare_chain (thn (ha pins s σ H _ I h) fun v s1 ⟨x,H1,I1,r1,q1⟩=>chain_link (thn (hb pins s1 σ H1 _ I1 q1) fun u s2 ⟨y,H2,I2,r2,q2⟩ =>
  thn (ho pins s2 σ H2 x y v u _ I2 r1 r2 q2) fun d s3 ⟨z,H3,I3,r3,k,e,q3⟩=>?_)) hm
 subst e
 cases r3
 refine wpAny_truthy_bool ?_
 cases k with
 | false=>exact ite_ff ⟨.bl false,H3,I3,rfl,q3⟩
 | true=>exact ite_tt (chain_last (thn (hc pins s3 σ H3 _ I3 q3) fun w' s4 ⟨z',H4,I4,r4,q4⟩=>ho' pins s4 σ H4 y z' u w' Q I4 r2 r4 q4))
theorem pt_chain {op op':CmpOp}{r r':R2}(ho:OpR X (compareOp op) r)(ho':OpR X (compareOp op') r')(ha:PE X a ta)(hb:PE X b tb)(hc:PE X c tc)
  (hm:lastMarks [op,op'] [b,c]=false:=by with_unfolding_all rfl):PT X (.Compare a [op,op'] [b,c] pos) (tTest (tChain r r' ta tb tc)):=by
 intro pins s σ H Q I h
 refine isTrue_chain (thn (ha pins s σ H _ I h) fun v s1 ⟨x,H1,I1,r1,q1⟩=>test_link (thn (hb pins s1 σ H1 _ I1 q1) fun u s2 ⟨y,H2,I2,r2,q2⟩ =>
  thn (ho pins s2 σ H2 x y v u _ I2 r1 r2 q2) fun d s3 ⟨z,H3,I3,r3,k,e,q3⟩=>?_)) hm
 subst e
 cases r3
 refine wpAny_truthy_bool ?_
 cases k with
 | false =>
  obtain⟨k',e',q'⟩:=q3
  cases e'
  exact ite_ff ⟨H3,I3,q'⟩
 | true =>
  refine ite_tt (test_last (thn (hc pins s3 σ H3 _ I3 q3) fun w' s4 ⟨z',H4,I4,r4,q4⟩=>thn (ho' pins s4 σ H4 y z' u w' _ I4 r2 r4 q4) fun d' s5 ⟨z2,H5,I5,r5,k2,e2,q5⟩=>?_))
  subst e2
  cases r5
  exact wpAny_truthy_bool ⟨H5,I5,q5⟩
theorem line63:(sizeLine:Nat)<2 ^ 63:=by rw[sizeLine_eq];decide
theorem vals1 {x:V}{us:List Value}(r:Vals [x] us):∃u,us = [u]∧RelV x u:=by
 cases r with
 | cons r1 r2=>cases r2;exact⟨_,rfl,r1⟩
theorem vals2 {x y:V}{us:List Value}(r:Vals [x,y] us):∃u w',us = [u,w']∧RelV x u∧RelV y w':=by
 cases r with
 | cons r1 r2 =>
  cases r2 with
  | cons r3 r4=>cases r4;exact⟨_,_,rfl,r1,r3⟩
theorem call_max2 (hc:X.calm=true):CallR X (.builtin "max") (fun xs H Q=>∃i j,xs = [.int i,.int j]∧Q (.int (if j > i then j else i)) H):=by
 intro pins s σ H xs us Q I r h
 obtain⟨i,j,rfl,q⟩:=h
 obtain⟨u,w',rfl,⟨t,rfl⟩,⟨t',rfl⟩⟩:=vals2 r
 refine max_two_ints (I.ok.hd hc) fun h' tk k=>⟨_,H,I.kept k,?_,q⟩
 by_cases hj:j > i
 ·rw[if_pos hj,if_pos hj];exact⟨_,rfl⟩
 ·rw[if_neg hj,if_neg hj];exact⟨_,rfl⟩
theorem call_min2 (hc:X.calm=true):CallR X (.builtin "min") (fun xs H Q=>∃i j,xs = [.int i,.int j]∧Q (.int (if j<i then j else i)) H):=by
 intro pins s σ H xs us Q I r h
 obtain⟨i,j,rfl,q⟩:=h
 obtain⟨u,w',rfl,⟨t,rfl⟩,⟨t',rfl⟩⟩:=vals2 r
 refine min_two_ints (I.ok.hd hc) fun h' tk k=>⟨_,H,I.kept k,?_,q⟩
 by_cases hj:j<i
 ·rw[if_pos hj,if_pos hj];exact⟨_,rfl⟩
 ·rw[if_neg hj,if_neg hj];exact⟨_,rfl⟩
theorem call_int1:CallR X (.type "int") (fun xs H Q=>(∃i,xs = [.int i]∧Q (.int i) H)∨∃k,xs = [.bl k]∧Q (.int (if k then 1 else 0)) H):=by
 intro pins s σ H xs us Q I r h
 rcases h with ⟨i,rfl,q⟩ | ⟨k,rfl,q⟩
 ·obtain⟨u,rfl,t,rfl⟩:=vals1 r
  exact call_int_int ⟨.int i,H,I,⟨_,rfl⟩,q⟩
 ·obtain⟨u,rfl,r1⟩:=vals1 r
  cases r1
  exact call_int_bool ⟨.int (if k then 1 else 0),H,I.tok _,⟨_,rfl⟩,q⟩
theorem call_str_int:CallR X (.type "str") (fun xs H Q=>∃i,xs = [.int i]∧i.natAbs.log2<1920∧Q (.str (toString i)) H):=by
 intro pins s σ H xs us Q I r h
 obtain⟨i,rfl,hz,q⟩:=h
 obtain⟨u,rfl,t,rfl⟩:=vals1 r
 exact PySem.P.str_of_int hz ⟨.str _,H,I.tok _,⟨_,rfl⟩,q⟩
end
structure ObjM (h:Heap) (x dx C:Addr) (mA:Str→Option Value):Prop where
 obj:h.get? x=some (PySem.W.instObj C dx)
 ns:h.Ns1 dx mA
 ne:dx≠x
theorem lookIn_ns {h:Heap}{dx:Addr}{mA:Str→Option Value}(n:h.Ns1 dx mA):∃od,h.get? dx=some od∧∀name,PySem.W.lookIn name od=some (mA name):=by
 obtain⟨o,es,ep,ho,hd,hk,_,hm⟩:=n
 refine⟨o,ho,fun name=>?_⟩
 have e:=hm name
 unfold nsFind findBy at e
 rw[← Array.find?_toList]at e
 unfold PySem.W.lookIn
 rw[hd]
 dsimp only
 split
 ·rename_i y q
  rw[q]at e
  exact congrArg some e
 ·rename_i q
  rw[q]at e
  have a:es.toList.any (·.refKey)=false:=by
   rw[List.any_eq_false]
   intro y hy
   obtain⟨z,t,hkey⟩:=hk y (Array.mem_toList_iff.mp hy)
   simp[DictEntry.refKey,hkey]
  have a':¬ es.toList.any (·.refKey)=true:=by rw[a];exact Bool.false_ne_true
  rw[if_neg a']
  exact congrArg some e
theorem ObjM.look {h:Heap}{x dx C:Addr}{mA:Str→Option Value}(I:ObjM h x dx C mA):∃od,PySem.W.InstAt h x (PySem.W.instObj C dx) C (some od)∧∀name,PySem.W.lookIn name od=some (mA name) :=
 let ⟨od,ho,hl⟩:=lookIn_ns I.ns
 ⟨od,⟨I.obj,rfl,rfl,ho⟩,hl⟩
section
variable {prog:Program}{w:World}{A:Around}{E:Value→Shared→Prop}{s:Shared}{K:PySem.W.Frag}{x dx C f:Addr}{mA:Str→Option Value}{name:Str}{v:Value}
theorem get_map {expr:Bool}{Q:Value→Shared→Prop}(X:K.In s.heap)(I:ObjM s.heap x dx C mA)(hg:PySem.W.plainGet K C name=true)(hh:PySem.W.hasDictIn K C=true)
  (ha:PySem.W.findIn K (.ref C) name=some none) (hv:mA name=some v) (hv':PySem.W.handedIn v=true) (h:Q v { s with toks:=s.toks+1 }) :
  wpAny (model prog w) A (getAttr (.ref x) name expr) Q E s:=by
 obtain⟨od,J,hl⟩:=I.look
 exact PySem.W.get_value X J (PySem.W.plainGet_of hg).1 (PySem.W.findObj_own hh ha rfl (by rw[hl,hv])) hv' h
theorem get_meth {pl:Sem Bool}{Q:Value×List Value→Shared→Prop}(X:K.In s.heap)(I:ObjM s.heap x dx C mA)(hg:PySem.W.plainGet K C name=true)
  (hf:PySem.W.findIn K (.ref C) name=some (some (.ref f))) (ht:PySem.W.isFn K (.ref f)=true) (hv:mA name=none) (h:Q (.ref f,[.ref x]) s) :
  wpAny (model prog w) A (getMethod (.ref x) name pl) Q E s:=by
 obtain⟨od,J,hl⟩:=I.look
 exact PySem.W.method_fn X J (PySem.W.plainGet_of hg).1 (PySem.W.plainGet_of hg).2 hf (beq_iff_eq.mp ht) (by show (PySem.W.lookIn name od).map (·.isSome)=some false;rw[hl,hv];rfl) h
theorem set_map {ns:List Str}{Q:Unit→Shared→Prop}(X:K.In s.heap)(I:ObjM s.heap x dx C mA)
  (hs:PySem.W.findIn K (.ref C) "__setattr__" = some (some (.builtin "object.__setattr__"))) (hp:PySem.W.plainOver K C=true) (ht:PySem.W.takerIn K C name=some none) (hh:PySem.W.hasDictIn K C=true)
  (hw:PySem.Within mA ns) (hsz:ns.length≤sizeLine)
  (h:∀h',ObjM h' x dx C (fun y=>if y=name then some v else mA y)→Heap.SameBut dx s.heap h'→Q () { s with heap:=h',toks:=s.toks+2 }) :
  wpAny (model prog w) A (setAttr (.ref x) name v) Q E s:=by
 obtain⟨od,J,hl⟩:=I.look
 refine PySem.W.set_plain X J hs (PySem.W.osa_open (s:={ s with toks:=s.toks+1 }) (r:=none) X J hp ht fun b=>?_)
 obtain⟨cd,hc,hd'⟩:=PySem.W.any_some hh
 have hx:s.heap.get? x=some ⟨.ref C,some dx,.plain,#[]⟩:=I.obj
 refine wpAny_bind (wpAny_pure (wpAny_bind (wpAny_bind (wpAny_loadPart hx (wpAny_bind (PySem.W.Looks.here (s:={ s with toks:=s.toks+1 }) (PySem.W.looks_clsIn X hc) ?_))))))
 rw[hd']
 refine wpAny_pure (a:=some dx) (wpAny_bind (wpAny_pure (wpAny_bind ?_)))
 refine wpAny_nsSet1 (s:={ s with toks:=s.toks+1 }) I.ns fun h' hn2 hs2=>?_
 obtain⟨oD,esD,epD,hoD,hdD,hcD⟩:=hn2.count (PySem.Within.cons name v hw)
 refine wpAny_bind (wpAny_lookBehind hoD (by rw[hdD];exact pastItsLine_dict (Nat.le_trans hcD (by rw[List.length_cons];omega))) ?_)
 exact wpAny_pure (h _ ⟨(hs2.2 _ (Ne.symm I.ne)).trans I.obj,hn2,I.ne⟩ hs2)
theorem make_map {R:Result→Shared→Prop}{vs:List Value}{kw:List (Str×Value)}(X:K.In s.heap)(hm:PySem.W.makesIn K C=true)
  (hi:PySem.W.findIn K (.ref C) "__init__" = some (some (.ref f))) (hf:PySem.W.typeIn K (.ref f)=some (.type "function"))
  (h:codeAny (model prog w) (A.under (.builtin "type.__call__" ⟨.ref C :: vs,kw⟩)) (.call (.ref f) ⟨.ref (s.heap.objs.size+1) :: vs,kw⟩) (PySem.W.InitBack (s.heap.objs.size+1) R)
   { s with heap:=(s.heap.push PySem.W.emptyDict).push (PySem.W.instObj C s.heap.objs.size) }) :
  codeAny (model prog w) A (.call (.ref C) ⟨vs,kw⟩) R s:=by
 obtain⟨hh,g,d,t,os⟩:=s
 exact PySem.W.make_core (PySem.W.makes_of X hm) (PySem.W.looks_findIn X hi) (fun self=>PySem.W.bind_fn X self hf) (.inl rfl) h
end
noncomputable def putF (f:Str)(v:V):List (Str×V)→List (Str×V)
 | []=>[(f,v)]
 | (g,x) :: r=>if g=f then (g,v) :: r else (g,x) :: putF f v r
theorem lookup_putF (f g:Str)(v:V):∀fs:List (Str×V),(putF f v fs).lookup g=if g=f then some v else fs.lookup g
 | []=>by
  show List.lookup g [(f,v)]=_
  by_cases h:g=f
  ·have hb:(g == f)=true:=beq_iff_eq.mpr h
   simp only[List.lookup,hb,if_pos h]
  ·have hb:(g == f)=false:=beq_eq_false_iff_ne.mpr h
   simp only[List.lookup,hb,if_neg h]
 | (k, x) :: r=>by
  have ih:=lookup_putF f g v r
  rw[show putF f v ((k,x) :: r)=(if k=f then (k,v) :: r else (k,x) :: putF f v r)from rfl]
  by_cases hk:k=f
  ·rw[if_pos hk]
   by_cases h:g=k
   ·have hb:(g == k)=true:=beq_iff_eq.mpr h
    simp only[List.lookup,hb,if_pos (h.trans hk)]
   ·have hb:(g == k)=false:=beq_eq_false_iff_ne.mpr h
    simp only[List.lookup,hb,if_neg (fun e:g=f=>h (e.trans hk.symm))]
  ·rw[if_neg hk]
   by_cases h:g=k
   ·have hb:(g == k)=true:=beq_iff_eq.mpr h
    simp only[List.lookup,hb,if_neg (fun e:g=f=>hk (h.symm.trans e))]
   ·have hb:(g == k)=false:=beq_eq_false_iff_ne.mpr h
    simp only[List.lookup,hb]
    exact ih
theorem keys_putF (f:Str)(v:V):∀fs:List (Str×V),f∈(putF f v fs).map (·.1)∧∀g,g∈fs.map (·.1)→g∈(putF f v fs).map (·.1)
 | []=>⟨by simp[putF],fun g h=>by simp at h⟩
 | (k, x) :: r=>by
  obtain⟨i1,i2⟩:=keys_putF f v r
  rw[show putF f v ((k,x) :: r)=(if k=f then (k,v) :: r else (k,x) :: putF f v r)from rfl]
  by_cases hk:k=f
  ·rw[if_pos hk]
   subst hk
   exact⟨by simp,fun g h=>by simpa using h⟩
  ·rw[if_neg hk]
   refine⟨?_,fun g h=>?_⟩
   ·rw[List.map_cons]
    exact List.mem_cons_of_mem _ i1
   ·rw[List.map_cons]at h ⊢
    rcases List.mem_cons.mp h with e |e
    ·exact List.mem_cons.mpr (.inl e)
    ·exact List.mem_cons_of_mem _ (i2 g e)
theorem length_putF (f:Str)(v:V):∀fs:List (Str×V),(putF f v fs).length≤fs.length+1
 | []=>by simp[putF]
 | (k,x) :: r=>by
  have ih:=length_putF f v r
  rw[show putF f v ((k,x) :: r)=(if k=f then (k,v) :: r else (k,x) :: putF f v r)from rfl]
  by_cases hk:k=f
  ·rw[if_pos hk,List.length_cons,List.length_cons];omega
  ·rw[if_neg hk,List.length_cons,List.length_cons];omega
theorem RelO.some_of {v:V}{o:Option Value}(r:RelO (some v) o):∃u,o=some u∧RelV v u:=by
 cases o with
 | none=>exact(show False from r).elim
 | some u=>exact⟨u,rfl,r⟩
theorem RelO.none_of {o:Option Value}(r:RelO none o):o=none:=by
 cases o with
 | none=>rfl
 | some u=>exact(show False from r).elim
theorem handed_of {v:V}{u:Value}(r:RelV v u):PySem.W.handedIn u=true:=by
 cases v with
 | non=>cases (show u=Value.none from r);rfl
 | bl b=>cases (show u=Value.bool b from r);rfl
 | int i=>obtain⟨t,e⟩:=(show ∃t,u=Value.int i t from r);cases e;rfl
 | str x=>obtain⟨t,e⟩:=(show ∃t,u=Value.str x t from r);cases e;rfl
 | byt b=>obtain⟨t,e⟩:=(show ∃t,u=Value.bytes b t from r);cases e;rfl
 | flt b=>obtain⟨t,e⟩:=(show ∃t,u=Value.float b t from r);cases e;rfl
 | ref a=>cases (show u=Value.ref a from r);rfl
 | ty n=>cases (show u=Value.type n from r);rfl
section
variable {P:Program}{w:World}{H H':Hp}{h h':Heap}{a C dx:Addr}{fs fs':List (Str×V)}
theorem ins_get (hok:HOk P w H h)(e:H a=some (.ins C dx fs)):∃mA,ObjM h a dx C mA∧(∀f,RelO (fs.lookup f) (mA f))∧PySem.Within mA (fs.map (·.1))∧fs.length≤1000∧H dx=some (.own a):=by
 obtain⟨d,z,ne,ob,mA,n,r,q⟩:=(show ObjOk P w H h a (.ins C dx fs)from hok a _ e)
 exact⟨mA,⟨ob,n,ne⟩,r,q,z,d⟩
end
structure Cls (K:PySem.W.Frag) (C:Addr):Prop where
 pg:PySem.W.plainGet K C Str.empty=true
 hd:PySem.W.hasDictIn K C=true
 po:PySem.W.plainOver K C=true
 sa:PySem.W.findIn K (.ref C) "__setattr__" = some (some (.builtin "object.__setattr__"))
theorem Cls.get {K:PySem.W.Frag}{C:Addr}(c:Cls K C)(f:Str):PySem.W.plainGet K C f=true:=c.pg
noncomputable def NoAttr (K:PySem.W.Frag)(C:Addr)(f:Str):Prop:=PySem.W.findIn K (.ref C) f=some none
theorem NoAttr.taker {K:PySem.W.Frag}{C:Addr}{f:Str}(n:NoAttr K C f):PySem.W.takerIn K C f=some none:=by
 unfold PySem.W.takerIn
 rw[show PySem.W.findIn K (.ref C) f=some none from n]
 rfl
structure Con (K:PySem.W.Frag) (C:Addr) (f:Str) (v:V) (u:Value):Prop where
 at_:PySem.W.findIn K (.ref C) f=some (some u)
 rel:RelV v u
 get:PySem.W.specialIn K u "__get__" = some none
 cp:PySem.W.copiedNames.contains f=false
structure Meth (K:PySem.W.Frag) (C:Addr) (m:Str) (f:Addr):Prop where
 at_:PySem.W.findIn K (.ref C) m=some (some (.ref f))
 fn:PySem.W.isFn K (.ref f)=true
 kp:PySem.W.keepIn K (.ref f)=true
section
variable {X:Cx}{pins:List (Addr×Obj)}{σ:St}{H:Hp}{s:Shared}{a C dx:Addr}{fs:List (Str×V)}{f:Str}{v:V}{A:Around}{E:Value→Shared→Prop}
theorem getattr_ok {b:Bool}{Q:Value→Shared→Prop}(I:Inv X pins σ H s)(e:H a=some (.ins C dx fs))(c:Cls X.K C)(n:NoAttr X.K C f)(l:fs.lookup f=some v)
  (h:∀u s',Inv X pins σ H s'→RelV v u→Q u s'):wpAny (model X.prog X.w) A (getAttr (.ref a) f b) Q E s:=by
 obtain⟨mA,O,r,_,_,_⟩:=ins_get I.hok e
 obtain⟨u,hu,ru⟩:=RelO.some_of (v:=v) (o:=mA f) (by rw[← l];exact r f)
 exact get_map I.kIn O (c.get f) c.hd n hu (handed_of ru) (h u _ (I.tok _) ru)
theorem getmeth_ok {m:Str}{g:Addr}{pl:Sem Bool}{Q:Value×List Value→Shared→Prop}(I:Inv X pins σ H s)(e:H a=some (.ins C dx fs))(c:Cls X.K C)(k:Meth X.K C m g)(l:fs.lookup m=none)
  (h:Q (.ref g,[.ref a]) s):wpAny (model X.prog X.w) A (getMethod (.ref a) m pl) Q E s:=by
 obtain⟨mA,O,r,_,_,_⟩:=ins_get I.hok e
 have hn:mA m=none:=RelO.none_of (by rw[← l];exact r m)
 exact get_meth I.kIn O (c.get m) k.at_ k.fn hn h
theorem setattr_ok {y:V}{u:Value}{Q:Unit→Shared→Prop}(I:Inv X pins σ H s)(e:H a=some (.ins C dx fs))(c:Cls X.K C)(n:NoAttr X.K C f)(hl:fs.length<1000)(ry:RelV y u)
  (h:∀s',Inv X pins σ (upd H a (.ins C dx (putF f y fs))) s'→Q () s'):wpAny (model X.prog X.w) A (setAttr (.ref a) f u) Q E s:=by
 obtain⟨mA,O,r,wi,_,ho⟩:=ins_get I.hok e
 have hz:(fs.map (·.1)).length≤sizeLine:=by rw[List.length_map,sizeLine_eq];omega
 refine set_map I.kIn O c.sa c.po n.taker c.hd wi hz fun h' O' sb=>h _ ?_
 have hd:∃o,h'.get? dx=some o:=let ⟨o,_,_,e',_⟩:=O'.ns; ⟨o,e'⟩
 refine I.write (x:=a) (e:=dx) (by rw[e];exact True.intro) (.inr ho) (fun b q hb z=>(sb.2 b hb).trans z) hd ?_
 refine⟨by rw[upd_ne O.ne];exact ho,?_,O.ne,O'.obj,_,O'.ns,fun g=>?_,fun g hg=>?_⟩
 ·have:=length_putF f y fs;omega
 ·show RelO ((putF f y fs).lookup g) (if g=f then some u else mA g)
  rw[lookup_putF]
  by_cases q:g=f
  ·rw[if_pos q,if_pos q];exact ry
  ·rw[if_neg q,if_neg q];exact r g
 ·by_cases q:g=f
  ·rw[q];exact(keys_putF f y fs).1
  ·refine(keys_putF f y fs).2 g (wi g fun z=>hg ?_)
   show (if g=f then some u else mA g)=none
   rw[if_neg q];exact z
theorem Inv.made (I:Inv X pins σ H s):Inv X pins σ (upd (upd H s.heap.objs.size (.own (s.heap.objs.size+1))) (s.heap.objs.size+1) (.ins C s.heap.objs.size []))
  { s with heap:=(s.heap.push PySem.W.emptyDict).push (PySem.W.instObj C s.heap.objs.size) }:=by
 have e1:(s.heap.push PySem.W.emptyDict).get? s.heap.objs.size=some PySem.W.emptyDict:=Heap.get?_push_size s.heap rfl
 have e2:((s.heap.push PySem.W.emptyDict).push (PySem.W.instObj C s.heap.objs.size)).get? (s.heap.objs.size+1)=some (PySem.W.instObj C s.heap.objs.size):=by
  have:=Heap.get?_push_size (s.heap.push PySem.W.emptyDict) (o:=PySem.W.instObj C s.heap.objs.size) rfl
  rwa [Heap.size_push]at this
 have e3:(s.heap.push PySem.W.emptyDict).Ns s.heap.objs.size (fun _=>none):=⟨PySem.W.emptyDict,#[],_,e1,rfl,(fun e he=>absurd he (by simp)),fun _=>rfl⟩
 have I1:=I.laid (a:=s.heap.objs.size) (o:=.own (s.heap.objs.size+1)) (h':=s.heap.push PySem.W.emptyDict) (t':=s.toks) (fun b u q=>Heap.get?_push_of_some _ q) (Nat.le_refl _) ⟨_,e1⟩
 refine I1.laid (a:=s.heap.objs.size+1) (o:=.ins C s.heap.objs.size []) (t':=s.toks) (fun b u q=>Heap.get?_push_of_some _ q) (Nat.le_of_eq (Heap.size_push _ _)) ?_
 have ne:s.heap.objs.size≠s.heap.objs.size+1:=Nat.ne_of_lt (Nat.lt_succ_self _)
 refine⟨by rw[upd_ne ne,upd_same],Nat.zero_le _,ne,e2,fun _=>none,(Heap.Ns1.of_empty e3).at fun o q=>Heap.get?_push_of_some _ q,fun _=>True.intro,fun y hy=>absurd rfl hy⟩
theorem attr_of {prog:Program}{w:World}{env:Env}{e:Expr}{f:Str}{pos:Pos}{s:Shared}{Q:Value→Shared→Prop}(hb:attributeBase e f env (eval e env)=eval e env)
  (h:wpAny (model prog w) A (eval e env) (fun o s₁=>wpAny (model prog w) A (getAttr o f true) Q E s₁) E s):wpAny (model prog w) A (eval (.Attribute e f pos) env) Q E s :=
 Attribute_any_ h (by rw[arm_eval_Attribute,hb])
end
noncomputable def tFld (K:PySem.W.Frag)(ta:TE)(f:Str):TE:=fun σ H Q=>ta σ H fun x H1=>∃a C dx fs v,x = .ref a∧H1 a=some (.ins C dx fs)∧Cls K C∧NoAttr K C f∧fs.lookup f=some v∧Q v H1
noncomputable def sFld (K:PySem.W.Frag)(ta tv:TE)(f:Str):TS:=fun D σ H=>tv σ H fun y H1=>ta σ H1 fun x H2=>∃a C dx fs,x = .ref a∧H2 a=some (.ins C dx fs)∧Cls K C∧NoAttr K C f∧fs.length<1000 ∧
 D.nx σ (upd H2 a (.ins C dx (putF f y fs)))
section
variable {X:Cx}{o e value:Expr}{f:Str}{pos pos' tpos:Pos}{ta tv:TE}
theorem pe_fld (he:PE X e ta)(hb:attributeBase e f X.env (eval e X.env)=eval e X.env):PE X (.Attribute e f pos) (tFld X.K ta f):=by
 intro pins s σ H Q I h
 refine attr_of hb (thn (he pins s σ H _ I h) fun u s1 ⟨x,H1,I1,rx,a,C,dx,fs,v,ex,ea,c,n,l,q⟩=>?_)
 subst ex
 obtain rfl:u=Value.ref a:=rx
 exact getattr_ok I1 ea c n l fun u' s2 I2 ru=>⟨v,H1,I2,ru,q⟩
theorem ps_fld (ha:PE X o ta)(hv:PE X value tv)(hs:swapsWith value (some (.Attribute o f pos')) pos.line X.env=pure false):PS X (.Assign [.Attribute o f pos'] value pos) (sFld X.K ta tv f):=by
 intro pins s σ H D I h
 refine plainObj_wpAny_Assign_Attribute (thn (hv pins s σ H _ I h) fun u s1 ⟨y,H1,I1,ry,q⟩=>thn (ha pins s1 σ H1 _ I1 q) fun ov s2 ⟨x,H2,I2,rx,a,C,dx,fs,ex,ea,c,n,l,q2⟩=>?_) hs
 subst ex
 obtain rfl:ov=Value.ref a:=rx
 exact setattr_ok I2 ea c n l ry fun s3 I3=>⟨σ,_,I3,q2⟩
end
section
variable {X:Cx}{pins:List (Addr×Obj)}{σ:St}{H:Hp}{s:Shared}{A:Around}{E:Value→Shared→Prop}{Q:Value→Shared→Prop}{c:Value}{b:Bool}
inductive TyOf (K:PySem.W.Frag) (H:Hp):V→Value→Prop where
 | non:TyOf K H .non (.type "NoneType")
 | bl (x:Bool):TyOf K H (.bl x) (.type "bool")
 | int (i:Int):TyOf K H (.int i) (.type "int")
 | str (x:Str):TyOf K H (.str x) (.type "str")
 | flt (x:UInt64):TyOf K H (.flt x) (.type "float")
 | lst {a:Addr}{xs:List V}(e:H a=some (.lst xs)):TyOf K H (.ref a) (.type "list")
 | frz {a:Addr}{o:Obj}{xs:List V}(e:H a=some (.frz o (.lst xs))):TyOf K H (.ref a) (.type "list")
 | tup {a:Addr}{xs:List V}(e:H a=some (.tup xs)):TyOf K H (.ref a) (.type "tuple")
 | dK {a:Addr}{kvs:List (Key×V)}(e:H a=some (.dK kvs)):TyOf K H (.ref a) (.type "dict")
 | dT {a:Addr}{kvs:List (List Key×V)}(e:H a=some (.dT kvs)):TyOf K H (.ref a) (.type "dict")
 | ins {a C dx:Addr}{fs:List (Str×V)}(e:H a=some (.ins C dx fs)) (cl:Cls K C) (ha:PySem.W.findIn K (.ref C) "__class__" = some (some (.builtin "object.__class__")))
   (hn:PySem.W.specialIn K (.builtin "object.__class__") "__get__" = some (some (.builtin "getset_descriptor.__get__"))) (htk:PySem.W.takesIn K (.builtin "object.__class__")=some true)
   (hm:PySem.W.mroIn K C (.type "object")=some true):TyOf K H (.ref a) (.ref C)
end
structure Room (k:Nat) (A:Around):Prop where
 hd:A.handled=none
 dp:A.depth+3 * k+5<recursionLimit
 un:A.units+16 * k+200<cLine
 gd:A.guards=some []
theorem Room.mono {j k:Nat}{A:Around}(r:Room k A)(h:j≤k):Room j A:=⟨r.hd,by have:=r.dp;omega,by have:=r.un;omega,r.gd⟩
theorem Room.deeper {k:Nat}{A:Around}(r:Room (k+1) A)(env:Env):Room k (A.deeper env) :=
 ⟨r.hd,by have:=r.dp;show A.depth+1+3 * k+5<_;omega,by have:=r.un;show A.units+3+16 * k+200<_;omega,r.gd⟩
theorem Room.in1 {k:Nat}{A:Around}(r:Room (k+1) A):Room k A.in1 :=
 ⟨r.hd,by have:=r.dp;show A.depth+3 * k+5<_;omega,by have:=r.un;show A.units+1+16 * k+200<_;omega,r.gd⟩
theorem make_depth {A:Around}{C:Addr}{us:List Value}{kw:List (Str×Value)}:(A.under (.builtin "type.__call__" ⟨.ref C :: us,kw⟩)).depth=A.depth+1:=by
 first |rfl |simp[Around.under,Code.weight,Code.isCreation,Code.isGuard,Code.isCaller,Code.frames,Code.isFrame,guardIds]
theorem make_units {A:Around}{C:Addr}{us:List Value}{kw:List (Str×Value)}:(A.under (.builtin "type.__call__" ⟨.ref C :: us,kw⟩)).units=A.units+1:=by
 first |rfl |simp[Around.under,Code.cUnits,Code.frames,Code.isFrame]
theorem make_guards {A:Around}{C:Addr}{us:List Value}{kw:List (Str×Value)}(h:A.guards=some []):(A.under (.builtin "type.__call__" ⟨.ref C :: us,kw⟩)).guards=some []:=by
 first |exact h | (simpa [Around.under,Code.weight,Code.isCreation,Code.isGuard,Code.isCaller,Code.frames,Code.isFrame,guardIds]using h)
theorem Room.make {k:Nat}{A:Around}(r:Room (k+1) A)(C:Addr)(us:List Value)(kw:List (Str×Value)):Room k (A.under (.builtin "type.__call__" ⟨.ref C :: us,kw⟩)) :=
 ⟨r.hd,by have:=r.dp;rw[make_depth];omega,by have:=r.un;rw[make_units];omega,make_guards r.gd⟩
theorem Room.depth {k:Nat}{A:Around}(r:Room k A):A.depth<recursionLimit:=by have:=r.dp;omega
theorem Room.units {k:Nat}{A:Around}(r:Room k A):A.units+64<cLine:=by have:=r.un;omega
noncomputable def tNil:TA:=fun _ H Q=>Q [] H
noncomputable def tCons (ta:TE)(tr:TA):TA:=fun σ H Q=>ta σ H fun x H1=>tr σ H1 fun xs H2=>Q (x :: xs) H2
section
variable {X:Cx}{e:Expr}{es:List Expr}{te:TE}{t:TA}{pos:Pos}
theorem pa_nil:PA X [] tNil:=fun _ _ _ _ H Q I h=>Calls.spliced_nil ⟨[],H,I,.nil,h⟩
theorem pa_cons (ha:PE X e te)(hr:PA X es t)(hs:starEach (e :: es) X.env=(false,eval e X.env) :: starEach es X.env:=by rfl):PA X (e :: es) (tCons te t):=by
 intro pos pins s σ H Q I h
 rw[hs]
 show wpAny _ _ (spliced ((false,eval e X.env) :: backTo pos (starEach es X.env))) _ _ s
 refine Calls.spliced_cons (thn (ha pins s σ H _ I h) fun u s1 ⟨x,H1,I1,r1,q1⟩=>?_)
 exact thn (hr pos pins s1 σ H1 _ I1 q1) fun us s2 ⟨xs,H2,I2,r2,q2⟩=>⟨x :: xs,H2,I2,.cons r1 r2,q2⟩
noncomputable def tTup (t:TA):TE:=fun σ H Q=>t σ H fun xs H1=>xs.length≤sizeLine∧∀p,H1 p=none→Q (.ref p) (upd H1 p (.tup xs))
noncomputable def tLst (t:TA):TE:=fun σ H Q=>t σ H fun xs H1=>xs.length≤sizeLine∧∀p,H1 p=none→Q (.ref p) (upd H1 p (.lst xs))
theorem pe_tup {x1}(h:PA X es t):PE X (.Tuple es x1 pos) (tTup t):=by
 intro pins s σ H Q I hq
 refine wpAny_Tuple_spliced (thn (h pos pins s σ H _ I hq) fun us s1 ⟨xs,H1,I1,r,z,q⟩=>⟨by rw[← r.length];exact z,?_⟩)
 have hf:H1 s1.heap.objs.size=none:=I1.hok.fresh (Nat.le_refl _)
 refine⟨.ref s1.heap.objs.size,upd H1 s1.heap.objs.size (.tup xs),I1.laid (t':=s1.toks) (fun b u e=>Heap.get?_push_of_some _ e) (Nat.le_refl _) ?_,rfl,q _ hf⟩
 exact⟨z,us,r,⟨_,Heap.get?_push_size _ rfl,rfl,_,rfl⟩⟩
theorem pe_lst (h:PA X es t):PE X (.List es pos) (tLst t):=by
 intro pins s σ H Q I hq
 refine wpAny_List_spliced (thn (h pos pins s σ H _ I hq) fun us s1 ⟨xs,H1,I1,r,z,q⟩=>⟨by rw[← r.length];exact z,?_⟩)
 have hf:H1 s1.heap.objs.size=none:=I1.hok.fresh (Nat.le_refl _)
 refine⟨.ref s1.heap.objs.size,upd H1 s1.heap.objs.size (.lst xs),I1.laid (t':=s1.toks) (fun b u e=>Heap.get?_push_of_some _ e) (Nat.le_refl _) ?_,rfl,q _ hf⟩
 exact⟨z,us,0,r,Heap.get?_push_size _ rfl⟩
end
noncomputable abbrev Sp:=List V→Hp→VK→XK→Prop
noncomputable abbrev CXT:=List Env→Hp→Shared→XK→Value→Shared→Prop
structure Env0 (P:Program) (w:World) (K:PySem.W.Frag) (mg:Str→Option Value) (base:Heap) (A:Around) (outer:List Env) (s:Shared) (H:Hp):Prop where
 frames:A.frames=some outer
 mod:Mod K mg base
 bs:∀b o,base.get? b=some o→s.heap.get? b=some o∧H b=none
 bsz:base.objs.size≤s.heap.objs.size
 funs:s.heap.FunFrames base outer
 frf:∀b∈frs outer,H b=none
 hok:HOk P w H s.heap
 bare:AllBare s.gens
noncomputable def CE (outer:List Env)(P:Program)(w:World)(H:Hp)(s:Shared)(Q:VK)(u:Value)(s':Shared):Prop :=
 ∃v H',s'.os=s.os∧AllBare s'.gens∧Un (frs outer) [] H H' s.heap s'.heap∧HOk P w H' s'.heap∧RelV v u∧Q v H'
noncomputable def CR (CX:CXT)(outer:List Env)(P:Program)(w:World)(H:Hp)(s:Shared)(Q:VK)(E:XK)(r:Result)(s':Shared):Prop :=
 match r with
 | .ok (.ret u)=>CE outer P w H s Q u s'
 | .ok _=>False
 | .error e=>CX outer H s E e s'
structure FnOk (P:Program) (w:World) (K:PySem.W.Frag) (mg:Str→Option Value) (base:Heap) (CX:CXT) (k:Nat) (f:Addr) (fd:FuncData) (ps:List Str) (sp:Sp):Prop where
 len:∀vs H Q E,sp vs H Q E→vs.length=ps.length
 run:∀(A:Around) (outer:List Env) (s:Shared) (H:Hp) (args:Args) (us:List Value) (vs:List V) (Q:VK) (E:XK),Room k A→Env0 P w K mg base A outer s H→BindsTo s fd args (ps.zip us)→Vals vs us→sp vs H Q E →
  codeAny (model P w) A (.call (.ref f) args) (CR CX outer P w H s Q E) s
theorem FnOk.mono {P:Program}{w:World}{K:PySem.W.Frag}{mg:Str→Option Value}{base:Heap}{CX:CXT}{j k:Nat}{f:Addr}{fd:FuncData}{ps:List Str}{sp:Sp}(F:FnOk P w K mg base CX j f fd ps sp)(h:j≤k) :
  FnOk P w K mg base CX k f fd ps sp:=⟨F.len,fun A outer s H args us vs Q E hr=>F.run A outer s H args us vs Q E (hr.mono h)⟩
theorem FnOk.imp {P:Program}{w:World}{K:PySem.W.Frag}{mg:Str→Option Value}{base:Heap}{CX:CXT}{k:Nat}{f:Addr}{fd:FuncData}{ps:List Str}{sp sp':Sp}(F:FnOk P w K mg base CX k f fd ps sp)
  (h:∀vs H Q E,sp' vs H Q E→sp vs H Q E):FnOk P w K mg base CX k f fd ps sp' :=
 ⟨fun vs H Q E q=>F.len vs H Q E (h _ _ _ _ q),fun A outer s H args us vs Q E hr he hb hv hs=>F.run A outer s H args us vs Q E hr he hb hv (h _ _ _ _ hs)⟩
theorem Env0.make {P:Program}{w:World}{K:PySem.W.Frag}{mg:Str→Option Value}{base:Heap}{A:Around}{outer:List Env}{s:Shared}{H:Hp}(e:Env0 P w K mg base A outer s H)(C:Addr)(us:List Value)(kw:List (Str×Value)) :
  Env0 P w K mg base (A.under (.builtin "type.__call__" ⟨.ref C :: us,kw⟩)) outer s H:=⟨by first |exact e.frames | (simpa [Around.under,Code.envs,Code.isFrame,pushEnvs]using e.frames),e.mod,e.bs,e.bsz,e.funs,e.frf,e.hok,e.bare⟩
theorem Env0.in1 {P:Program}{w:World}{K:PySem.W.Frag}{mg:Str→Option Value}{base:Heap}{A:Around}{outer:List Env}{s:Shared}{H:Hp}(e:Env0 P w K mg base A outer s H) :
  Env0 P w K mg base A.in1 outer s H:=⟨e.frames,e.mod,e.bs,e.bsz,e.funs,e.frf,e.hok,e.bare⟩
section
variable {X:Cx}{pins:List (Addr×Obj)}{σ:St}{H:Hp}{s s':Shared}
theorem Inv.env0 (I:Inv X pins σ H s):Env0 X.prog X.w X.K X.mg X.base X.A X.stack s H :=
 ⟨I.ok.frames,I.ok.mod,I.bs,Nat.le_trans I.ok.bsz I.sz,I.stack,I.stkFree,I.hok,I.bare⟩
theorem Inv.after {Q:VK}{u:Value}(I:Inv X pins σ H s)(h:CE X.stack X.prog X.w H s Q u s'):EP X pins σ Q u s':=by
 obtain⟨v,H',os,bare,un,hok,r,q⟩:=h
 obtain⟨hh,g,d,t,os'⟩:=s'
 obtain rfl:os'=s.os:=os
 exact⟨v,H',I.call (h':=hh) (g':=g) (d':=d) (t':=t) (ch:=[]) un hok bare (fun b z=>absurd z (by simp)),r,q⟩
end
noncomputable def tCall (sp:Sp)(dvs:List V)(E:XK)(t:TA):TE:=fun σ H Q=>t σ H fun vs H1=>sp (vs ++ dvs) H1 Q E
noncomputable def tMeth (C:Addr)(m:Str)(sp:Sp)(dvs:List V)(E:XK)(ta:TE)(t:TA):TE:=fun σ H Q=>ta σ H fun x H1=>∃a dx fs,x = .ref a∧H1 a=some (.ins C dx fs)∧fs.lookup m=none ∧
 t σ H1 fun vs H2=>sp (x :: (vs ++ dvs)) H2 Q E
noncomputable def tMake (C:Addr)(sp:Sp)(dvs:List V)(E:XK)(t:TA):TE:=fun σ H Q=>t σ H fun vs H1=>∀x dx,H1 x=none→H1 dx=none→dx≠x →
 sp (.ref x :: (vs ++ dvs)) (upd (upd H1 dx (.own x)) x (.ins C dx [])) (fun v H2=>v = .non∧Q (.ref x) H2) E
noncomputable def Binds (K:PySem.W.Frag)(fd:FuncData)(ps:List Str)(ds:List Value):Prop :=
 ∀(s:Shared) (us:List Value),K.In s.heap→(us ++ ds).length=ps.length→BindsTo s fd ⟨us,[]⟩ (ps.zip (us ++ ds))
theorem Binds.all {K:PySem.W.Frag}{fd:FuncData}{ps:List Str}(h:∀us:List Value,us.length=ps.length→bindArgs fd ⟨us,[]⟩ = pure (ps.zip us)):Binds K fd ps []:=fun s us _ hl=>by
 rw[List.append_nil]at hl ⊢
 exact .of_eq (h us hl)
noncomputable def Passes (CX:CXT)(X:Cx)(E:XK):Prop:=∀(pins:List (Addr×Obj)) (σ:St)(H:Hp)(s:Shared)(e:Value)(s':Shared),Inv X pins σ H s→CX X.stack H s E e s'→X.xe e s'
section
variable {X:Cx}{CX:CXT}{k:Nat}{f C:Addr}{fd:FuncData}{ps:List Str}{sp:Sp}{dvs:List V}{ds:List Value}{E:XK}{x m:Str}{p pos apos:Pos}{e o:Expr}{es:List Expr}{ta:TE}{t:TA}
theorem run_fn {pins:List (Addr×Obj)}{σ:St}{H:Hp}{s:Shared}{Q:VK}{us:List Value}{vs:List V}(F:FnOk X.prog X.w X.K X.mg X.base CX k f fd ps sp)(hr:Room k X.A)(hb:Binds X.K fd ps ds)(hd:Vals dvs ds)(hx:Passes CX X E)
  (I:Inv X pins σ H s) (r:Vals vs us) (h:sp (vs ++ dvs) H Q E):wpAny (model X.prog X.w) X.A (call (.ref f) us) (EP X pins σ Q) X.xe s:=by
 have r2:Vals (vs ++ dvs) (us ++ ds):=r.append hd
 have hl:(us ++ ds).length=ps.length:=by rw[← r2.length];exact F.len _ _ _ _ h
 refine wpAny_call (codeAny_mono (F.run X.A X.stack s H ⟨us,[]⟩ (us ++ ds) (vs ++ dvs) Q E hr I.env0 (hb s us I.kIn hl) r2 h) fun r s' hq=>?_)
 cases r with
 | error e=>exact hx pins σ H s e s' I hq
 | ok fl =>
  cases fl with
  | ret u=>exact I.after hq
  | next=>exact False.elim hq
  | brk=>exact False.elim hq
  | cont=>exact False.elim hq
theorem pe_call (F:FnOk X.prog X.w X.K X.mg X.base CX k f fd ps sp)(hr:Room k X.A)(hg:Gl X x)(hm:X.mg x=some (.ref f))(hk:PySem.W.keepIn X.K (.ref f)=true)(hb:Binds X.K fd ps ds)(hd:Vals dvs ds)(hx:Passes CX X E)
  (ha:PA X (e :: es) t) (hdb:(x == ("__debug__":Str))=false:=by decide) (he:starEach (e :: es) X.env=(false,eval e X.env) :: starEach es X.env:=by rfl) (hpl:(backTo pos (starEach es X.env)).any (·.1)=false:=by rfl) :
  PE X (.Call (.Name x p) (e :: es) [] pos) (tCall sp dvs E t):=by
 intro pins s σ H Q I h
 refine wpAny_Call_Name_kw (ld_glob I hg hm ?_ hdb)
 refine PySem.W.callWith_K (h₀:=X.base) I.ok.mod.kin hk (thn (ha pos pins s σ H _ I h) fun us s1 ⟨vs,H1,I1,r,q⟩=>⟨I1.kIn,?_⟩) he hpl
 exact run_fn F hr hb hd hx I1 r q
theorem pe_meth0 {pl:Sem Bool}(he:PE X o ta)(c:Cls X.K C)(hm:Meth X.K C m f)(F:FnOk X.prog X.w X.K X.mg X.base CX k f fd ps sp)(hr:Room k X.A)(hb:Binds X.K fd ps ds)(hd:Vals dvs ds)(hx:Passes CX X E)
  (ht:eval (.Call (.Attribute o m apos) [] [] pos) X.env=(do
   let ov ← eval o X.env
   standAt apos.atName
   let (f,first) ← holding [ov] (getMethod ov m pl)
   callWith pos f first (backTo pos (starEach [] X.env)) (backToKw pos (keywordEach [] X.env))):=by rfl) :
  PE X (.Call (.Attribute o m apos) [] [] pos) (tMeth C m sp dvs E ta tNil):=by
 intro pins s σ H Q I h
 refine PySem.W.methodCall_KW (pl:=pl) (thn (he pins s σ H _ I h) fun u s1 ⟨x,H1,I1,rx,a,dx,fs,ex,ea,l,q⟩=>?_) ht
 subst ex
 obtain rfl:u=Value.ref a:=rx
 refine getmeth_ok I1 ea c hm l ?_
 exact PySem.W.callWith_K0 (first:=[.ref a]) I1.kIn hm.kp (run_fn (us:=[.ref a]) (vs:=[.ref a]) F hr hb hd hx I1 (.cons rfl .nil) q)
structure Mk (K:PySem.W.Frag) (C f:Addr):Prop where
 makes:PySem.W.makesIn K C=true
 init:PySem.W.findIn K (.ref C) "__init__" = some (some (.ref f))
 fn:PySem.W.isFn K (.ref f)=true
 kp:PySem.W.keepIn K (.ref C)=true
theorem run_make {pins:List (Addr×Obj)}{σ:St}{H:Hp}{s:Shared}{Q:VK}{us:List Value}{vs:List V}(M:Mk X.K C f)(F:FnOk X.prog X.w X.K X.mg X.base CX k f fd ps sp)(hr:Room (k+1) X.A)(hb:Binds X.K fd ps ds)(hd:Vals dvs ds)
  (hx:Passes CX X E) (I:Inv X pins σ H s) (r:Vals vs us)
  (h:∀x dx,H x=none→H dx=none→dx≠x→sp (.ref x :: (vs ++ dvs)) (upd (upd H dx (.own x)) x (.ins C dx [])) (fun v H2=>v = .non∧Q (.ref x) H2) E) :
  wpAny (model X.prog X.w) X.A (call (.ref C) us) (EP X pins σ Q) X.xe s:=by
 have hq:=h (s.heap.objs.size+1) s.heap.objs.size (I.hok.fresh (Nat.le_succ _)) (I.hok.fresh (Nat.le_refl _)) (Nat.ne_of_lt (Nat.lt_succ_self _))
 have I2:=Inv.made (C:=C) I
 have r2:Vals (V.ref (s.heap.objs.size+1) :: (vs ++ dvs)) (Value.ref (s.heap.objs.size+1) :: (us ++ ds)):=.cons rfl (r.append hd)
 have hl:(Value.ref (s.heap.objs.size+1) :: us ++ ds).length=ps.length:=by
  have e:=r2.length
  rw[F.len _ _ _ _ hq]at e
  exact e.symm
 refine wpAny_call (make_map (f:=f) I.kIn M.makes M.init (beq_iff_eq.mp M.fn) (codeAny_mono (F.run _ X.stack _ _ ⟨Value.ref (s.heap.objs.size+1) :: us,[]⟩ (Value.ref (s.heap.objs.size+1) :: (us ++ ds)) _ _ E (hr.make C us [])
  (I2.env0.make C us []) (hb _ (Value.ref (s.heap.objs.size+1) :: us) I2.kIn hl) r2 hq) fun r s' hq'=>?_))
 cases r with
 | error e=>exact hx pins σ _ _ e s' I2 hq'
 | ok fl =>
  cases fl with
  | ret u =>
   obtain⟨v,H',I3,rv,ev,q3⟩:=I2.after hq'
   subst ev
   exact⟨rv,⟨V.ref (s.heap.objs.size+1),H',I3,rfl,q3⟩⟩
  | next=>exact False.elim hq'
  | brk=>exact False.elim hq'
  | cont=>exact False.elim hq'
theorem pe_make0 (M:Mk X.K C f)(F:FnOk X.prog X.w X.K X.mg X.base CX k f fd ps sp)(hr:Room (k+1) X.A)(hg:Gl X x)(hm:X.mg x=some (.ref C))(hb:Binds X.K fd ps ds)(hd:Vals dvs ds)(hx:Passes CX X E)
  (hdb:(x == ("__debug__":Str))=false:=by decide):PE X (.Call (.Name x p) [] [] pos) (tMake C sp dvs E tNil):=by
 intro pins s σ H Q I h
 refine wpAny_Call_Name_kw (ld_glob I hg hm ?_ hdb)
 exact PySem.W.callWith_K0 I.kIn M.kp (run_make (us:=[]) M F hr hb hd hx I .nil h)
end
noncomputable def PK (X:Cx)(kws:List Keyword)(t:TA):Prop :=
 ∀(pos:Pos) (pins:List (Addr×Obj)) (s:Shared) (σ:St) (H:Hp) (Q:List V→Hp→Prop),Inv X pins σ H s→t σ H Q→wpAny (model X.prog X.w) X.A (evalAll ((backToKw pos (keywordEach kws X.env)).map (·.2))) (AP X pins σ Q) X.xe s
section
variable {X:Cx}{CX:CXT}{k:Nat}{f C:Addr}{fd:FuncData}{ps ks:List Str}{sp:Sp}{E:XK}{x m:Str}{p pos apos kpos:Pos}{e o:Expr}{es:List Expr}{kws:List Keyword}{te ta:TE}{t tk:TA}{nm:Option Str}
structure KBinds (K:PySem.W.Frag) (fd:FuncData) (ps ks:List Str) (g:List Value→List Value→List Value) (gV:List V→List V→List V):Prop where
 to:∀(s:Shared) (us ws:List Value),K.In s.heap→(g us ws).length=ps.length→BindsTo s fd ⟨us,ks.zip ws⟩ (ps.zip (g us ws))
 rel:∀ {vs:List V}{us:List Value}{zs:List V}{ws:List Value},Vals vs us→Vals zs ws→Vals (gV vs zs) (g us ws)
variable {g:List Value→List Value→List Value}{gV:List V→List V→List V}
end
structure FnScope (N P:List Str) (sc:Scope):Prop where
 kind:sc.kind = .function
 co:sc.isCoroutine=false
 gen:sc.isGenerator=false
 nd:N.Nodup
 pre:N.take P.length=P
 par:∀x∈P,sc.names.lookup x=some .local∨sc.names.lookup x=some .cell
 nofree:∀y∈sc.names,y.2 ≠ .free
theorem bindL_out {kindOf:Str→Option NameKind}{x:Str}:∀ {binds:List (Str×Value)}{m:Str→Option Value},(∀v,(x,v)∉binds)→bindL kindOf binds m x=m x
 | [],_,_=>rfl
 | (n,v) :: r,m,h=>by
  unfold bindL
  rw[bindL_out fun w hw=>h w (List.mem_cons_of_mem _ hw)]
  split
  ·have:x≠n:=by rintro rfl;exact h v List.mem_cons_self
   simp[this]
  ·rfl
theorem bindC_out {kindOf:Str→Option NameKind}{x:Str}:∀ {binds:List (Str×Value)}{m:Str→Option Value},(∀v,(x,v)∉binds)→bindC kindOf binds m x=m x
 | [],_,_=>rfl
 | (n,v) :: r,m,h=>by
  unfold bindC
  rw[bindC_out fun w hw=>h w (List.mem_cons_of_mem _ hw)]
  split
  ·rfl
  ·have:x≠n:=by rintro rfl;exact h v List.mem_cons_self
   simp[this]
theorem bindL_get {kindOf:Str→Option NameKind}{x:Str}{v:Value}:∀ {P:List Str}{vs:List Value}{i:Nat}{m:Str→Option Value},P.Nodup→P[i]? = some x→vs[i]? = some v→kindOf x=some .local →
  bindL kindOf (P.zip vs) m x=some v
 | [],_,_,_,_,h,_,_=>by simp at h
 | _ :: _,[],_,_,_,_,h,_=>by simp at h
 | p :: P,w :: vs,0,m,nd,h1,h2,hk=>by
  simp at h1 h2;subst h1;subst h2
  show bindL kindOf ((p,w) :: P.zip vs) m p=_
  unfold bindL
  rw[bindL_out fun v hv=>(List.nodup_cons.mp nd).1 (List.of_mem_zip hv).1,if_pos hk]
  simp
 | p :: P,w :: vs,i+1,m,nd,h1,h2,hk=>by
  show bindL kindOf ((p,w) :: P.zip vs) m x=_
  unfold bindL
  exact bindL_get (i:=i) (List.nodup_cons.mp nd).2 (by simpa using h1) (by simpa using h2) hk
theorem bindC_get {kindOf:Str→Option NameKind}{x:Str}{v:Value}:∀ {P:List Str}{vs:List Value}{i:Nat}{m:Str→Option Value},P.Nodup→P[i]? = some x→vs[i]? = some v→kindOf x≠some .local →
  bindC kindOf (P.zip vs) m x=some v
 | [],_,_,_,_,h,_,_=>by simp at h
 | _ :: _,[],_,_,_,_,h,_=>by simp at h
 | p :: P,w :: vs,0,m,nd,h1,h2,hk=>by
  simp at h1 h2;subst h1;subst h2
  show bindC kindOf ((p,w) :: P.zip vs) m p=_
  unfold bindC
  rw[bindC_out fun v hv=>(List.nodup_cons.mp nd).1 (List.of_mem_zip hv).1,if_neg hk]
  simp
 | p :: P,w :: vs,i+1,m,nd,h1,h2,hk=>by
  show bindC kindOf ((p,w) :: P.zip vs) m x=_
  unfold bindC
  exact bindC_get (i:=i) (List.nodup_cons.mp nd).2 (by simpa using h1) (by simpa using h2) hk
noncomputable def start (N:List Str)(vs:List V):St:=vs.map some ++ List.replicate (N.length - vs.length) none
noncomputable def cxOf (CX:CXT)(P:Program)(w:World)(K:PySem.W.Frag)(mg:Str→Option Value)(base:Heap)(N:List Str)(qual:Str)(scope:Scope)(f:Addr)(cd:Value)(A:Around)(outer:List Env)(s:Shared)(H:Hp)(E:XK):Cx where
 prog:=P
 w:=w
 K:=K
 mg:=mg
 base:=base
 A:=A.deeper (envOfC qual scope s.heap.objs.size f cd)
 N:=N
 s₀:=s
 H₀:=H
 env:=envOfC qual scope s.heap.objs.size f cd
 outer:=outer
 stack:=envOfC qual scope s.heap.objs.size f cd :: outer
 ex:=[]
 calm:=true
 fn:=fun _=>true
 pn:=[]
 xe:=fun e s'=>wpAny (model P w) (A.deeper (envOfC qual scope s.heap.objs.size f cd)) (leaving (envOfC qual scope s.heap.objs.size f cd) e) (fun _ s''=>CX outer H s E e s'') (fun e' s''=>CX outer H s E e' s'') s'
theorem cell_has {sc:Scope}{n:Nat}{x:Str}(h:sc.names.lookup x=some .cell):∃c,(cellsFrom n sc.names []).lookup x=some c:=by
 have q:=PySem.W.cellsFrom_some sc.names n [] (.inl h)
 exact Option.isSome_iff_exists.mp q
theorem inv_start {CX:CXT}{P:Program}{w:World}{K:PySem.W.Frag}{mg:Str→Option Value}{base:Heap}{N ps:List Str}{qual:Str}{scope:Scope}{f:Addr}{cd:Value}{A:Around}{outer:List Env}{s s1:Shared}{H:Hp}{E:XK}{us:List Value}{vs:List V}
  (S:FnScope N ps scope) (hd:A.handled=none) (e0:Env0 P w K mg base A outer s H) (hl:vs.length=ps.length) (r:Vals vs us)
  (x:InCallC s s.heap.objs.size (bindL (envOfC qual scope s.heap.objs.size f cd).kindOf (ps.zip us) fun _=>none) (cellsFrom (s.heap.objs.size+1) scope.names []) (bindC (envOfC qual scope s.heap.objs.size f cd).kindOf (ps.zip us) fun _=>none) s1) :
  Inv (cxOf CX P w K mg base N qual scope f cd A outer s H E) [] (start N vs) H s1:=by
 have hpl:ps.length≤N.length:=by have:=congrArg List.length S.pre;rw[List.length_take]at this;omega
 obtain⟨h1,tk,rfl,hk⟩:=x.done
 have noA:∀b:Addr,b∉(cxOf CX P w K mg base N qual scope f cd A outer s H E).ex:=fun b z=>absurd (show b∈([]:List Addr)from z) (by simp)
 refine⟨⟨e0.mod,S.kind,rfl,rfl,Nat.le_refl _,fun y z c h1 h2=>?_,fun y hy=>?_,fun y c _ h=>?_,fun _=>hd,Around.frames_deeper e0.frames,.inr ⟨rfl,rfl⟩,fun b z=>absurd z (noA b),e0.bs,e0.bsz,fun b _ _=>noA b,fun b z=>absurd z (noA b),e0.funs,e0.frf⟩,
  rfl,e0.bare,Un.kept hk,⟨_,x.toInCall.ns,fun i y v h1 h2 h3=>?_⟩,fun y c h=>⟨_,x.cell y c h⟩,e0.hok.fresh (Nat.le_refl _),fun y c h=>?_,fun p hp=>absurd (show p∈([]:List (Addr×Obj))from hp) (by simp),e0.hok.kept hk,?_⟩
 ·exact name_of_addr x.apart (PySem.mem_of_lookup h1) (PySem.mem_of_lookup h2)
 ·have hy:scope.names.lookup y=some .cell∨scope.names.lookup y=some .free:=hy
  rcases hy with hy |hy
  ·exact cell_has hy
  ·exact absurd rfl (S.nofree _ (PySem.mem_of_lookup hy))
 ·exact Nat.le_of_lt (x.above y c (PySem.mem_of_lookup h))
 ·have hi:i<vs.length:=by
   unfold start at h2
   by_cases hi:i<vs.length
   ·exact hi
   ·rw[List.getElem?_append_right (by simpa using hi)]at h2
    rw[List.getElem?_replicate]at h2
    split at h2 <;> cases h2
  have ha:vs[i]? = some v:=by
   unfold start at h2
   rw[List.getElem?_append_left (by simpa using hi),List.getElem?_map]at h2
   cases e:vs[i]? with
   | none=>rw[e]at h2;cases h2
   | some a=>rw[e]at h2;cases h2;rfl
  obtain⟨u,hu,rv⟩:=r.get ha
  have hp:ps[i]? = some y:=by
   rw[← S.pre,List.getElem?_take_of_lt (by omega)];exact h1
  have ndP:ps.Nodup:=by rw[← S.pre];exact S.nd.sublist (List.take_sublist _ _)
  refine⟨u,rv,?_⟩
  rcases S.par y (List.mem_of_getElem? hp)with k |k
  ·exact .inl ⟨k,bindL_get ndP hp hu k⟩
  ·obtain⟨c,e⟩:=cell_has (n:=s.heap.objs.size+1) k
   refine .inr ⟨.inl k,c,e,?_⟩
   have q:=x.cell y c e
   rw[bindC_get ndP hp hu (by show scope.names.lookup y≠_;rw[k];decide)]at q
   exact q
 ·exact e0.hok.fresh (Nat.le_of_lt (x.above y c (PySem.mem_of_lookup h)))
 ·unfold start
  show _=N.length
  rw[List.length_append,List.length_map,List.length_replicate]
  omega
theorem fn_of {CX:CXT}{P:Program}{w:World}{K:PySem.W.Frag}{mg:Str→Option Value}{base:Heap}{k:Nat}{f:Addr}{name qual:Str}{params:Arguments}{body:List Stmt}{scope:Scope}{dV kV doc pm cdv ct oc:Value}{an od:Option Addr}
  {osl:Array (Option Value)}{N ps:List Str}{sp:Sp}(lk:K.lookup f=some ⟨oc,od,.func (PySem.W.fnOf name qual params body scope dV kV doc pm an cdv ct),osl⟩) (hcd:PySem.W.codeIn K cdv qual=true) (S:FnScope N ps scope)
  (len:∀vs H Q E,sp vs H Q E→vs.length=ps.length)
  (hbody:∀(A:Around) (outer:List Env) (s:Shared) (H:Hp) (vs:List V) (Q:VK) (E:XK),Room k (A.deeper (envOfC qual scope s.heap.objs.size f cdv))→sp vs H Q E →
   ∃t,PSs (cxOf CX P w K mg base N qual scope f cdv A outer s H E) body t∧t { nx:=fun _ H'=>Q .non H',rt:=Q } (start N vs) H) :
  FnOk P w K mg base CX (k+1) f (PySem.W.fnOf name qual params body scope dV kV doc pm an cdv ct) ps sp:=by
 refine⟨len,fun A outer s H args us vs Q E hr e0 hb r hsp=>?_⟩
 have hl:=len _ _ _ _ hsp
 have KX:K.In s.heap:=e0.mod.kin.keeps fun b o e=>(e0.bs b o e).1
 have lim:s.heap.NoLimit:=e0.mod.nolimit.keeps fun b o e=>(e0.bs b o e).1
 have hkind:∀y∈ps.zip us,scope.names.lookup y.1=some .local∨(scope.names.lookup y.1=some .cell∧((cellsFrom (s.heap.objs.size+1) scope.names []).lookup y.1).isSome=true):=fun ⟨n,v⟩ hy=>by
  rcases S.par n (List.of_mem_zip hy).1 with q |q
  ·exact .inl q
  ·exact .inr ⟨q,PySem.W.cellsFrom_some _ _ _ (.inl q)⟩
 refine codeAny_call_function hr.depth (KX _ _ lk) rfl S.co S.gen rfl (PySem.W.codeRec_of KX hcd) (hb _ _ _ _ ?_)
 refine wpAny_newFunctionEnv_cells S.kind hkind fun env he s1 x=>?_
 subst he
 refine⟨lim.keeps x.toInCall.keep,codeAny_func ?_⟩
 obtain⟨t,ht,hq⟩:=hbody A outer s H vs Q E (hr.deeper _) hsp
 have I:Inv (cxOf CX P w K mg base N qual scope f cdv A outer s H E) [] (start N vs) H s1:=inv_start S hr.hd e0 hl r x
 refine wpAny_mono (ht [] s1 (start N vs) H _ I hq) (fun fl s' hs=>?_) fun e s' hs=>hs
 have fin:∀ {σ':St}{H':Hp}{v:V}{u:Value},Inv (cxOf CX P w K mg base N qual scope f cdv A outer s H E) [] σ' H' s'→RelV v u→Q v H'→CE outer P w H s Q u s' :=
  fun {σ' H' v u} J rv q=>⟨v,H',J.os,J.bare,J.base,J.hok,rv,q⟩
 cases fl with
 | ret u =>
  obtain⟨v,σ',H',J,rv,q⟩:=hs
  exact fin J rv q
 | next =>
  obtain⟨σ',H',J,q⟩:=hs
  exact fin (v:=V.non) (u:=Value.none) J rfl q
 | brk =>
  obtain⟨_,_,_,q⟩:=hs
  exact False.elim q
 | cont =>
  obtain⟨_,_,_,q⟩:=hs
  exact False.elim q
section
variable {X:Cx}{x:Str}{p pos:Pos}{e:Expr}{es:List Expr}{t:TA}{id T:String}{r:List V→Hp→VK→Prop}
noncomputable def tCB (r:List V→Hp→VK→Prop)(t:TA):TE:=fun σ H Q=>t σ H fun vs H1=>r vs H1 Q
theorem pe_callB (hc:CallR X (.builtin id) r)(hg:Gl X x)(hm:X.mg x=none)(hv:bootBuiltins x=some (.builtin id))(ha:PA X (e :: es) t)(hn:x ≠ "__name__":=by decide)(hdb:(x == ("__debug__":Str))=false:=by decide)
  (he:starEach (e :: es) X.env=(false,eval e X.env) :: starEach es X.env:=by rfl) (hpl:(backTo pos (starEach es X.env)).any (·.1)=false:=by rfl):PE X (.Call (.Name x p) (e :: es) [] pos) (tCB r t):=by
 intro pins s σ H Q I h
 refine wpAny_Call_Name_kw (ld_blt I hg hm hv ?_ hn hdb)
 exact PyProof.Rows.callWith_builtin1 (thn (ha pos pins s σ H _ I h) fun us s1 ⟨vs,H1,I1,r1,q1⟩=>hc pins s1 σ H1 vs us Q I1 r1 q1) he hpl
theorem pe_callTy (hc:CallR X (.type T) r)(hg:Gl X x)(hm:X.mg x=none)(hv:bootBuiltins x=some (.type T))(ha:PA X (e :: es) t)(hn:x ≠ "__name__":=by decide)(hdb:(x == ("__debug__":Str))=false:=by decide)
  (he:starEach (e :: es) X.env=(false,eval e X.env) :: starEach es X.env:=by rfl) (hpl:(backTo pos (starEach es X.env)).any (·.1)=false:=by rfl):PE X (.Call (.Name x p) (e :: es) [] pos) (tCB r t):=by
 intro pins s σ H Q I h
 refine wpAny_Call_Name_kw (ld_blt I hg hm hv ?_ hn hdb)
 exact PyProof.Rows.callWith_type1 (thn (ha pos pins s σ H _ I h) fun us s1 ⟨vs,H1,I1,r1,q1⟩=>hc pins s1 σ H1 vs us Q I1 r1 q1) he hpl
end
end L2
namespace HT
open PySem PyProof.Rows
section
open PySem.SeqAt
open PySem.AutoSeq1 (wpAny_loadPart')
open PySem.MeetsSeq PySem.MeetsSeq2 PySem.MeetsSeq3
end
section
variable {prog:Program}{w:World}{A:Around}{E:Value→Shared→Prop}{s:Shared}
theorem cat_tup {t b:Addr}{vs ws:List Value}{Q:Value→Shared→Prop}(ht:IsTup s.heap t vs.toArray)(hb:IsTup s.heap b ws.toArray)(hv:vs ≠ [])
  (h1:ws = []→Q (.ref t) s) (h2:ws ≠ []→Q (.ref s.heap.objs.size) { s with heap:=s.heap.push { cls:=.type "tuple",data:=.seq (vs ++ ws).toArray } })
  (hsz:vs.length+ws.length≤sizeLine):wpAny (model prog w) A (binaryOp .Add (.ref t) (.ref b)) Q E s:=by
 obtain⟨⟨cls,dd,data,sl⟩,ho,hc,n,hd⟩:=id ht
 obtain⟨⟨cls2,dd2,data2,sl2⟩,ho2,hc2,n2,hd2⟩:=id hb
 simp only at hc hd hc2 hd2
 subst hc hd hc2 hd2
 have e:vs.toArray ++ ws.toArray=(vs ++ ws).toArray:=by simp
 by_cases hw:ws = []
 ·exact concat_meets ⟨_,ho,rfl⟩ ⟨_,ho2,rfl⟩ noFill_tuple_add seq_tuple_add PySem.F.slot_tuple_add PySem.F.entry_tuple_add (PySem.F.args_tuple_add_2 _ _)
   (tuple_addW1 t b vs.toArray ws.toArray n n2 dd dd2 sl sl2 (by simpa using hv) (by simp[hw])) ⟨ho,ho2,h1 hw⟩
 ·refine concat_meets ⟨_,ho,rfl⟩ ⟨_,ho2,rfl⟩ noFill_tuple_add seq_tuple_add PySem.F.slot_tuple_add PySem.F.entry_tuple_add (PySem.F.args_tuple_add_2 _ _)
   (tuple_addW2 t b vs.toArray ws.toArray n n2 dd dd2 sl sl2 (by simpa using hv) (by simpa using hw) (by rw[List.size_toArray,List.size_toArray];exact hsz)) ⟨ho,ho2,?_⟩
  rw[e]
  exact h2 hw
noncomputable def sIx (n d:Nat):Option Int→Nat
 | none=>d
 | some v=>if v<0 then (v+(n:Int)).toNat else min v.toNat n
theorem sIx_none (n d:Nat):sIx n d none=d:=rfl
theorem sIx_nat (n d k:Nat):sIx n d (some (k:Int))=min k n:=by
 show (if (k:Int)<0 then ((k:Int)+(n:Int)).toNat else min (k:Int).toNat n)=min k n
 rw[if_neg (by omega),Int.toNat_natCast]
theorem sIx_le (n d:Nat)(hd:d≤n)(o:Option Int):sIx n d o≤n:=by
 cases o with
 | none=>exact hd
 | some v =>
  show (if v<0 then (v+(n:Int)).toNat else min v.toNat n)≤n
  by_cases hv:v<0
  ·rw[if_pos hv];omega
  ·rw[if_neg hv];exact Nat.min_le_right _ _
theorem clip_eq (v:Int)(n d:Nat):(if v<0 then max (v+(n:Int)) 0 else min v (n:Int))=((sIx n d (some v):Nat):Int):=by
 show (if v<0 then max (v+(n:Int)) 0 else min v (n:Int))=(((if v<0 then (v+(n:Int)).toNat else min v.toNat n):Nat):Int)
 by_cases hv:v<0
 ·simp only[if_pos hv];omega
 ·simp only[if_neg hv];omega
theorem adjust_gen (lo hi:Option Int)(n:Nat):Builtin.Slice.sliceAdjust lo hi 1 (n:Int)=(((sIx n 0 lo:Nat):Int),((sIx n n hi:Nat):Int)):=by
 have h1:¬ ((1:Int)<0):=by omega
 unfold Builtin.Slice.sliceAdjust
 simp only[h1,if_false]
 refine Prod.ext ?_ ?_
 ·cases lo with
  | none=>rfl
  | some v=>exact clip_eq v n 0
 ·cases hi with
  | none=>rfl
  | some v=>exact clip_eq v n n
theorem places_gen (i j:Nat):Builtin.Slice.slicePlaces (i:Int) (j:Int) 1=j - i:=by
  unfold Builtin.Slice.slicePlaces
  have h1:(1:Int) > 0:=by omega
  simp only [h1,if_true,Int.ediv_one]
  split <;> omega
theorem slicePart_ {v:Value}{o:Option Int}{Q:Option Int→Shared→Prop}(p:IsPart v o)(h:Q o s):wpAny (model prog w) A (Builtin.Slice.slicePartIndex v) Q E s:=by
 cases p with
 | none=>exact slicePart_none h
 | int i t=>exact slicePart_int h
theorem sliceApplied_gen {sl:Addr}{vl vu:Value}{lo hi:Option Int}{n:Nat}{Q:Int×Int×Nat→Shared→Prop}(hs:s.heap.IsSliceOf sl vl vu .none)(pl:IsPart vl lo)(pu:IsPart vu hi)
  (h:Q (((sIx n 0 lo:Nat):Int),1,sIx n n hi - sIx n 0 lo) s):wpAny (model prog w) A (Builtin.Slice.sliceApplied (.ref sl) (pure (n:Int))) Q E s:=by
 obtain⟨os,hos,hcs,hds⟩:=id hs
 unfold Builtin.Slice.sliceApplied Builtin.Slice.sliceFields
 refine wpAny_bind (wpAny_bind (wpAny_field hos hds (x:=vl) rfl (wpAny_bind (wpAny_field hos hds (x:=vu) rfl (wpAny_bind (wpAny_field hos hds (x:=.none) rfl (wpAny_pure ?_)))))))
 refine wpAny_bind (slicePart_none ?_)
 show wpAny _ _ (if ((1:Int) == 0)=true then _ else _) _ _ s
 rw[if_neg (by decide)]
 refine wpAny_bind (slicePart_ pl (wpAny_bind (slicePart_ pu (wpAny_bind (wpAny_pure ?_)))))
 show wpAny _ _ (match Builtin.Slice.sliceAdjust lo hi 1 (n:Int)with | (lo,hi)=>pure (lo,(1:Int),Builtin.Slice.slicePlaces lo hi 1)) _ _ s
 rw[adjust_gen lo hi n]
 show wpAny _ _ (pure (((sIx n 0 lo:Nat):Int),(1:Int),Builtin.Slice.slicePlaces ((sIx n 0 lo:Nat):Int) ((sIx n n hi:Nat):Int) 1)) _ _ s
 rw[places_gen]
 exact wpAny_pure h
theorem pick_gen (xs:Array Value)(i k:Nat):((List.range k).filterMap fun (m:Nat)=>xs[((i:Int)+(m:Int) * 1).toNat]?).toArray=((xs.toList.drop i).take k).toArray:=by
 have e:(fun (m:Nat)=>xs[((i:Int)+(m:Int) * 1).toNat]?)=fun m=>xs[i+m]?:=by
  funext m
  have:((i:Int)+(m:Int) * 1).toNat=i+m:=by omega
  rw[this]
 rw[e]
 have:=pick_run xs i k
 rw[List.filterMap_map]at this
 have e2:((fun x=>xs[x]?) ∘ fun x=>i+x)=fun m=>xs[i+m]?:=rfl
 rw[e2]at this
 rw[this]
theorem getItem_tuple_cut {t sl:Addr}{items:Array Value}{vl vu:Value}{lo hi:Option Int}{Q:Value→Shared→Prop}(ht:IsTup s.heap t items)(hs:s.heap.IsSliceOf sl vl vu .none)(pl:IsPart vl lo)(pu:IsPart vu hi)
  (hw:¬ (sIx items.size 0 lo=0∧sIx items.size items.size hi=items.size))
  (h:Q (.ref s.heap.objs.size) { s with heap:=s.heap.push { cls:=.type "tuple",data:=.seq ((items.toList.drop (sIx items.size 0 lo)).take (sIx items.size items.size hi - sIx items.size 0 lo)).toArray } })
  (hsz:items.size≤sizeLine):wpAny (model prog w) A (getItem (.ref t) (.ref sl)) Q E s:=by
 have htake:sizeOk (.seq ((items.toList.drop (sIx items.size 0 lo)).take (sIx items.size items.size hi - sIx items.size 0 lo)).toArray):=by
  show ((items.toList.drop (sIx items.size 0 lo)).take (sIx items.size items.size hi - sIx items.size 0 lo)).toArray.size≤sizeLine
  rw[List.size_toArray,List.length_take,List.length_drop,Array.length_toList]
  omega
 have hj:sIx items.size items.size hi≤items.size:=sIx_le _ _ (Nat.le_refl _) hi
 obtain⟨os,hos,hcs,hds⟩:=id hs
 have hTs:s.TypeIs (.ref sl) "slice":=⟨os,hos,hcs⟩
 unfold getItem
 try with_reducible refine wpAny_holding ?_
 first |refine wpAny_bind (wpAny_pure ?_) |skip
 refine wpAny_bind (wpAny_sequenceKey ht.typeIs (by decide) ?_)
 refine wpAny_bind (wpAny_callSpecial?_slot (name:=Str.ofString "__getitem__") ht.typeIs PyProof.Rows.slot_tuple_getitem
  (wpAny_call_entry PyProof.Rows.slot_tuple_getitem ht.typeIs entry_tuple_getitem ?_ (args_tuple_getitem _ _)))
 show wpAny _ _ (Builtin.Tuple.tupleItemsOf (.ref t) >>= _) _ _ s
 refine wpAny_bind (tupleItemsOf_ ht ?_)
 refine wpAny_bind (wpAny_typeOf hTs ?_)
 rw[if_pos (by decide)]
 refine wpAny_bind (sliceApplied_gen hs pl pu ?_)
 have hno:¬ ((((sIx items.size 0 lo:Nat):Int) == 0 && (1:Int) == 1 && (sIx items.size items.size hi - sIx items.size 0 lo) == items.size)=true):=by
  intro q
  rw[Bool.and_eq_true,Bool.and_eq_true]at q
  have q1:((sIx items.size 0 lo:Nat):Int)=0:=eq_of_beq q.1.1
  have q2:sIx items.size items.size hi - sIx items.size 0 lo=items.size:=eq_of_beq q.2
  exact hw ⟨by omega,by omega⟩
 show wpAny _ _ (if (((sIx items.size 0 lo:Nat):Int) == 0 && (1:Int) == 1 && (sIx items.size items.size hi - sIx items.size 0 lo) == items.size)=true then _ else _) _ _ s
 rw[if_neg hno,pick_gen]
 first
  | exact wpAny_bind (m:=Builtin.Tuple.tupleExact _) (wpAny_newObj_type (wpAny_pure ⟨_,rfl,wpAny_pure h⟩) htake)
  | exact wpAny_bind (m:=Builtin.Tuple.tupleExact _) (wpAny_newObj_type (wpAny_bind (wpAny_pure (wpAny_pure ⟨_,rfl,wpAny_pure h⟩))) htake)
  | exact wpAny_bind (wpAny_bind (m:=Builtin.Tuple.tupleExact _) (wpAny_newObj_type (wpAny_pure (wpAny_pure ⟨_,rfl,wpAny_pure h⟩)) htake))
  | exact wpAny_bind (wpAny_bind (m:=Builtin.Tuple.tupleExact _) (wpAny_newObj_type (wpAny_pure ⟨_,rfl,wpAny_pure h⟩) htake))
end
end HT
namespace L2
open PySem PySem.Spec PyProof.Rows
noncomputable abbrev TO:=St→Hp→(Option Int→Hp→Prop)→Prop
noncomputable def PO (X:Cx)(e:Option Expr)(t:TO):Prop :=
 ∀(pins:List (Addr×Obj)) (s:Shared) (σ:St) (H:Hp) (Q:Option Int→Hp→Prop),Inv X pins σ H s→t σ H Q →
  wpAny (model X.prog X.w) X.A (evalPart e X.env) (fun u s'=>∃o H',Inv X pins σ H' s'∧IsPart u o∧Q o H') X.xe s
noncomputable def tNoPart:TO:=fun _ H Q=>Q none H
noncomputable def tPart (t:TE):TO:=fun σ H Q=>t σ H fun x H1=>∃i,x = .int i∧Q (some i) H1
section
variable {X:Cx}{e:Expr}{te:TE}{lo hi:Option Expr}{tl th:TO}{pos p2:Pos}
theorem po_none:PO X none tNoPart:=by
 intro pins s σ H Q I h
 rw[evalPart_none]
 exact wpAny_pure ⟨none,H,I,.none,h⟩
theorem po_some (h:PE X e te):PO X (some e) (tPart te):=by
 intro pins s σ H Q I hw
 rw[evalPart_some]
 refine thn (h pins s σ H _ I hw) fun u s1 ⟨x,H1,I1,r1,q1⟩=>?_
 obtain⟨i,rfl,q⟩:=q1
 obtain⟨t,rfl⟩:=r1
 exact⟨some i,H1,I1,.int i t,q⟩
noncomputable def SlR (X:Cx)(r:V→Option Int→Option Int→Hp→VK→Prop):Prop :=
 ∀(pins:List (Addr×Obj)) (s:Shared) (σ:St) (H:Hp) (x:V) (v vl vu:Value) (lo hi:Option Int) (sl:Addr) (Q:VK),Inv X pins σ H s→RelV x v→s.heap.IsSliceOf sl vl vu .none→IsPart vl lo→IsPart vu hi→r x lo hi H Q →
  ∃T id,typeLookup (.type T) "__getitem__" = pure (some (.builtin id))∧s.TypeIs v T∧wpAny (model X.prog X.w) X.A (getItem v (.ref sl)) (EP X pins σ Q) X.xe s
noncomputable def tSl (r:V→Option Int→Option Int→Hp→VK→Prop)(te:TE)(tl th:TO):TE:=fun σ H Q=>te σ H fun x H1=>tl σ H1 fun l H2=>th σ H2 fun u H3=>r x l u H3 Q
theorem pe_slice {r:V→Option Int→Option Int→Hp→VK→Prop}(hr:SlR X r)(he:PE X e te)(hl:PO X lo tl)(hu:PO X hi th):PE X (.Subscript e (.Slice lo hi none p2) pos) (tSl r te tl th):=by
 intro pins s σ H Q I h
 refine Subscript_ (thn (he pins s σ H _ I h) fun v s1 ⟨x,H1,I1,r1,q1⟩=>?_)
 refine wpAny_Slice (thn (hl pins s1 σ H1 _ I1 q1) fun vl s2 ⟨l,H2,I2,pl,q2⟩=>thn (hu pins s2 σ H2 _ I2 q2) fun vu s3 ⟨u,H3,I3,pu,q3⟩=>?_)
 rw[evalPart_none]
 refine wpAny_pure ?_
 have I4:Inv X pins σ H3 { s3 with heap:=s3.heap.push { cls:=.type "slice",data:=.fields #[vl,vu,.none] } }:=I3.kept (t':=s3.toks) fun b ob q=>Heap.get?_push_of_some _ q
 obtain⟨T,id,hT,ht,hg⟩:=hr pins { s3 with heap:=s3.heap.push { cls:=.type "slice",data:=.fields #[vl,vu,.none] } } σ H3 x v vl vu l u s3.heap.objs.size Q I4 r1 (Heap.IsSliceOf.new ..) pl pu q3
 show wpAny (model X.prog X.w) X.A (subscriptTail e (.Slice lo hi none p2) v (.ref s3.heap.objs.size)) (EP X pins σ Q) X.xe { s3 with heap:=s3.heap.push { cls:=.type "slice",data:=.fields #[vl,vu,.none] } }
 exact tail_any (ops:=[.ref s3.heap.objs.size,v]) ht hT hg (by with_unfolding_all rfl)
noncomputable def cutV (xs:List V)(lo hi:Option Int):List V:=(xs.drop (HT.sIx xs.length 0 lo)).take (HT.sIx xs.length xs.length hi - HT.sIx xs.length 0 lo)
theorem cutV_length (xs:List V)(lo hi:Option Int):(cutV xs lo hi).length≤xs.length:=by
 unfold cutV
 rw[List.length_take,List.length_drop]
 omega
noncomputable def rSlT (K:PySem.W.Frag):V→Option Int→Option Int→Hp→VK→Prop:=fun x lo hi H Q=>∃a xs,x = .ref a∧SqT K H a xs ∧
 ¬ (HT.sIx xs.length 0 lo=0∧HT.sIx xs.length xs.length hi=xs.length)∧∀p,H p=none→Q (.ref p) (upd H p (.tup (cutV xs lo hi)))
theorem sl_tup:SlR X (rSlT X.K):=by
 intro pins s σ H x v vl vu lo hi sl Q I rx hs pl pu h
 obtain⟨a,xs,rfl,hx,hw,q⟩:=h
 cases rx
 obtain⟨its,r,ht,hz⟩:=I.tuple hx
 have hlen:its.toArray.size=xs.length:=by rw[List.size_toArray];exact r.length.symm
 refine⟨"tuple",_,PyProof.Rows.slot_tuple_getitem.lookup,ht.typeIs,?_⟩
 refine HT.getItem_tuple_cut ht hs pl pu (by rw[hlen];exact hw) ?_ (by rw[hlen];exact hz)
 rw[hlen]
 refine⟨.ref s.heap.objs.size,_,I.laid (t':=s.toks) (o:=.tup (cutV xs lo hi)) (fun b ob q=>Heap.get?_push_of_some _ q) (Nat.le_refl _) ?_,rfl,q _ (I.hok.fresh (Nat.le_refl _))⟩
 exact⟨Nat.le_trans (cutV_length xs lo hi) hz,_,(r.drop (HT.sIx xs.length 0 lo)).take (HT.sIx xs.length xs.length hi - HT.sIx xs.length 0 lo),IsTup.new _ _⟩
noncomputable def rCatT (K:PySem.W.Frag):R2:=fun x y H Q=>∃a b xs ys,x = .ref a∧y = .ref b∧SqT K H a xs∧SqT K H b ys∧xs ≠ []∧xs.length+ys.length≤sizeLine ∧
 (ys = []→Q (.ref a) H)∧(ys ≠ []→∀p,H p=none→Q (.ref p) (upd H p (.tup (xs ++ ys))))
theorem Vals.nil_iff {xs:List V}{us:List Value}(r:Vals xs us):us = []↔xs = []:=by
 cases r with
 | nil=>simp
 | cons _ _=>simp
theorem op_catT:OpR X (binaryOp .Add) (rCatT X.K):=by
 intro pins s σ H x y v u Q I rx ry h
 obtain⟨a,b,xs,ys,rfl,rfl,ha,hb,hx,hz,q1,q2⟩:=h
 cases rx
 cases ry
 obtain⟨its,r1,p1,_⟩:=I.tuple ha
 obtain⟨its2,r2,p2,_⟩:=I.tuple hb
 refine HT.cat_tup p1 p2 (fun z=>hx (r1.nil_iff.mp z)) (fun z=>⟨.ref a,H,I,rfl,q1 (r2.nil_iff.mp z)⟩) (fun z=>?_) (by rw[← r1.length,← r2.length];exact hz)
 refine⟨.ref s.heap.objs.size,_,I.laid (t':=s.toks) (o:=.tup (xs ++ ys)) (fun b ob q=>Heap.get?_push_of_some _ q) (Nat.le_refl _) ?_,rfl,q2 (fun w=>z (r2.nil_iff.mpr w)) _ (I.hok.fresh (Nat.le_refl _))⟩
 exact⟨by rw[List.length_append];exact hz,_,r1.append r2,IsTup.new _ _⟩
end
noncomputable def ixN (n:Nat)(i:Int):Option Nat:=if 0≤i then (if i<n then some i.toNat else none) else if -(n:Int)≤i then some (i+n).toNat else none
noncomputable def atI {α:Type}(xs:List α)(i:Int):Option α:=(ixN xs.length i).bind fun j=>xs[j]?
theorem ixN_seq {n:Nat}{i:Int}{j:Nat}(h:ixN n i=some j):seqIndex? i n=some j∧j<n∧-(n:Int)≤i∧i<n:=by
 unfold ixN at h
 by_cases h0:0≤i
 ·rw[if_pos h0]at h
  by_cases h1:i<n
  ·rw[if_pos h1]at h
   have e:i.toNat=j:=Option.some.inj h
   exact⟨by rw[seqIndex_of h0 h1,e],by omega,by omega,h1⟩
  ·rw[if_neg h1]at h;cases h
 ·rw[if_neg h0]at h
  by_cases h1:-(n:Int)≤i
  ·rw[if_pos h1]at h
   have e:(i+n).toNat=j:=Option.some.inj h
   exact⟨by rw[seqIndex_neg (by omega) h1,e],by omega,h1,by omega⟩
  ·rw[if_neg h1]at h;cases h
theorem atI_get {α:Type}{xs:List α}{i:Int}{v:α}(h:atI xs i=some v):∃j,seqIndex? i xs.length=some j∧xs[j]? = some v∧j<xs.length∧-(xs.length:Int)≤i∧i<xs.length:=by
 unfold atI at h
 cases e:ixN xs.length i with
 | none=>rw[e]at h;cases h
 | some j =>
  rw[e]at h
  obtain⟨h1,h2,h3,h4⟩:=ixN_seq e
  exact⟨j,h1,h,h2,h3,h4⟩
theorem atI_nat {α:Type}{xs:List α}{j:Nat}{v:α}(h:xs[j]? = some v):atI xs (j:Int)=some v:=by
 have hj:j<xs.length:=(List.getElem?_eq_some_iff.mp h).1
 have e:ixN xs.length (j:Int)=some j:=by
  unfold ixN
  rw[if_pos (by omega),if_pos (by omega)];simp
 unfold atI;rw[e];exact h
noncomputable def PlainIx (b:Expr):Prop:=∀o i,subscripted b false o i=operate [o,i] (getItem o i)
noncomputable def IxR (X:Cx)(r:R2):Prop :=
 ∀(value slice:Expr) (pins:List (Addr×Obj)) (s:Shared) (σ:St) (H:Hp) (x y:V) (v u:Value) (Q:VK),Inv X pins σ H s→RelV x v→RelV y u→r x y H Q →
  subscripted slice false v u=operate [v,u] (getItem v u)→wpAny (model X.prog X.w) X.A (subscriptTail value slice v u) (EP X pins σ Q) X.xe s
noncomputable def MtR (X:Cx)(id:String)(r:V→List V→Hp→VK→Prop):Prop :=
 ∀(pins:List (Addr×Obj)) (s:Shared) (σ:St) (H:Hp) (x:V) (xs:List V) (v:Value) (us:List Value) (Q:VK),Inv X pins σ H s→RelV x v→Vals xs us→r x xs H Q →
  wpAny (model X.prog X.w) X.A (call (.builtin id) (v :: us)) (EP X pins σ Q) X.xe s
section
variable {X:Cx}{a b:Expr}{ta tb:TE}{pos:Pos}
theorem pe_ix {r:R2}(hr:IxR X r)(ha:PE X a ta)(hb:PE X b tb)(hs:PlainIx b):PE X (.Subscript a b pos) (tOp r ta tb):=by
 intro pins s σ H Q I h
 exact Subscript_ (binT ha hb I h fun v u s2 x y H2 I2 rx ry q=>hr a b pins s2 σ H2 x y v u Q I2 rx ry q (hs _ _))
noncomputable def rIxL (K:PySem.W.Frag):R2:=fun x y H Q=>∃p xs i v,x = .ref p∧y = .int i∧SqL K H p xs∧atI xs i=some v∧Q v H
noncomputable def rIxT (K:PySem.W.Frag):R2:=fun x y H Q=>∃p xs i v,x = .ref p∧y = .int i∧SqT K H p xs∧atI xs i=some v∧Q v H
theorem ix_list:IxR X (rIxL X.K):=by
 intro value slice pins s σ H x y v u Q I rx ry h hs
 obtain⟨p,xs,i,z,rfl,rfl,hq,he,q⟩:=h
 cases rx
 obtain⟨t,rfl⟩:=ry
 obtain⟨its,r,pl,hz⟩:=I.list hq
 obtain⟨j,h1,h2,h3,h4,h5⟩:=atI_get he
 obtain⟨w,ew,rw'⟩:=r.get h2
 have hl:=r.length
 have hn:=line63
 have fin:EP X pins σ Q w s:=⟨z,H,I,rw',q⟩
 by_cases h0:0≤i
 ·have hj:i.toNat=j:=by
   rw[seqIndex_of h0 h5]at h1
   exact Option.some.inj h1
  exact item_listR pl.isList h0 (by omega) (by rw[hj];simpa using ew) fin hs
 ·have hj:(i+(its.toArray.size:Int)).toNat=j:=by
   rw[seqIndex_neg (by omega) h4]at h1
   rw[List.size_toArray,← hl]
   exact Option.some.inj h1
  exact subscriptTail_builtinR (x:=w) pl.isList.typeIs slot_list_getitem.lookup
   (wpAny_getItem_list_neg (Q:=fun r s'=>r=w∧EP X pins σ Q r s') pl.isList (by omega) (by rw[List.size_toArray] <;> omega) (by omega) (by rw[hj];simpa using ew) ⟨rfl,fin⟩) hs
theorem ix_tup:IxR X (rIxT X.K):=by
 intro value slice pins s σ H x y v u Q I rx ry h hs
 obtain⟨p,xs,i,z,rfl,rfl,hq,he,q⟩:=h
 cases rx
 obtain⟨t,rfl⟩:=ry
 obtain⟨its,r,pl,hz⟩:=I.tuple hq
 obtain⟨j,h1,h2,h3,h4,h5⟩:=atI_get he
 obtain⟨w,ew,rw'⟩:=r.get h2
 have hl:=r.length
 have hn:=line63
 have fin:EP X pins σ Q w s:=⟨z,H,I,rw',q⟩
 exact subscriptTail_builtinR (x:=w) pl.typeIs slot_tuple_getitem.lookup
  (getItem_tuple (j:=j) (Q:=fun r s'=>r=w∧EP X pins σ Q r s') pl (by omega) (by omega) (by rw[List.size_toArray,← hl];exact h1) (by simpa using ew) ⟨rfl,fin⟩) hs
theorem mapSeq_set (its:List Value)(n j:Nat)(u:Value):Obj.mapSeq (·.setIfInBounds j u) { cls:=.type "list",data:=.seq its.toArray n } = { cls:=.type "list",data:=.seq (its.set j u).toArray n }:=by
 simp[Obj.mapSeq]
theorem Inv.lst {pins:List (Addr×Obj)}{σ:St}{H:Hp}{s:Shared}{p:Addr}{xs:List V}(I:Inv X pins σ H s)(h:H p=some (.lst xs)) :
  ∃(its:List Value) (n:Nat),Vals xs its∧s.heap.get? p=some { cls:=.type "list",data:=.seq its.toArray n }∧xs.length≤sizeLine:=by
 obtain⟨z,its,n,r,e⟩:=I.hok p _ h
 exact⟨its,n,r,e,z⟩
theorem Inv.lstUpd {pins:List (Addr×Obj)}{σ:St}{H:Hp}{s:Shared}{p:Addr}{xs ys:List V}{its its':List Value}{n n':Nat}{f:Obj→Obj}(I:Inv X pins σ H s)(h:H p=some (.lst xs))
  (ho:s.heap.get? p=some { cls:=.type "list",data:=.seq its.toArray n }) (hf:f { cls:=.type "list",data:=.seq its.toArray n } = { cls:=.type "list",data:=.seq its'.toArray n' }) (r:Vals ys its') (hz:ys.length≤sizeLine) (t:Nat) :
  Inv X pins σ (upd H p (.lst ys)) { s with heap:=s.heap.update p f,toks:=t }:=by
 have e:(s.heap.update p f).get? p=some { cls:=.type "list",data:=.seq its'.toArray n' }:=by
  rw[Heap.get?_update_self f ho (by rw[hf] <;> rfl),hf]
 refine I.write (x:=p) (e:=p) (by rw[h];trivial) (.inl rfl) (fun b u hb q=>(Heap.get?_update_other _ _ (Ne.symm hb)).trans q) ⟨_,e⟩ ?_
 exact⟨hz,its',n',r,e⟩
noncomputable def rSetL:V→V→V→Hp→(Hp→Prop)→Prop:=fun o i v H Q=>∃p xs k j,o = .ref p∧i = .int k∧H p=some (.lst xs)∧ixN xs.length k=some j∧Q (upd H p (.lst (xs.set j v)))
theorem set_list:PSet X rSetL:=by
 intro pins s σ H o i v ov iv u Q I ro ri rv h
 obtain⟨p,xs,k,j,rfl,rfl,hp,hj,q⟩:=h
 cases ro
 obtain⟨t,rfl⟩:=ri
 obtain⟨its,n,r,ho,hz⟩:=I.lst hp
 obtain⟨h1,h2,h3,h4⟩:=ixN_seq hj
 have hl:=r.length
 have hn:=line63
 have I':Inv X pins σ (upd H p (.lst (xs.set j v))) { s with heap:=s.heap.update p (Obj.mapSeq (·.setIfInBounds j u)) } :=
  I.lstUpd hp ho (mapSeq_set its n j u) (r.set rv j) (by rw[List.length_set];exact hz) s.toks
 by_cases h0:0≤k
 ·have hk:k.toNat=j:=by
   rw[seqIndex_of h0 h4]at h1
   exact Option.some.inj h1
  exact PySem.W.ki_setAt ho h0 (by omega) (by rw[List.size_toArray,← hl];exact h4) (by rw[hk];exact⟨_,I',q⟩)
 ·have hk:(k+(its.toArray.size:Int)).toNat=j:=by
   rw[seqIndex_neg (by omega) h3]at h1
   rw[List.size_toArray,← hl]
   exact Option.some.inj h1
  exact PySem.W.ki_setBack ho (by omega) (by rw[List.size_toArray,← hl];exact h3) (by omega) (by rw[hk];exact⟨_,I',q⟩)
theorem slice_bounds (lo hi:Option Int)(n:Nat):(sliceBounds lo hi none n).1=((HT.sIx n 0 lo:Nat):Int)∧(sliceBounds lo hi none n).2.1=((HT.sIx n n hi:Nat):Int)∧(sliceBounds lo hi none n).2.2=1:=by
 refine⟨?_,?_,rfl⟩
 ·cases lo with
  | none=>simp[sliceBounds,HT.sIx]
  | some i =>
   simp only[sliceBounds,HT.sIx,Option.getD_none,show (1:Int) > 0 by decide,if_true]
   by_cases h:i<0
   ·simp only[h,if_true] <;> omega
   ·simp only[h,if_false] <;> omega
 ·cases hi with
  | none=>simp[sliceBounds,HT.sIx]
  | some i =>
   simp only[sliceBounds,HT.sIx,Option.getD_none,show (1:Int) > 0 by decide,if_true]
   by_cases h:i<0
   ·simp only[h,if_true] <;> omega
   ·simp only[h,if_false] <;> omega
theorem slicePick_cut (its:List Value)(lo hi:Option Int):slicePick its.toArray lo hi none=((its.drop (HT.sIx its.length 0 lo)).take (HT.sIx its.length its.length hi - HT.sIx its.length 0 lo)).toArray:=by
 obtain⟨h1,h2,h3⟩:=slice_bounds lo hi its.toArray.size
 unfold slicePick
 rw[h1,h2,h3]
 simp only[sliceRange_one,pick_run,List.size_toArray] <;> rfl
noncomputable def rSlL (K:PySem.W.Frag):V→Option Int→Option Int→Hp→VK→Prop:=fun x lo hi H Q=>∃a xs,x = .ref a∧SqL K H a xs∧∀p,H p=none→Q (.ref p) (upd H p (.lst (cutV xs lo hi)))
theorem sl_list:SlR X (rSlL X.K):=by
 intro pins s σ H x v vl vu lo hi sl Q I rx hs pl pu h
 obtain⟨a,xs,rfl,hx,q⟩:=h
 cases rx
 obtain⟨its,r,ht,hz⟩:=I.list hx
 have hlen:=r.length
 refine⟨"list",_,slot_list_getitem.lookup,ht.isList.typeIs,?_⟩
 refine wpAny_getItem_list_slice ht.isList hs pl pu .none (by simp) ?_ (by rw[List.size_toArray] <;> omega)
 rw[slicePick_cut,← hlen]
 refine⟨.ref s.heap.objs.size,_,I.laid (t':=s.toks) (o:=.lst (cutV xs lo hi)) (fun b ob q=>Heap.get?_push_of_some _ q) (Nat.le_refl _) ?_,rfl,q _ (I.hok.fresh (Nat.le_refl _))⟩
 exact⟨Nat.le_trans (cutV_length xs lo hi) hz,_,0,(r.drop (HT.sIx xs.length 0 lo)).take (HT.sIx xs.length xs.length hi - HT.sIx xs.length 0 lo),Heap.get?_push_size _ rfl⟩
noncomputable def flatV:V→Bool
 | .non=>true
 | .bl _=>true
 | .int _=>true
 | .str _=>true
 | _=>false
noncomputable def eqV:V→V→Bool
 | .non,.non=>true
 | .bl a,.bl b=>a == b
 | .bl a,.int b=>(if a then 1 else 0) == b
 | .int a,.bl b=>a == (if b then 1 else 0)
 | .int a,.int b=>a == b
 | .str a,.str b=>a == b
 | _,_=>false
theorem eqAt_V {A:Around}{s:Shared}{y x:V}{u v:Value}(ry:RelV y u)(rx:RelV x v)(fy:flatV y=true)(fx:flatV x=true):SeqAt.EqAt A s u v (eqV y x):=by
 cases y with
 | non =>
  cases ry
  cases x with
  | non=>cases rx;exact SeqAt.EqAt.same _
  | bl b=>cases rx;exact SeqAt.EqAt.none_bool b
  | int b=>obtain⟨t,rfl⟩:=rx;exact SeqAt.EqAt.none_int b t
  | str b=>obtain⟨t,rfl⟩:=rx;exact SeqAt.EqAt.none_str b t
  | _=>exact absurd (show false=true from fx) Bool.false_ne_true
 | bl a =>
  cases ry
  cases x with
  | non=>cases rx;exact SeqAt.EqAt.bool_none a
  | bl b=>cases rx;exact SeqAt.EqAt.bool_bool a b
  | int b=>obtain⟨t,rfl⟩:=rx;exact SeqAt.EqAt.bool_int a b t
  | str b=>obtain⟨t,rfl⟩:=rx;exact SeqAt.EqAt.bool_str a b t
  | _=>exact absurd (show false=true from fx) Bool.false_ne_true
 | int a =>
  obtain⟨t',rfl⟩:=ry
  cases x with
  | non=>cases rx;exact SeqAt.EqAt.int_none a t'
  | bl b=>cases rx;exact SeqAt.EqAt.int_bool a t' b
  | int b=>obtain⟨t,rfl⟩:=rx;exact SeqAt.EqAt.int_int a t' b t
  | str b=>obtain⟨t,rfl⟩:=rx;exact SeqAt.EqAt.int_str a t' b t
  | _=>exact absurd (show false=true from fx) Bool.false_ne_true
 | str a =>
  obtain⟨t',rfl⟩:=ry
  cases x with
  | non=>cases rx;exact SeqAt.EqAt.str_none a t'
  | bl b=>cases rx;exact SeqAt.EqAt.str_bool a t' b
  | int b=>obtain⟨t,rfl⟩:=rx;exact SeqAt.EqAt.str_int a t' b t
  | str b=>obtain⟨t,rfl⟩:=rx;exact SeqAt.EqAt.str_str a t' b t
  | _=>exact absurd (show false=true from fx) Bool.false_ne_true
 | _=>exact absurd (show false=true from fy) Bool.false_ne_true
noncomputable def eqU (x:V)(u:Value):Bool:=match u with
 | .none=>eqV .non x
 | .bool b=>eqV (.bl b) x
 | .int i _=>eqV (.int i) x
 | .str z _=>eqV (.str z) x
 | _=>false
theorem eqU_of {x y:V}{u:Value}(r:RelV y u)(f:flatV y=true):eqU x u=eqV y x:=by
 cases y with
 | non=>cases r;rfl
 | bl b=>cases r;rfl
 | int i=>obtain⟨t,rfl⟩:=r;rfl
 | str z=>obtain⟨t,rfl⟩:=r;rfl
 | _=>exact absurd (show false=true from f) Bool.false_ne_true
theorem any_eqU {x:V}:∀ {xs:List V}{us:List Value},Vals xs us→xs.all flatV=true→us.any (eqU x)=xs.any fun y=>eqV y x
 | _,_,.nil,_=>rfl
 | y :: xs,u :: us,.cons r t,f=>by
  rw[List.all_cons,Bool.and_eq_true]at f
  rw[List.any_cons,List.any_cons,eqU_of r f.1,any_eqU t f.2]
theorem mem_eqAt {A:Around}{s:Shared}{x:V}{v:Value}(rx:RelV x v)(fx:flatV x=true):∀ {xs:List V}{us:List Value},Vals xs us→xs.all flatV=true→∀u∈us,SeqAt.EqAt A s u v (eqU x u)
 | _,_,.nil,_=>fun u hu=>by cases hu
 | y :: xs,u :: us,.cons r t,f=>fun u' hu=>by
  rw[List.all_cons,Bool.and_eq_true]at f
  rcases List.mem_cons.mp hu with rfl |hu
  ·rw[eqU_of r f.1];exact eqAt_V r rx f.1 fx
  ·exact mem_eqAt rx fx t f.2 u' hu
noncomputable def inV (x:V)(xs:List V):Bool:=xs.any fun y=>eqV y x
noncomputable def rIn (K:PySem.W.Frag)(neg:Bool):R2:=fun x y H Q=>∃p xs,y = .ref p∧(SqL K H p xs∨SqT K H p xs)∧flatV x=true∧xs.all flatV=true∧Q (.bl (if neg then !inV x xs else inV x xs)) H
theorem op_in_seq:OpR X (compareOp .In) (rIn X.K false):=by
 intro pins s σ H x y v u Q I rx ry h
 obtain⟨p,xs,rfl,hq,fx,fs,q⟩:=h
 cases ry
 rcases hq with hq |hq
 ·obtain⟨its,r,pl,hz⟩:=I.list hq
  refine SeqAt.in_listAt (eqU x) pl.isList (fun w hw=>mem_eqAt rx fx r fs w (by simpa using hw)) ⟨.bl _,H,I,rfl,?_⟩
  rw[show its.toArray.any (eqU x)=its.any (eqU x)by simp,any_eqU r fs]
  exact q
 ·obtain⟨its,r,pl,hz⟩:=I.tuple hq
  refine SeqAt.in_tupleAt (eqU x) pl (fun w hw=>mem_eqAt rx fx r fs w (by simpa using hw)) ⟨.bl _,H,I,rfl,?_⟩
  rw[show its.toArray.any (eqU x)=its.any (eqU x)by simp,any_eqU r fs]
  exact q
theorem op_notIn_seq:OpR X (compareOp .NotIn) (rIn X.K true):=by
 intro pins s σ H x y v u Q I rx ry h
 obtain⟨p,xs,rfl,hq,fx,fs,q⟩:=h
 cases ry
 rcases hq with hq |hq
 ·obtain⟨its,r,pl,hz⟩:=I.list hq
  refine SeqAt.notIn_listAt (eqU x) pl.isList (fun w hw=>mem_eqAt rx fx r fs w (by simpa using hw)) ⟨.bl _,H,I,rfl,?_⟩
  rw[show its.toArray.any (eqU x)=its.any (eqU x)by simp,any_eqU r fs]
  exact q
 ·obtain⟨its,r,pl,hz⟩:=I.tuple hq
  refine SeqAt.notIn_tupleAt (eqU x) pl (fun w hw=>mem_eqAt rx fx r fs w (by simpa using hw)) ⟨.bl _,H,I,rfl,?_⟩
  rw[show its.toArray.any (eqU x)=its.any (eqU x)by simp,any_eqU r fs]
  exact q
theorem call_len_seq:CallR X (.builtin "len") (fun xs H Q=>∃p ys,xs = [.ref p]∧(SqL X.K H p ys∨SqT X.K H p ys)∧Q (.int ys.length) H):=by
 intro pins s σ H xs us Q I r h
 obtain⟨p,ys,rfl,hq,q⟩:=h
 obtain⟨u,rfl,rx⟩:=vals1 r
 cases rx
 have hn:=line63
 rcases hq with hq |hq
 ·obtain⟨its,r',pl,hz⟩:=I.list hq
  have hlen:=r'.length
  exact Calls.call_len_list pl.isList (by simp only[List.size_toArray] <;> omega) ⟨.int ys.length,H,I.tok _,⟨s.toks+1,by rw[List.size_toArray,hlen]⟩,q⟩
 ·obtain⟨its,r',pl,hz⟩:=I.tuple hq
  have hlen:=r'.length
  exact len_tuple pl (by simp only[List.size_toArray] <;> omega) ⟨.int ys.length,H,I.tok _,⟨s.toks+1,by rw[List.size_toArray,hlen]⟩,q⟩
theorem call_list_of:CallR X (.type "list") (fun xs H Q=>∃p ys,xs = [.ref p]∧(SqL X.K H p ys∨SqT X.K H p ys)∧∀l,H l=none→Q (.ref l) (upd H l (.lst ys))):=by
 intro pins s σ H xs us Q I r h
 obtain⟨p,ys,rfl,hq,q⟩:=h
 obtain⟨u,rfl,rx⟩:=vals1 r
 cases rx
 have fin:∀(its:List Value),Vals ys its→ys.length≤sizeLine→∀(h':Heap) (c':Nat),(∀b o',s.heap.get? b=some o'→h'.get? b=some o') →
   h'.get? s.heap.objs.size=some { cls:=.type "list",dict:=none,data:=.seq its.toArray c',slots:=#[] }→EP X pins σ Q (.ref s.heap.objs.size) { s with heap:=h' }:=fun its r' hz h' c' kp e =>
  ⟨.ref s.heap.objs.size,_,I.laid (t':=s.toks) kp (Nat.le_refl _) (show ObjOk X.prog X.w _ h' _ (.lst ys)from ⟨hz,its,c',r',e⟩),rfl,q _ (I.hok.fresh (Nat.le_refl _))⟩
 rcases hq with hq |hq
 ·obtain⟨its,r',pl,hz⟩:=I.list hq
  have hlen:=r'.length
  obtain⟨o,ho,hc,n,hd⟩:=pl.isList
  exact call_list_seq p (.inl rfl) ho hc hd (fun h' c' kp e=>fin its r' hz h' c' kp e) (by simp only[List.size_toArray] <;> omega)
 ·obtain⟨its,r',pl,hz⟩:=I.tuple hq
  have hlen:=r'.length
  obtain⟨o,ho,hc,n,hd⟩:=pl
  exact call_list_seq p (.inr rfl) ho hc hd (fun h' c' kp e=>fin its r' hz h' c' kp e) (by simp only[List.size_toArray] <;> omega)
theorem call_tuple_of:CallR X (.type "tuple") (fun xs H Q=>∃p ys,xs = [.ref p]∧((SqL X.K H p ys∧∀l,H l=none→Q (.ref l) (upd H l (.tup ys)))∨(SqT X.K H p ys∧Q (.ref p) H))):=by
 intro pins s σ H xs us Q I r h
 obtain⟨p,ys,rfl,h⟩:=h
 obtain⟨u,rfl,rx⟩:=vals1 r
 cases rx
 rcases h with ⟨hq,q⟩ | ⟨hq,q⟩
 ·obtain⟨its,r',pl,hz⟩:=I.list hq
  have hlen:=r'.length
  refine call_tuple_list pl.isList (fun h' kp=>?_) (by simp only[List.size_toArray] <;> omega)
  have I1:Inv X pins σ H { s with heap:=h' }:=I.kept (t':=s.toks) kp
  have I2:Inv X pins σ (upd H h'.objs.size (.tup ys)) { s with heap:=h'.push { cls:=.type "tuple",data:=.seq its.toArray } } :=
   I1.laid (t':=s.toks) (fun b o e=>Heap.get?_push_of_some _ e) (Nat.le_refl _) (show ObjOk X.prog X.w _ _ _ (.tup ys)from ⟨hz,its,r',IsTup.new _ _⟩)
  exact⟨.ref h'.objs.size,_,I2,rfl,q _ (I1.hok.fresh (Nat.le_refl _))⟩
 ·obtain⟨its,r',pl,hz⟩:=I.tuple hq
  exact call_tuple_same pl ⟨.ref p,H,I,rfl,q⟩
variable {o e:Expr}{es:List Expr}{to:TE}{t:TA}{name:Str}{apos cpos:Pos}{T id:String}{r:V→List V→Hp→VK→Prop}
/- xs.append(e),list.index on a module's tuple .. are MtR facts of 06m -/
end
noncomputable def MtM (X:Cx)(id:String)(r:V→List V→Hp→VK→Prop):Prop :=
 ∀(pins:List (Addr×Obj)) (s:Shared) (σ:St) (H:Hp) (x:V) (xs:List V) (v:Value) (us:List Value) (Q:VK),Inv X pins σ H s→RelV x v→Vals xs us→r x xs H Q →
  wpAny (model X.prog X.w) X.A (call (.builtin id) (v :: us)) (EP X pins σ Q) X.xe s
theorem Vals.one:∀ {x:V}{us:List Value},Vals [x] us→∃u,us = [u]∧RelV x u
 | _,_,.cons r .nil=>⟨_,rfl,r⟩
theorem Vals.zero:∀ {us:List Value},Vals [] us→us = []
 | _,.nil=>rfl
theorem Vals.dropLast {xs:List V}{us:List Value}(h:Vals xs us):Vals xs.dropLast us.dropLast:=by
 induction h with
 | nil=>exact .nil
 | cons r t ih =>
  cases t with
  | nil=>exact .nil
  | cons q t'=>exact .cons r ih
theorem Vals.eraseIdx:∀ {xs:List V}{us:List Value}(i:Nat),Vals xs us→Vals (xs.eraseIdx i) (us.eraseIdx i)
 | _,_,_,.nil=>.nil
 | _,_,0,.cons _ t=>t
 | _,_,i+1,.cons r t=>.cons r (Vals.eraseIdx i t)
theorem Vals.reverse {xs:List V}{us:List Value}(h:Vals xs us):Vals xs.reverse us.reverse:=by
 induction h with
 | nil=>exact .nil
 | cons r t ih=>rw[List.reverse_cons,List.reverse_cons];exact Vals.append ih (.cons r .nil)
theorem Vals.rep {xs:List V}{us:List Value}(h:Vals xs us):∀k:Nat,Vals (List.replicate k xs).flatten (List.replicate k us).flatten
 | 0=>.nil
 | k+1=>by
  rw[List.replicate_succ,List.replicate_succ,List.flatten_cons,List.flatten_cons]
  exact Vals.append h (Vals.rep h k)
theorem foldl_rep (its:List Value):∀(k:Nat)(acc:List Value),
  List.foldl (fun x1 x2=>x1 ++ x2) acc.toArray (List.replicate k its.toArray)=(acc ++ (List.replicate k its).flatten).toArray
 | 0,acc=>by simp
 | k+1,acc=>by
  have e:acc.toArray ++ its.toArray=(acc ++ its).toArray:=by simp
  have e2:(acc ++ its) ++ (List.replicate k its).flatten=acc ++ (List.replicate (k+1) its).flatten:=by
   rw[List.replicate_succ,List.flatten_cons,List.append_assoc]
  rw[← e2,← foldl_rep its k (acc ++ its),← e,List.replicate_succ,List.foldl_cons]
section
variable {X:Cx}{pins:List (Addr×Obj)}{σ:St}{H:Hp}{s:Shared}{l b:Addr}{xs ys zs:List V}
theorem Inv.lset {its its':List Value}{n:Nat}{f:Array Value→Array Value}{t':Nat}(I:Inv X pins σ H s)(hH:H l=some (.lst xs))
  (e:s.heap.get? l=some { cls:=.type "list",data:=.seq its.toArray n }) (hf:f its.toArray=its'.toArray) (hv:Vals ys its') (hz:ys.length≤sizeLine) :
  Inv X pins σ (upd H l (.lst ys)) { s with heap:=s.heap.update l (Obj.mapSeq f),toks:=t' }:=by
 have q:=PySem.IsL.update e f
 rw[hf]at q
 refine I.write (x:=l) (e:=l) (by rw[hH];exact trivial) (.inl rfl) (fun b' u hb hu=>(Heap.get?_update_other s.heap (Obj.mapSeq f) (Ne.symm hb)).trans hu) ⟨_,q⟩ ?_
 exact⟨hz,its',_,hv,q⟩
theorem Inv.lnew {its:List Value}{t':Nat}(I:Inv X pins σ H s)(hv:Vals ys its)(hz:ys.length≤sizeLine) :
  Inv X pins σ (upd H s.heap.objs.size (.lst ys)) { s with heap:=s.heap.push { cls:=.type "list",data:=.seq its.toArray },toks:=t' } :=
 I.laid (fun _ _ q=>Heap.get?_push_of_some _ q) (Nat.le_refl _) ⟨hz,its,0,hv,Heap.get?_push_size _ rfl⟩
theorem Inv.fresh (I:Inv X pins σ H s):H s.heap.objs.size=none:=I.hok.fresh (Nat.le_refl _)
theorem Inv.lstM (I:Inv X pins σ H s)(hH:H l=some (.lst xs)):xs.length≤sizeLine∧∃(its:List Value)(n:Nat),Vals xs its∧xs.length=its.length∧s.heap.get? l=some { cls:=.type "list",data:=.seq its.toArray n }:=by
 obtain⟨z,its,n,r,e⟩:=I.hok l _ hH
 exact⟨z,its,n,r,r.length,e⟩
theorem notLongL {n:Nat}(h:n≤sizeLine):Builtin.List.listTooLong n=false:=by
 unfold Builtin.List.listTooLong
 exact decide_eq_false (by omega)
end
section
variable {X:Cx}
noncomputable def rAppend:V→List V→Hp→VK→Prop:=fun x vs H Q=>∃l xs y,x = .ref l∧vs = [y]∧H l=some (.lst xs)∧xs.length<sizeLine∧Q .non (upd H l (.lst (xs ++ [y])))
theorem mt_append:MtM X "list.append" rAppend:=by
 intro pins s σ H x vs v us Q I rx rv h
 obtain⟨l,xs,y,rfl,rfl,hH,hz,q⟩:=h
 cases rx
 obtain⟨u,rfl,ru⟩:=rv.one
 obtain⟨z,its,n,r,hl,e⟩:=I.lstM hH
 refine call_meets F.slot_list_append ⟨_,e,rfl⟩ F.entry_list_append (F.args_list_append_2 _ _) (PySem.list_append l its.toArray n u (by rw[List.size_toArray];omega)) ⟨e,?_⟩
 refine⟨.non,_,I.lset (its':=its ++ [u]) hH e (by simp) (r.append (.cons ru .nil)) ?_,rfl,q⟩
 rw[List.length_append,List.length_singleton]
 omega
noncomputable def rCat:R2:=fun x y H Q=>∃l b xs zs,x = .ref l∧y = .ref b∧H l=some (.lst xs)∧H b=some (.lst zs)∧xs.length+zs.length≤sizeLine∧∀p,H p=none→Q (.ref p) (upd H p (.lst (xs ++ zs)))
theorem op_cat:OpR X (binaryOp .Add) rCat:=by
 intro pins s σ H x y v u Q I rx ry h
 obtain⟨l,b,xs,zs,rfl,rfl,hH,hB,hz,q⟩:=h
 cases rx
 cases ry
 obtain⟨z,its,n,r,hl,e⟩:=I.lstM hH
 obtain⟨z2,its2,n2,r2,hl2,e2⟩:=I.lstM hB
 refine PySem.P.add_list e e2 ?_ (by rw[List.size_toArray,List.size_toArray];omega)
 have ea:its.toArray ++ its2.toArray=(its ++ its2).toArray:=by simp
 rw[ea]
 exact⟨.ref _,_,I.lnew (t':=s.toks) (r.append r2) (by rw[List.length_append];omega),rfl,q _ I.fresh⟩
noncomputable def rRep:R2:=fun x y H Q=>∃l k xs,x = .ref l∧y = .int k∧H l=some (.lst xs)∧-(2 ^ 63)≤k∧k<2 ^ 63∧xs.length * k.toNat≤sizeLine ∧
 ∀p,H p=none→Q (.ref p) (upd H p (.lst (List.replicate k.toNat xs).flatten))
theorem len_rep {α:Type}(xs:List α)(k:Nat):(List.replicate k xs).flatten.length=k * xs.length:=by
 induction k with
 | zero=>simp
 | succ k ih=>rw[List.replicate_succ,List.flatten_cons,List.length_append,ih,Nat.succ_mul,Nat.add_comm]
theorem op_rep:OpR X (binaryOp .Mult) rRep:=by
 intro pins s σ H x y v u Q I rx ry h
 obtain⟨l,k,xs,rfl,rfl,hH,h1,h2,hz,q⟩:=h
 cases rx
 obtain⟨t,rfl⟩:=ry
 obtain⟨z,its,n,r,hl,e⟩:=I.lstM hH
 have hlen:its.toArray.size * k.toNat≤sizeLine:=by rw[List.size_toArray,← hl];exact hz
 have hcap:¬ its.toArray.size * k.toNat > (2 ^ 63 - 1) / 8:=by
  have:(sizeLine:Nat)≤(2 ^ 63 - 1) / 8:=by decide
  omega
 have hfit:¬ (!Builtin.List.listFitsIndex k)=true:=by
  rw[fitsIndex_both h1 h2]
  exact Bool.false_ne_true
 have hlong:¬ Builtin.List.listTooLong (its.toArray.size * k.toNat)=true:=by
  rw[notLongL hlen]
  exact Bool.false_ne_true
 have hnew:List.foldl (fun x1 x2=>x1 ++ x2) #[] (List.replicate (if its.toArray.isEmpty=true then 0 else k.toNat) its.toArray)=(List.replicate k.toNat its).flatten.toArray:=by
  have f0:∀m:Nat,List.foldl (fun x1 x2=>x1 ++ x2) #[] (List.replicate m its.toArray)=(List.replicate m its).flatten.toArray:=fun m=>by
   have:=foldl_rep its m []
   rw[List.nil_append]at this
   exact this
  rw[f0]
  cases its with
  | nil=>simp
  | cons a r'=>rw[if_neg (by simp)]
 refine wpAny_binaryOp_repeat_ref (T:="list") (U:="int") (by decide) ⟨_,e,rfl⟩ (fun s'=>typeIs_int s' k t) noFill_list_mul F.fills_int_mul F.slot_int_rmul repeat_list F.slot_int_index.lookup
  (call_meets F.slot_int_rmul (typeIs_int s k t) F.entry_int_rmul (F.args_int_rmul_2 _ _) (int___rmul___int_list k t l its.toArray n)
   ⟨e,rfl,⟨_,e,rfl⟩,call_meets F.slot_list_mul ⟨_,e,rfl⟩ F.entry_list_mul (F.args_list_mul_2 _ _) (AutoListH.list___mul___list_int_3 l its.toArray n k t hfit hcap hlong) ⟨e,?_⟩⟩)
 rw[hnew]
 exact⟨.ref _,_,I.lnew (t':=s.toks) (r.rep k.toNat) (by rw[len_rep,Nat.mul_comm];exact hz),rfl,q _ I.fresh⟩
end
section
variable {prog:Program}{w:World}{A:Around}{E:Value→Shared→Prop}{s:Shared}
theorem bounds_run {a c n:Nat}(hac:a≤c)(hc:c≤n):sliceBounds (some (a:Int)) (some (c:Int)) none n=((a:Int),(c:Int),1):=by
 simp only[sliceBounds,Option.getD_none]
 have h1:¬ ((a:Int)<0):=by omega
 have h2:¬ ((c:Int)<0):=by omega
 simp only[h1,h2,if_false,show (1:Int) > 0 by decide,if_true]
 congr 1
 ·omega
 ·congr 1;omega
set_option maxRecDepth 100000 in
theorem setItem_slice {l b sl:Addr}{items new:Array Value}{n n2:Nat}{vl vu:Value}{a c:Nat}{Q:Unit→Shared→Prop}
    (e:s.heap.get? l=some { cls:=.type "list",data:=.seq items n }) (e2:s.heap.get? b=some { cls:=.type "list",data:=.seq new n2 }) (hne:l≠b)
    (hs:s.heap.IsSliceOf sl vl vu .none) (pl:IsPart vl (some (a:Int))) (pu:IsPart vu (some (c:Int))) (hac:a≤c) (hc:c≤items.size)
    (hsz:items.size+new.size≤sizeLine) (h:Q () { s with heap:=s.heap.update l (Obj.mapSeq fun xs=>xs.extract 0 a ++ new ++ xs.extract c xs.size) }) :
    wpAny (model prog w) A (setItem (.ref l) (.ref sl) (.ref b)) Q E s:=by
  have hl:s.heap.IsList l items:=PySem.IsL.isList e
  have hb:s.heap.IsList b new:=PySem.IsL.isList e2
  obtain⟨os,hos,hcs,hds⟩:=id hs
  have hTs:s.TypeIs (.ref sl) "slice":=⟨os,hos,hcs⟩
  have hstep:¬ ((rawPart none == rawInt 0)=true):=Bool.false_ne_true
  have hsame:Builtin.List.listSameRef (.ref l) (.ref b)=false:=by
    unfold Builtin.List.listSameRef
    exact beq_eq_false_iff_ne.mpr hne
  have hmax:(max (a:Int) (c:Int)).toNat=c:=by omega
  have hz':((fun xs:Array Value=>xs.extract 0 a ++ new ++ xs.extract c xs.size) items).size≤sizeLine+1:=by
    simp only[Array.size_append,Array.size_extract]
    omega
  unfold setItem
  try with_reducible refine wpAny_holding ?_
  first |refine wpAny_bind (wpAny_pure ?_) |skip
  refine wpAny_bind (wpAny_sequenceKey hl.typeIs (by decide) ?_)
  refine wpAny_bind (wpAny_callSpecial?_slot (name:=Str.ofString "__setitem__") hl.typeIs slot_list_setitem
    (wpAny_call_entry slot_list_setitem hl.typeIs entry_list_setitem ?_ (args_list_setitem _ _ _)))
  show wpAny _ _ (Builtin.List.listSubscript? (.ref sl) >>= _) _ _ s
  refine wpAny_bind ?_
  unfold Builtin.List.listSubscript?
  refine wpAny_bind (wpAny_specialOf hTs slice_no_index ?_)
  simp only[Option.isNone_none,if_true]
  refine wpAny_pure ?_
  show wpAny _ _ (typeOf (.ref sl) >>= _) _ _ s
  refine wpAny_bind (wpAny_typeOf hTs ?_)
  first
    | rw[if_neg (by decide)]
    | refine PySem.W.KFB.if_not (by decide) ?_
  rw[listSliceParts_eq]
  refine wpAny_bind (wpAny_bind (wpAny_field hos hds (x:=.none) rfl (wpAny_bind (wpAny_listPart .none ?_))))
  rw[if_neg hstep]
  refine wpAny_bind (wpAny_field hos hds (x:=vl) rfl (wpAny_bind (wpAny_listPart pl ?_)))
  refine wpAny_bind (wpAny_field hos hds (x:=vu) rfl (wpAny_bind (wpAny_listPart pu (wpAny_pure ?_))))
  first
    | simp only[hsame,Bool.false_eq_true,if_false]
    | refine PySem.W.KFB.if_not hsame ?_
    | (dsimp only
       rw[if_neg (by rw[hsame];exact Bool.false_ne_true)])
  refine wpAny_bind (m:=Builtin.List.listAllItems (.ref b) "must assign iterable to extended slice") ?_
  unfold Builtin.List.listAllItems
  refine wpAny_bind (wpAny_typeOf hb.typeIs ?_)
  first
    | refine PySem.W.KFB.if_so (by decide) ?_
    | rw[if_pos (by decide)]
    | simp only[beq_self_eq_true,Bool.true_or,if_true]
  unfold Builtin.List.listItems
  refine wpAny_bind (wpAny_seqItems e2 rfl (wpAny_pure ?_))
  refine wpAny_bind (wpAny_bind (wpAny_seqItems e rfl (wpAny_pure ?_)))
  refine wpAny_bind (wpAny_of_eq ((sliceIndices_raw (some (a:Int)) (some (c:Int)) none items.size (by simp)).trans (congrArg (pure:Int×Int×Int→Sem (Int×Int×Int)) (bounds_run hac hc))) ?_)
  show wpAny _ _ (if ((1:Int) == 1)=true then _ else _) _ _ s
  rw[if_pos (by decide)]
  refine wpAny_bind (wpAny_rule ?_)
  first
    | simp only[notLongL hsz,Bool.false_eq_true,if_false]
    | refine PySem.W.KFB.if_not (notLongL hsz) ?_
  first |refine wpAny_bind (wpAny_pure ?_) |skip
  show wpAny _ _ (updateSeq l (fun xs=>xs.extract 0 ((a:Int)).toNat ++ new ++ xs.extract (max (a:Int) (c:Int)).toNat xs.size) >>= _) _ _ s
  rw[hmax,Int.toNat_natCast]
  refine wpAny_bind (wpAny_updateSeq (hz:=Nat.le_trans (Nat.le_add_right _ _) hsz) (_hz':=hz') e rfl ?_)
  refine wpAny_bind (wpAny_letGo ?_)
  first
    | exact wpAny_bind (wpAny_pure (wpAny_pure ⟨.none,rfl,wpAny_pure h⟩))
    | exact wpAny_pure ⟨.none,rfl,wpAny_pure h⟩
end
section
variable {X:Cx}
end
end L2
namespace Att
open PySem PySem.W PySem.Calls PyProof.Rows
theorem ints_of_wellAll {P:Params}{h:Heap}:∀(ns:List Int)(vs:List Value),WellAll P h vs (ns.map WData.int)→IntsAre vs ns:=by
 intro ns
 induction ns with
 | nil =>
  intro vs w
  rw[List.map_nil]at w
  cases w
  exact .nil
 | cons n ns ih =>
  intro vs w
  rw[List.map_cons]at w
  cases w with
  | cons a b =>
   cases a
   exact .cons _ _ (ih _ b)
theorem script_of {l:OpenLaw}{n:Nat}(hn:l.most=some n) {P:Params}{h:Heap}{args:List WData}{vals:List Value}
  (hpre:l.row.toRowW.claim.pre args=true) (hwl:WellAll P h vals args) :
  ∃a vs ns,vals = [Value.ref a]∧args = [WData.list (ns.map WData.int)]∧h.get? a=some { cls:=.type "list",data:=.seq vs.toArray }∧IntsAre vs ns∧ns.length≤n:=by
 have hsh:WShape.hasAll [] args [.list .int]=true:=(pre_splitW hpre).1
 have hc:l.pre.holds [] { args:=args } = true:=(pre_splitW hpre).2
 obtain⟨d,r,rfl,h1,h2⟩:=hasAllW_cons hsh
 obtain rfl:=hasAllW_nil h2
 obtain⟨xs,rfl,h3⟩:=hasW_list h1
 obtain⟨ns,rfl⟩:=items_int h3
 have hlen:ns.length≤n:=by
  unfold OpenLaw.pre at hc
  have h4:(WTm.not (.lt (.lit (.int (n:Int))) (.len (.arg 0)))).holds [] { args:=[.list (ns.map .int)] } = true:=by
   have h4:=(holds_andW hc).1
   rw[hn]at h4
   exact h4
  have h5:=condW_of h4 (w_not (w_lt w_lit (w_len_list (w_arg rfl))))
  rw[List.length_map]at h5
  refine Nat.le_of_not_lt fun q=>?_
  have q':(n:Int)<((ns.length:Nat):Int):=by omega
  first
   | (rw[decide_eq_true q']at h5;exact absurd h5 (by decide))
   | (simp at h5;omega)
 cases hwl with
 | cons w1 w2 =>
  cases w2
  cases w1 with
  | list ho hall=>exact⟨_,_,ns,rfl,rfl,ho,ints_of_wellAll ns _ hall,hlen⟩
theorem post_true (l:OpenLaw)(args:List WData):l.row.toRowW.claim.post args (.bool true) args=true :=
 postW_of (r:=l.row.toRowW) (X:=(true == true))
  (show WShape.has [] (.bool true) .bool=true by first |rfl |decide |simp[WShape.has,WShape.arms,WShape.armsAll])
  (show (WTm.eq .res (.lit (.bool true))).value [] { args:=args,res:=some (.bool true),after:=args } = some (.bool (true == true))from w_eq_bool (w_res rfl) w_lit) rfl
theorem attach_call {l:OpenLaw}{n:Nat}{q:Program}{loose:List Str}{XP:(Str→Option Value)→Heap→Prop}{YP:World→Heap→Prop}{d:DefRec}
  (hn:l.most=some n) (hdf:d.params.defaults = [])
  (call:∀(w:World) (s₀ s₁:Shared) (mg mb:Str→Option Value) (fa:Addr) (o:Obj) (pm cd doc:Value) (a:Addr) (vs:List Value) (ns:List Int),
   Ground q loose [] XP w s₀ mg mb s₁.heap→YP w s₁.heap →
   s₁.heap.get? fa=some o→o.data = .func (docDef d.name d.params d.body d.scope pm cd doc)→s₁.heap.CodeRec cd d.name→mg d.name=some (.ref fa) →
   s₁.heap.get? a=some { cls:=.type "list",data:=.seq vs.toArray }→IntsAre vs ns→ns.length≤n→s₁.gens = #[] →
   codeAny (model l.prog w) callerA (.call (.ref fa) ⟨[.ref a],[]⟩) (fun r s'=>r = .ok (.ret (.bool true))∧OldK s₁.heap s'.heap∧s'.os=s₁.os∧AllBare s'.gens) s₁) :
  WalkO q loose XP YP l.row.toRowW d [] (fun f vs=>PySem.call f vs):=by
 intro w s₀ s₁ mg mb G Y fa o pm cd doc dV kV ho hd hcd hD hmg hg args vals as hpre hlay hrd hwl hlo
 obtain rfl:dV = .none:=Dflts.none hD hdf
 obtain rfl:kV = .none:=Dflts.noKw hD
 obtain⟨a,vs,ns,rfl,rfl,hobj,hints,hlen⟩:=script_of hn hpre hwl
 refine enter_call (codeAny_mono (call w s₀ s₁ mg mb fa o pm cd doc a vs ns G Y ho (fd_plain hd) hcd hmg hobj hints hlen hg) fun r s' hq=>?_)
 obtain⟨rfl,h2,h3,h4⟩:=hq
 exact⟨.inl ⟨.bool true,.bool true,[],rfl,fun _=>rfl,.bool true,post_true l _,fun _=>⟨List.Pairwise.nil,fun _ hm=>(nomatch hm)⟩⟩,h2,h3,h4⟩
section
variable {prog:Program}{w:World}{A:Around}{E:Value→Shared→Prop}{s:Shared}{K:Frag}
end
end Att
namespace L2
open PySem PySem.Spec PyProof.Rows
theorem vals_ints:∀ {vs:List Value}{ns:List Int},IntsAre vs ns→Vals (ns.map V.int) vs
 | _,_,.nil=>.nil
 | _,_,.cons n t h=>.cons ⟨t,rfl⟩ (vals_ints h)
noncomputable def Only (H:Hp):Prop:=∀b,H b=none∨∃o xs,H b=some (.frz o (.lst xs))
theorem law_call {P:Program}{w:World}{K:PySem.W.Frag}{mg mb:Str→Option Value}{CX:CXT}{k:Nat}{fa a:Addr}{fd:FuncData}{x:Str}{sp:Sp}{s₁:Shared}{vs:List Value}{ns:List Int}
  (KX:K.In s₁.heap) (hns:s₁.heap.Ns mainGlobals mg) (hb:s₁.heap.Ns builtinsNs mb) (hbb:∀x:Str,x ≠ "__name__"→mb x=bootBuiltins x) (hlim:s₁.heap.NoLimit) (hg:s₁.gens = #[])
  (ha:s₁.heap.get? a=some { cls:=.type "list",data:=.seq vs.toArray }) (hi:IntsAre vs ns) (hl:ns.length≤sizeLine) (hr:Room k callerA)
  (F:∀base:Heap,K.In base→base.Ns mainGlobals mg→FnOk P w K mg base CX k fa fd [x] sp) (hbind:∀(s:Shared) (u:Value),BindsTo s fd ⟨[u],[]⟩ [(x,u)])
  (hsp:∀H:Hp,Only H→SqL K H a (ns.map V.int)→sp [.ref a] H (fun v _=>v = .bl true) fun _ _ _=>False)
  (hCX:∀H e s',CX [] H s₁ (fun _ _ _=>False) e s'→False) :
  codeAny (model P w) callerA (.call (.ref fa) ⟨[.ref a],[]⟩) (fun r s'=>r = .ok (.ret (.bool true))∧OldK s₁.heap s'.heap∧s'.os=s₁.os∧AllBare s'.gens) s₁:=by
 have rv:=vals_ints hi
 have lenV:=hi.length
 -- from an abstract heap in which nothing but the script may be tracked
 have core : ∀H:Hp,Only H→SqL K H a (ns.map V.int)→HOk P w H s₁.heap→(∀b,H b≠none→b=a)→(H a≠none→K.lookup a=none) →
   codeAny (model P w) callerA (.call (.ref fa) ⟨[.ref a],[]⟩) (fun r s'=>r = .ok (.ret (.bool true))∧OldK s₁.heap s'.heap∧s'.os=s₁.os∧AllBare s'.gens) s₁:=by
  intro H hO hS hok hA hK
  have base_of:∀ {b:Addr}{o:Obj},s₁.heap.get? b=some o→H b=none→(hidT s₁.heap H).get? b=some o:=fun e n=>hidT_get e n
  have noA:∀ {b:Addr}{o:Obj}{es:Array DictEntry}{ep:Nat},s₁.heap.get? b=some o→o.data = .dict es ep→H b=none:=fun {b o es ep} e d=>by
   cases q:H b with
   | none=>rfl
   | some u =>
    have e':b=a:=hA b (by rw[q];simp)
    subst e'
    rw[ha]at e;cases e
    have d':Data.seq vs.toArray _=Data.dict es ep:=d
    cases d'
  have nsK:∀ {b:Addr}{m:Str→Option Value},s₁.heap.Ns b m→(hidT s₁.heap H).Ns b m:=fun {b m} ⟨o,es,ep,e,d,r⟩=>⟨o,es,ep,base_of e (noA e d),d,r⟩
  have hKb:K.In (hidT s₁.heap H):=fun b o e=>base_of (KX b o e) (by
   cases q:H b with
   | none=>rfl
   | some u =>
    have e':b=a:=hA b (by rw[q];simp)
    subst e'
    rw[hK (by rw[q];simp)]at e;cases e)
  have hM:Mod K mg (hidT s₁.heap H):=⟨hKb,nsK hns,⟨mb,nsK hb,hbb⟩,let ⟨mc,h1,h2⟩:=hlim; ⟨mc,nsK h1,h2⟩⟩
  have e0:Env0 P w K mg (hidT s₁.heap H) callerA [] s₁ H:=⟨rfl,hM,fun b o e=>of_hidT e,Nat.le_of_eq (hidT_size _ _),trivial,fun b hb=>absurd (show b∈([]:List Addr)from hb) (by simp),hok,.of_eq hg⟩
  refine codeAny_mono ((F _ hKb (nsK hns)).run callerA [] s₁ H ⟨[.ref a],[]⟩ [.ref a] [.ref a] _ _ hr e0 (hbind s₁ (.ref a)) (.cons rfl .nil) (hsp H hO hS)) fun r s' h=>?_
  cases r with
  | error e=>exact(hCX H e s' h).elim
  | ok fl =>
   cases fl with
   | next=>exact False.elim h
   | brk=>exact False.elim h
   | cont=>exact False.elim h
   | ret u =>
    obtain⟨v,H',os,bare,un,hok',r',q⟩:=h
    have q':v = .bl true:=q
    subst q'
    obtain rfl:u=Value.bool true:=r'
    refine⟨rfl,OldK.of_keep fun b o e=>?_,os,bare⟩
    cases q:H b with
    | none=>exact un.keep b o e q (by intro z;exact absurd (show b∈([]:List Addr)from z) (by simp)) (by simp)
    | some u =>
     rcases hO b with z | ⟨ob,xs,z⟩
     ·rw[q]at z;cases z
     ·have z2:=un.frzs b ob _ z
      obtain⟨e1,_⟩:=hok b _ z
      obtain⟨e2,_⟩:=hok' b _ z2
      rw[e]at e1;cases e1
      exact e2
 cases hk:K.lookup a with
 | some o =>
  -- the script is one of the module's own objects
  have e:=KX a o hk
  rw[ha]at e
  cases e
  refine core (fun _=>none) (fun _=>.inl rfl) (.inr ⟨_,vs.toArray,_,hk,rfl,rfl,rfl,by rw[List.size_toArray,lenV];exact hl,by simpa using rv⟩) (fun b u z=>by have z':(none:Option HO)=some u:=z;cases z') (fun b z=>absurd rfl z) fun z=>absurd rfl z
 | none =>
  refine core (fun b=>if b=a then some (.frz { cls:=.type "list",data:=.seq vs.toArray } (.lst (ns.map V.int))) else none) (fun b=>?_) (.inl (.inr ⟨{ cls:=.type "list",data:=.seq vs.toArray },if_pos rfl⟩)) (fun b u z=>?_) (fun b z=>?_) fun _=>hk
  ·by_cases hb:b=a
   ·exact .inr ⟨_,_,if_pos hb⟩
   ·exact .inl (if_neg hb)
  ·by_cases hb:b=a
   ·have z':=(if_pos hb).symm.trans z
    cases z'
    subst hb
    exact⟨ha,by rw[List.length_map];exact hl,vs,_,rv,ha⟩
   ·have z':=(if_neg hb).symm.trans z
    cases z'
  ·by_cases hb:b=a
   ·exact hb
   ·exact absurd (if_neg hb) z
noncomputable abbrev KOf {K:PySem.W.Frag}{h:Heap}(_:K.In h):PySem.W.Frag:=K
theorem walk_of {l:PySem.W.OpenLaw}{n k:Nat}{q:Program}{loose:List Str}{XP:(Str→Option Value)→Heap→Prop}{YP:World→Heap→Prop}{d:DefRec}{K:Params→PySem.W.Frag}{CX:World→CXT}{sp:World→Sp}{x:Str}
  (hn:l.most=some n) (hn2:n≤sizeLine) (hdf:d.params.defaults = []) (hr:Room k callerA)
  (hY:∀(w:World) (h:Heap),YP w h→(K w.params).In h)
  (F:∀(w:World) (mg:Str→Option Value) (fa:Addr) (h:Heap),(K w.params).In h→h.Ns mainGlobals mg→mg d.name=some (.ref fa) →
   ∃fd:FuncData,(∀(s:Shared) (u:Value),BindsTo s fd ⟨[u],[]⟩ [(x,u)]) ∧
    ∀base:Heap,(K w.params).In base→base.Ns mainGlobals mg→FnOk l.prog w (K w.params) mg base (CX w) k fa fd [x] (sp w))
  (hsp:∀(w:World) (H:Hp) (a:Addr) (ns:List Int),ns.length≤n→Only H→SqL (K w.params) H a (ns.map V.int)→sp w [.ref a] H (fun v _=>v = .bl true) fun _ _ _=>False)
  (hCX:∀(w:World) (H:Hp) (s:Shared) (e:Value) (s':Shared),CX w [] H s (fun _ _ _=>False) e s'→False) :
  PySem.W.WalkO q loose XP YP l.row.toRowW d [] (fun f vs=>PySem.call f vs):=by
 refine Att.attach_call hn hdf fun w s₀ s₁ mg mb fa o pm cd doc a vs ns G Y ho hd hcd hmg hobj hints hlen hg=>?_
 have KX:=hY w _ Y
 obtain⟨fd,hb,hF⟩:=F w mg fa _ KX G.T.g hmg
 exact law_call KX G.T.g G.T.b G.T.builtins G.T.nolimit hg hobj hints (Nat.le_trans hlen hn2) hr hF hb (fun H hO hS=>hsp w H a ns hlen hO hS) fun H e s'=>hCX w H s₁ e s'
theorem walk_ofK {l:PySem.W.OpenLaw}{n k:Nat}{q:Program}{loose:List Str}{XP:(Str→Option Value)→Heap→Prop}{YP:World→Heap→Prop}{d:DefRec}{K:Params→PySem.W.Frag}{CX:CXT}{sp:PySem.W.Frag→Sp}{x:Str}
  (hn:l.most=some n) (hn2:n≤sizeLine) (hdf:d.params.defaults = []) (hr:Room k callerA)
  (hY:∀(w:World) (h:Heap),YP w h→(K w.params).In h)
  (F:∀(w:World) (mg:Str→Option Value) (fa:Addr) (h:Heap),(K w.params).In h→h.Ns mainGlobals mg→mg d.name=some (.ref fa) →
   ∃fd:FuncData,(∀(s:Shared) (u:Value),BindsTo s fd ⟨[u],[]⟩ [(x,u)]) ∧
    ∀base:Heap,(K w.params).In base→base.Ns mainGlobals mg→FnOk l.prog w (K w.params) mg base CX k fa fd [x] (sp (K w.params)))
  (hsp:∀(K:PySem.W.Frag) (H:Hp) (a:Addr) (ns:List Int),ns.length≤n→Only H→SqL K H a (ns.map V.int)→sp K [.ref a] H (fun v _=>v = .bl true) fun _ _ _=>False)
  (hCX:∀(H:Hp) (s:Shared) (e:Value) (s':Shared),CX [] H s (fun _ _ _=>False) e s'→False) :
  PySem.W.WalkO q loose XP YP l.row.toRowW d [] (fun f vs=>PySem.call f vs) :=
 walk_of (K:=K) (CX:=fun _=>CX) (sp:=fun w=>sp (K w.params)) hn hn2 hdf hr hY F (fun w H a ns h1 h2 h3=>hsp (K w.params) H a ns h1 h2 h3) fun _ H s e s'=>hCX H s e s'
noncomputable def inClass (s:Stmt)(j:Nat):Stmt:=match s with
 | .ClassDef _ _ _ body _ _ _ _ _ _ _=>body.getD j (.Pass ⟨0,0,0,0⟩)
 | _=>.Pass ⟨0,0,0,0⟩
noncomputable def defArgs (s:Stmt):Arguments:=match s with
 | .FunctionDef _ a _ _ _ _ _ _ _ _=>a
 | _=>{ posonlyargs:=[],args:=[],vararg:=none,kwonlyargs:=[],kw_defaults:=[],kwarg:=none,defaults:=[] }
noncomputable def defBody (s:Stmt):List Stmt:=match s with
 | .FunctionDef _ _ b _ _ _ _ _ _ _=>b
 | _=>[]
noncomputable def defScope (s:Stmt):Scope:=match s with
 | .FunctionDef _ _ _ _ _ _ sc _ _ _=>sc
 | _=>{ kind:=.function,names:=[],isGenerator:=false,isCoroutine:=false }
noncomputable abbrev CX0:CXT:=fun _ _ _ _ _ _=>False
noncomputable abbrev E0:XK:=fun _ _ _=>False
theorem pass0 {X:Cx}:Passes CX0 X E0:=fun _ _ _ _ _ _ _ h=>h.elim
structure Fun (K:PySem.W.Frag) (x qual:Str) (st:Stmt) (f:Addr) (fd:FuncData):Prop where
 ex:∃(oc:Value) (od:Option Addr) (kV doc pm:Value) (an:Option Addr) (cdv ct:Value) (osl:Array (Option Value)),
  fd=PySem.W.fnOf x qual (defArgs st) (defBody st) (defScope st) .none kV doc pm an cdv ct∧K.lookup f=some ⟨oc,od,.func fd,osl⟩∧PySem.W.codeIn K cdv qual=true
 kp:PySem.W.keepIn K (.ref f)=true
section
variable {P:Program}{w:World}{K:PySem.W.Frag}{mg:Str→Option Value}{base:Heap}
theorem Fun.ok {x qual:Str}{st:Stmt}{f:Addr}{fd:FuncData}{N ps:List Str}{k:Nat}{sp:Sp}(F:Fun K x qual st f fd)(S:FnScope N ps (defScope st))(len:∀vs H Q E,sp vs H Q E→vs.length=ps.length)
  (hbody:∀(cdv:Value) (A:Around) (outer:List Env) (s:Shared) (H:Hp) (vs:List V) (Q:VK) (E:XK),Room k (A.deeper (envOfC qual (defScope st) s.heap.objs.size f cdv))→sp vs H Q E →
   ∃t,PSs (cxOf CX0 P w K mg base N qual (defScope st) f cdv A outer s H E).nox (defBody st) t∧t { nx:=fun _ H'=>Q .non H',rt:=Q } (start N vs) H):FnOk P w K mg base CX0 (k+1) f fd ps sp:=by
 obtain⟨oc,od,kV,doc,pm,an,cdv,ct,osl,rfl,lk,hcd⟩:=F.ex
 refine fn_of lk hcd S len fun A outer s H vs Q E hr hsp=>?_
 obtain⟨t,h,q⟩:=hbody cdv A outer s H vs Q E hr hsp
 exact⟨t,h.nox,q⟩
theorem Fun.binds {x qual:Str}{st:Stmt}{f:Addr}{fd:FuncData}{ps:List Str}(F:Fun K x qual st f fd)
  (h:∀(kV doc pm:Value) (an:Option Addr) (cdv ct:Value) (us:List Value),us.length=ps.length→bindArgs (PySem.W.fnOf x qual (defArgs st) (defBody st) (defScope st) .none kV doc pm an cdv ct) ⟨us,[]⟩ = pure (ps.zip us)):Binds K fd ps []:=by
 obtain⟨oc,od,kV,doc,pm,an,cdv,ct,osl,rfl,lk,hcd⟩:=F.ex
 exact .all (h kV doc pm an cdv ct)
theorem fun_mk {x qual:Str}{st:Stmt}{f:Addr}{oc:Value}{od an:Option Addr}{osl:Array (Option Value)}{kV doc pm cdv ct:Value}(l:K.lookup f=some ⟨oc,od,.func (PySem.W.fnOf x qual (defArgs st) (defBody st) (defScope st) .none kV doc pm an cdv ct),osl⟩)
  (c:PySem.W.codeIn K cdv qual=true) (k:PySem.W.keepIn K (.ref f)=true):Fun K x qual st f (PySem.W.fnOf x qual (defArgs st) (defBody st) (defScope st) .none kV doc pm an cdv ct):=⟨⟨oc,od,kV,doc,pm,an,cdv,ct,osl,rfl,l,c⟩,k⟩
end
theorem hu_of {A:Around}{k:Nat}(hr:Room k A):A.units+1<cLine:=Nat.lt_of_le_of_lt (Nat.add_le_add_left (by decide:1≤64) _) hr.units
theorem small1000 {n:Nat}(h:n≤1000):n<sizeLine:=Nat.lt_of_le_of_lt h (by decide)
section
variable {X:Cx}
theorem pv (i:Nat) {x:Str}{pos:Pos}(hN:X.N[i]? = some x:=by rfl)(hv:Vis X.env.scope x:=by first |exact Or.inl rfl |exact Or.inr (Or.inl rfl) |exact Or.inr (Or.inr rfl))(hd:(x == ("__debug__":Str))=false:=by decide)
  (hcd:(x == ("__classdict__":Str))=false:=by decide):PE X (.Name x pos) (tVar i):=pe_var hN hv hd hcd
end
noncomputable def Same (H H':Hp):Prop:=∀b o,H b=some o→H' b=some o
theorem Same.refl (H:Hp):Same H H:=fun _ _ h=>h
theorem Same.trans {H H1 H2:Hp}(a:Same H H1)(b:Same H1 H2):Same H H2:=fun c o h=>b c o (a c o h)
theorem Same.free {H H':Hp}(e:Same H H') {l:Addr}(h:H' l=Option.none):H l=Option.none:=by
 cases q:H l with
 | none=>rfl
 | some o =>
  rw[e l o q]at h
  cases h
theorem Same.seq {K:PySem.W.Frag}{H H':Hp}{a:Addr}{xs:List V}(e:Same H H')(h:SqL K H a xs):SqL K H' a xs:=by
 rcases h with (h | ⟨o,h⟩) |h
 ·exact .inl (.inl (e _ _ h))
 ·exact .inl (.inr ⟨o,e _ _ h⟩)
 ·exact .inr h
section
variable {κ:Type}[DecidableEq κ]
noncomputable def valV (kvs:List (κ×V))(k:κ):Option V:=(kvs.find? fun kv=>decide (kv.1=k)).map (·.2)
noncomputable def putK (kvs:List (κ×V))(k:κ)(v:V):List (κ×V) :=
 if (kvs.any fun kv=>decide (kv.1=k))=true then kvs.map (fun kv=>if kv.1=k then (kv.1,v) else kv) else kvs ++ [(k,v)]
noncomputable def dropK (kvs:List (κ×V))(k:κ):List (κ×V):=kvs.filter fun kv=>decide (kv.1≠k)
theorem valV_pos {p:κ×V}{r:List (κ×V)}{k:κ}(e:p.1=k):valV (p :: r) k=some p.2:=by simp[valV,List.find?_cons,e]
theorem valV_neg {p:κ×V}{r:List (κ×V)}{k:κ}(e:¬ p.1=k):valV (p :: r) k=valV r k:=by simp[valV,List.find?_cons,e]
theorem valV_any (k:κ):∀kvs:List (κ×V),(kvs.any fun kv=>decide (kv.1=k))=(valV kvs k).isSome
 | []=>rfl
 | p :: r=>by
  rw[List.any_cons]
  by_cases e:p.1=k
  ·simp only[valV_pos e,decide_eq_true e,Bool.true_or,Option.isSome_some]
  ·rw[valV_neg e,decide_eq_false e,Bool.false_or];exact valV_any k r
theorem length_putK (kvs:List (κ×V))(k:κ)(v:V):(putK kvs k v).length≤kvs.length+1:=by
 unfold putK
 split
 ·rw[List.length_map];omega
 ·rw[List.length_append,List.length_cons,List.length_nil];omega
theorem putK_new {kvs:List (κ×V)}{k:κ}(v:V)(h:valV kvs k=none):putK kvs k v=kvs ++ [(k,v)]:=by
 unfold putK
 rw[valV_any,h]
 exact if_neg (by decide)
theorem RelO.isSome_eq {o:Option V}{u:Option Value}(r:RelO o u):o.isSome=u.isSome:=by
 cases o with
 | none=>cases u with
  | none=>rfl
  | some _=>exact(show False from r).elim
 | some _=>cases u with
  | none=>exact(show False from r).elim
  | some _=>rfl
theorem RelO.getD {o:Option V}{u:Option Value}{d:V}{d':Value}(r:RelO o u)(rd:RelV d d'):RelV (o.getD d) (u.getD d'):=by
 cases o with
 | none=>cases u with
  | none=>exact rd
  | some _=>exact(show False from r).elim
 | some _=>cases u with
  | none=>exact(show False from r).elim
  | some _=>exact r
theorem KV.val {kvs:List (κ×V)}{vs:List (κ×Value)}(r:KV kvs vs)(k:κ):RelO (valV kvs k) (valueAt vs k):=by
 unfold KV at r
 induction r with
 | nil=>exact True.intro
 | @cons p q ps qs h t ih =>
  obtain⟨h1,h2⟩:=h
  by_cases e:p.1=k
  ·have e':q.1=k:=h1.symm.trans e
   have b:valueAt (q :: qs) k=some q.2:=by simp[valueAt,List.find?_cons,e']
   rw[valV_pos e,b];exact h2
  ·have e':¬ q.1=k:=fun z=>e (h1.trans z)
   have b:valueAt (q :: qs) k=valueAt qs k:=by simp[valueAt,List.find?_cons,e']
   rw[valV_neg e,b];exact ih
theorem KV.any {kvs:List (κ×V)}{vs:List (κ×Value)}(r:KV kvs vs)(k:κ):(kvs.any fun kv=>decide (kv.1=k))=vs.any fun kv=>decide (kv.1=k):=by
 unfold KV at r
 induction r with
 | nil=>rfl
 | cons h t ih=>rw[List.any_cons,List.any_cons,ih,h.1]
theorem KV.repl {kvs:List (κ×V)}{vs:List (κ×Value)}(r:KV kvs vs)(k:κ) {y:V}{u:Value}(ry:RelV y u) :
  KV (kvs.map fun kv=>if kv.1=k then (kv.1,y) else kv) (vs.map fun kv=>if kv.1=k then (kv.1,u) else kv):=by
 unfold KV at r ⊢
 induction r with
 | nil=>exact .nil
 | @cons p q ps qs h t ih =>
  rw[List.map_cons,List.map_cons]
  refine .cons ?_ ih
  obtain⟨h1,h2⟩:=h
  by_cases e:p.1=k
  ·rw[if_pos e,if_pos (h1.symm.trans e)];exact⟨h1,ry⟩
  ·rw[if_neg e,if_neg (fun z=>e (h1.trans z))];exact⟨h1,h2⟩
theorem KV.put {kvs:List (κ×V)}{vs:List (κ×Value)}(r:KV kvs vs)(k:κ) {y:V}{u:Value}(ry:RelV y u):KV (putK kvs k y) (stored vs k u):=by
 unfold putK stored
 rw[r.any k]
 by_cases e:(vs.any fun kv=>decide (kv.1=k))=true
 ·rw[if_pos e,if_pos e];exact r.repl k ry
 ·rw[if_neg e,if_neg e];exact Paired.snoc r ⟨rfl,ry⟩
theorem KV.drop {kvs:List (κ×V)}{vs:List (κ×Value)}(r:KV kvs vs)(k:κ):KV (dropK kvs k) (without vs k):=by
 unfold KV at r ⊢
 unfold dropK without
 induction r with
 | nil=>exact .nil
 | @cons p q ps qs h t ih =>
  obtain⟨h1,h2⟩:=h
  rw[List.filter_cons,List.filter_cons]
  by_cases e:p.1=k
  ·have a:¬ decide (p.1≠k)=true:=by simp[e]
   have b:¬ decide (q.1≠k)=true:=by simp[h1.symm.trans e]
   rw[if_neg a,if_neg b];exact ih
  ·have e':¬ q.1=k:=fun z=>e (h1.trans z)
   have a:decide (p.1≠k)=true:=by simp[e]
   have b:decide (q.1≠k)=true:=by simp[e']
   rw[if_pos a,if_pos b];exact .cons ⟨h1,h2⟩ ih
theorem KV.keys {kvs:List (κ×V)}{vs:List (κ×Value)}(r:KV kvs vs):kvs.map (·.1)=vs.map (·.1):=by
 unfold KV at r
 induction r with
 | nil=>rfl
 | cons h t ih=>rw[List.map_cons,List.map_cons,ih,h.1]
theorem KV.length {kvs:List (κ×V)}{vs:List (κ×Value)}(r:KV kvs vs):kvs.length=vs.length:=Paired.length r
end
theorem kV_is {P:Program}{w:World}{k:Key}{u:Value}(r:RelV (kV k) u):(mixKind P w).is k u=true:=by
 cases k with
 | inl i=>obtain⟨t,e⟩:=(show ∃t,u=Value.int i t from r);subst e;exact mixKind_int P w i t
 | inr x=>obtain⟨t,e⟩:=(show ∃t,u=Value.str x t from r);subst e;exact mixKind_str P w x t
theorem items_are {P:Program}{w:World}:∀ {ks:List Key}{us:List Value},Vals (ks.map kV) us→ItemsAre (mixKind P w) ks us
 | [],_,r=>by rw[List.map_nil]at r;cases r;exact .nil
 | k :: ks,_,r=>by
  rw[List.map_cons]at r
  cases r with
  | cons h t=>exact .cons (kV_is h) (items_are t)
noncomputable abbrev KT (H:Hp):List (List Key×V)→List (List Key×Addr×Value)→Prop:=Paired fun p q=>p.1=q.1∧H q.2.1=some (.tup (p.1.map kV))∧RelV p.2 q.2.2
theorem KT.val {H:Hp}{kvs:List (List Key×V)}{xs:List (List Key×Addr×Value)}(r:KT H kvs xs)(k:List Key):RelO (valV kvs k) ((atKey xs k).map (·.2)):=by
 induction r with
 | nil=>exact True.intro
 | @cons p q ps qs h t ih =>
  obtain⟨h1,_,h2⟩:=h
  by_cases e:p.1=k
  ·have e':q.1=k:=h1.symm.trans e
   have b:atKey (q :: qs) k=some q.2:=by simp[atKey,List.find?_cons,e']
   rw[valV_pos e,b];exact h2
  ·have e':¬ q.1=k:=fun z=>e (h1.trans z)
   have b:atKey (q :: qs) k=atKey qs k:=by simp[atKey,List.find?_cons,e']
   rw[valV_neg e,b];exact ih
theorem KT.repl {H:Hp}{kvs:List (List Key×V)}{xs:List (List Key×Addr×Value)}(r:KT H kvs xs)(k:List Key) {y:V}{u:Value}(ry:RelV y u) :
  KT H (kvs.map fun kv=>if kv.1=k then (kv.1,y) else kv) (xs.map (putAt k u)):=by
 induction r with
 | nil=>exact .nil
 | @cons p q ps qs h t ih =>
  rw[List.map_cons,List.map_cons]
  refine .cons ?_ ih
  obtain⟨h1,h2,h3⟩:=h
  unfold putAt
  by_cases e:p.1=k
  ·rw[if_pos e,if_pos (h1.symm.trans e)];exact⟨h1,h2,ry⟩
  ·rw[if_neg e,if_neg (fun z=>e (h1.trans z))];exact⟨h1,h2,h3⟩
theorem KT.put {H:Hp}{kvs:List (List Key×V)}{xs:List (List Key×Addr×Value)}(r:KT H kvs xs)(k:List Key) {b:Addr}{y:V}{u:Value}(hb:H b=some (.tup (k.map kV)))(ry:RelV y u) :
  KT H (putK kvs k y) (storedH xs k b u):=by
 have e:(kvs.any fun kv=>decide (kv.1=k))=(atKey xs k).isSome:=by
  rw[valV_any,(r.val k).isSome_eq,Option.isSome_map]
 unfold putK storedH
 rw[e]
 by_cases q:(atKey xs k).isSome=true
 ·rw[if_pos q,if_pos q];exact r.repl k ry
 ·rw[if_neg q,if_neg q];exact Paired.snoc r ⟨rfl,hb,ry⟩
theorem KT.keeps {H H':Hp}{kvs:List (List Key×V)}{xs:List (List Key×Addr×Value)}(r:KT H kvs xs)(ht:∀b ys,H b=some (.tup ys)→H' b=some (.tup ys)):KT H' kvs xs :=
 Paired.mapP r fun _ _ z=>⟨z.1,ht _ _ z.2.1,z.2.2⟩
section
variable {P:Program}{w:World}{H:Hp}{h:Heap}{a:Addr}
theorem rd_of {u:HO}(ok:HOk P w H h)(e:Rd H a u):ObjOk P w H h a u:=e.ok ok
theorem dk_rd {kvs:List (Key×V)}(ok:HOk P w H h)(e:Rd H a (.dK kvs)):kvs.length≤sizeLine∧(a == sysModules)=false∧∃vs,KV kvs vs∧h.DictOf (mixKind P w) a vs :=
 show ObjOk P w H h a (.dK kvs)from rd_of ok e
theorem dk_of {kvs:List (Key×V)}(ok:HOk P w H h)(e:H a=some (.dK kvs)):kvs.length≤sizeLine∧(a == sysModules)=false∧∃vs,KV kvs vs∧h.DictOf (mixKind P w) a vs:=dk_rd ok (.inl e)
theorem key_of {ks:List Key}(ok:HOk P w H h)(e:H a=some (.tup (ks.map kV))):(tupleKind (mixKind P w)).is h ks a:=by
 obtain⟨_,its,r,o,h1,h2,n,h3⟩:=(show ObjOk P w H h a (.tup (ks.map kV))from ok a _ e)
 exact⟨o,its.toArray,n,h1,h2,h3,by simpa using items_are r⟩
theorem dt_rd {kvs:List (List Key×V)}(ok:HOk P w H h)(e:Rd H a (.dT kvs)):kvs.length≤sizeLine∧(a == sysModules)=false ∧
  ∃xs,KT H kvs xs∧h.DictOfH (tupleKind (mixKind P w)) a xs:=by
 obtain⟨z,y,xs,r,o,es,ep,h1,h2,h3,h4,h5⟩:=(show ObjOk P w H h a (.dT kvs)from rd_of ok e)
 refine⟨z,y,xs,r,o,es,ep,h1,h2,h3,h4,fun x hx=>?_,h5⟩
 have all:∀ {l:List (List Key×V)}{m:List (List Key×Addr×Value)},KT H l m→∀x∈m,(tupleKind (mixKind P w)).is h x.1 x.2.1:=by
  intro l m q
  induction q with
  | nil=>intro x hx;exact nomatch hx
  | @cons p q ps qs hq t ih =>
   intro x hx
   rcases List.mem_cons.mp hx with e |hx
   ·subst e
    exact key_of ok (by rw[← hq.1];exact hq.2.1)
   ·exact ih x hx
 exact all r x hx
theorem dt_of {kvs:List (List Key×V)}(ok:HOk P w H h)(e:H a=some (.dT kvs)):kvs.length≤sizeLine∧(a == sysModules)=false ∧
  ∃xs,KT H kvs xs∧h.DictOfH (tupleKind (mixKind P w)) a xs:=dt_rd ok (.inl e)
end
noncomputable def DGet (H:Hp)(a:Addr)(y:V)(r:Option V):Prop :=
 (∃kvs k,Rd H a (.dK kvs)∧y=kV k∧r=valV kvs k)∨∃kvs k b,Rd H a (.dT kvs)∧y = .ref b∧H b=some (.tup (k.map kV))∧r=valV kvs k
noncomputable def DPut (H:Hp)(a:Addr)(y v:V)(H':Hp):Prop :=
 (∃kvs k,H a=some (.dK kvs)∧y=kV k∧kvs.length<sizeLine∧H'=upd H a (.dK (putK kvs k v))) ∨
 ∃kvs k b,H a=some (.dT kvs)∧y = .ref b∧H b=some (.tup (k.map kV))∧kvs.length<sizeLine∧H'=upd H a (.dT (putK kvs k v))
theorem DGet.k {H:Hp}{a:Addr}{kvs:List (Key×V)}{k:Key}(e:H a=some (.dK kvs)):DGet H a (kV k) (valV kvs k):=.inl ⟨kvs,k,.inl e,rfl,rfl⟩
theorem DGet.t {H:Hp}{a b:Addr}{kvs:List (List Key×V)}{k:List Key}(e:H a=some (.dT kvs))(eb:H b=some (.tup (k.map kV))):DGet H a (.ref b) (valV kvs k):=.inr ⟨kvs,k,b,.inl e,rfl,eb,rfl⟩
theorem DPut.k {H:Hp}{a:Addr}{kvs:List (Key×V)}{k:Key}{v:V}(e:H a=some (.dK kvs))(hl:kvs.length<sizeLine):DPut H a (kV k) v (upd H a (.dK (putK kvs k v))):=.inl ⟨kvs,k,e,rfl,hl,rfl⟩
theorem DPut.t {H:Hp}{a b:Addr}{kvs:List (List Key×V)}{k:List Key}{v:V}(e:H a=some (.dT kvs))(eb:H b=some (.tup (k.map kV)))(hl:kvs.length<sizeLine) :
  DPut H a (.ref b) v (upd H a (.dT (putK kvs k v))):=.inr ⟨kvs,k,b,e,rfl,eb,hl,rfl⟩
section
variable {X:Cx}{pins:List (Addr×Obj)}{σ:St}{H:Hp}{s:Shared}{a:Addr}{y v:V}{u r:Value}{o:Option V}{A:Around}{E:Value→Shared→Prop}
theorem Inv.big (I:Inv X pins σ H s):sysModules<s.heap.objs.size:=by
 have h:mainGlobals<s.heap.objs.size:=(I.mod.glob.keeps I.bk).lt
 exact Nat.lt_trans (by decide) h
theorem d_getItem {Q:Value→Shared→Prop}(hu:A.units+1<cLine)(I:Inv X pins σ H s)(g:DGet H a y (some v))(ry:RelV y u)(h:∀w' s',Inv X pins σ H s'→RelV v w'→Q w' s') :
  wpAny (model X.prog X.w) A (getItem (.ref a) u) Q E s:=by
 rcases g with ⟨kvs,k,e,ey,l⟩ | ⟨kvs,k,b,e,ey,eb,l⟩
 ·subst ey
  obtain⟨z,hd,vs,rel,dd⟩:=dk_rd I.hok e
  obtain⟨w',hw,rw'⟩:=RelO.some_of (v:=v) (o:=valueAt vs k) (by rw[l];exact rel.val k)
  exact wpAny_getItem_of (kV_is ry) dd.mapOf hw (h w' _ (I.tok _) rw')
 ·subst ey
  cases (show u=Value.ref b from ry)
  obtain⟨z,hd,xs,rel,dd⟩:=dt_rd I.hok e
  obtain⟨w',hw,rw'⟩:=RelO.some_of (v:=v) (o:=(atKey xs k).map (·.2)) (by rw[l];exact rel.val k)
  obtain⟨p,hp,hp2⟩:=Option.map_eq_some_iff.mp hw
  refine wpAny_getItem_heap (tupleKind_room_in1 hu) (key_of I.hok eb) dd hp ?_
  rw[hp2]
  exact h w' _ (I.tok _) rw'
theorem d_write {h':Heap}{t':Nat}{ob:HO}(I:Inv X pins σ H s)(mu:Mut (H a))(hs:Heap.SameBut a s.heap h')(he:∃q,h'.get? a=some q)(new:ObjOk X.prog X.w (upd H a ob) h' a ob) :
  Inv X pins σ (upd H a ob) { s with heap:=h',toks:=t' } :=
 I.write (x:=a) (e:=a) mu (.inl rfl) (fun b q hb z=>(hs.2 b hb).trans z) he new
theorem dk_new {P:Program}{w:World}{H':Hp}{h':Heap}{kvs:List (Key×V)}{vs:List (Key×Value)}(z:kvs.length≤sizeLine)(hd:(a == sysModules)=false)(rel:KV kvs vs)(dd:h'.DictOf (mixKind P w) a vs) :
  ObjOk P w H' h' a (.dK kvs):=⟨z,hd,vs,rel,dd⟩
theorem d_setItem {H':Hp}{Q:Unit→Shared→Prop}(hu:A.units+1<cLine)(I:Inv X pins σ H s)(g:DPut H a y v H')(ry:RelV y u)(rv:RelV v r)(h:∀s',Inv X pins σ H' s'→Q () s') :
  wpAny (model X.prog X.w) A (setItem (.ref a) u r) Q E s:=by
 rcases g with ⟨kvs,k,e,ey,l,eH⟩ | ⟨kvs,k,b,e,ey,eb,l,eH⟩
 ·subst ey eH
  obtain⟨z,hd,vs,rel,dd⟩:=dk_of I.hok e
  have hz:vs.length≤sizeLine:=by rw[← rel.length];exact z
  have hl:(putK kvs k v).length≤sizeLine:=by have:=length_putK kvs k v;omega
  refine wpAny_setItem_pairs (hsz:=hz) (kV_is ry) dd fun h' dd' hs=>h _ ?_
  have he:∃q,h'.get? a=some q:=let ⟨q,_,_,hq,_⟩:=dd'; ⟨q,hq⟩
  exact d_write I (by rw[e];exact True.intro) hs he (dk_new hl hd (rel.put k rv) dd')
 ·subst ey eH
  cases (show u=Value.ref b from ry)
  obtain⟨z,hd,xs,rel,dd⟩:=dt_of I.hok e
  have hz:xs.length≤sizeLine:=by rw[← Paired.length rel];exact z
  have hl:(putK kvs k v).length≤sizeLine:=by have:=length_putK kvs k v;omega
  refine wpAny_setItem_heap (hsz:=hz) (tupleKind_room_in1 hu) (key_of I.hok eb) dd fun h' dd' hs=>h _ ?_
  obtain⟨q,es,ep,hq,h2,h3,h4,_,h5⟩:=dd'
  refine d_write I (by rw[e];exact True.intro) hs ⟨q,hq⟩ ⟨hl,hd,_,(rel.put k eb rv).keeps fun c ys ec=>?_,q,es,ep,hq,h2,h3,h4,h5⟩
  rw[upd_ne (ne_of ec e (fun z=>nomatch z))]
  exact ec
end
section
variable {X:Cx}{pins:List (Addr×Obj)}{σ:St}{H:Hp}{s:Shared}{a:Addr}{kvs:List (Key×V)}{k:Key}{u:Value}{A:Around}{E:Value→Shared→Prop}
end
noncomputable def NoSl (i:Expr):Prop:=∀ov iv,subscripted i false ov iv=operate [ov,iv] (getItem ov iv)
theorem subD_of {prog:Program}{w:World}{A:Around}{E:Value→Shared→Prop}{s:Shared}{env:Env}{value slice:Expr}{pos:Pos}{T id:String}{Q:Value→Shared→Prop}
  (hl:typeLookup (.type T) "__getitem__" = pure (some (.builtin id))) (hs:NoSl slice)
  (h:wpAny (model prog w) A (eval value env) (fun o s₁=>wpAny (model prog w) A (eval slice env) (fun i s₂=>s₂.TypeIs o T∧wpAny (model prog w) A (getItem o i) Q E s₂) E s₁) E s) :
  wpAny (model prog w) A (eval (.Subscript value slice pos) env) Q E s:=by
 refine Subscript_ (wpAny_mono h (fun o s₁ h₁=>wpAny_mono h₁ (fun i s₂ h₂=>?_) fun _ _ x=>x) fun _ _ x=>x)
 obtain⟨hT,h₂⟩:=h₂
 unfold subscriptTail
 refine wpAny_bind ?_
 rw[getitemInPython_of_ne hT.not_modules]
 refine wpAny_bind (wpAny_specialOf hT hl ?_)
 have fin:wpAny (model prog w) A (subscripted slice false o i) (fun r s₃=>wpAny (model prog w) A (letTemporaryGo value o r >>= fun _=>pure r) Q E s₃) E s₂:=by
  rw[hs o i]
  exact wpAny_operating (wpAny_mono h₂ (fun r s₃ h₃=>wpAny_bind (wpAny_letTemporaryGo (wpAny_pure h₃))) fun _ _ x=>x)
 first
  | exact wpAny_pure (wpAny_bind fin)
  | exact wpAny_bind (wpAny_pure (wpAny_bind fin))
  | exact wpAny_bind fin
theorem dict_typeIs {X:Cx}{pins:List (Addr×Obj)}{σ:St}{H:Hp}{s:Shared}{a:Addr}{y:V}{o:Option V}(I:Inv X pins σ H s)(g:DGet H a y o):s.TypeIs (.ref a) "dict":=by
 rcases g with ⟨kvs,k,e,_,_⟩ | ⟨kvs,k,b,e,_,_,_⟩
 ·obtain⟨_,_,vs,_,dd⟩:=dk_rd I.hok e
  exact dd.typeIs
 ·obtain⟨_,_,xs,_,dd⟩:=dt_rd I.hok e
  exact dd.typeIs
noncomputable def tDGet (td ty:TE):TE:=fun σ H Q=>td σ H fun x H1=>ty σ H1 fun y H2=>∃a v,x = .ref a∧DGet H2 a y (some v)∧Q v H2
noncomputable def sDPut (td ty tv:TE):TS:=fun D σ H=>tv σ H fun v H1=>td σ H1 fun x H2=>ty σ H2 fun y H3=>∃a H4,x = .ref a∧DPut H3 a y v H4∧D.nx σ H4
section
variable {X:Cx}{o i e value:Expr}{pos pos' tpos:Pos}{td ty tv:TE}
theorem pe_dget (hu:X.A.units+1<cLine)(ho:PE X o td)(hi:PE X i ty)(hs:NoSl i):PE X (.Subscript o i pos) (tDGet td ty):=by
 intro pins s σ H Q I h
 refine subD_of PySem.F.slot_dict_getitem.lookup hs (thn (ho pins s σ H _ I h) fun u s1 ⟨x,H1,I1,rx,q1⟩=>thn (hi pins s1 σ H1 _ I1 q1) fun iv s2 ⟨y,H2,I2,ry,a,v,ex,g,q2⟩=>?_)
 subst ex
 obtain rfl:u=Value.ref a:=rx
 exact⟨dict_typeIs I2 g,d_getItem hu I2 g ry fun w' s3 I3 rw'=>⟨v,H2,I3,rw',q2⟩⟩
theorem ps_dput (hu:X.A.units+1<cLine)(ho:PE X o td)(hi:PE X i ty)(hv:PE X value tv)(hs:swapsWith value (some (.Subscript o i pos')) pos.line X.env=pure false) :
  PS X (.Assign [.Subscript o i pos'] value pos) (sDPut td ty tv):=by
 intro pins s σ H D I h
 refine wpAny_Assign_Subscript (thn (hv pins s σ H _ I h) fun r s1 ⟨v,H1,I1,rv,q1⟩=>thn (ho pins s1 σ H1 _ I1 q1) fun u s2 ⟨x,H2,I2,rx,q2⟩=>thn (hi pins s2 σ H2 _ I2 q2) fun iv s3 ⟨y,H3,I3,ry,a,H4,ex,g,q3⟩=>?_) hs
 subst ex
 obtain rfl:u=Value.ref a:=rx
 exact d_setItem hu I3 g ry rv fun s4 I4=>⟨σ,H4,I4,q3⟩
end
theorem dk_empty {P:Program}{w:World}{H:Hp}(h:Heap)(hb:sysModules<h.objs.size):ObjOk P w H (h.push { cls:=.type "dict",data:=.dict #[] }) h.objs.size (.dK []) :=
 ⟨Nat.zero_le _,beq_eq_false_iff_ne.mpr (Ne.symm (Nat.ne_of_lt hb)),[],.nil,Heap.DictOf.new h⟩
theorem dt_empty {P:Program}{w:World}{H:Hp}(h:Heap)(hb:sysModules<h.objs.size):ObjOk P w H (h.push { cls:=.type "dict",data:=.dict #[] }) h.objs.size (.dT []) :=
 ⟨Nat.zero_le _,beq_eq_false_iff_ne.mpr (Ne.symm (Nat.ne_of_lt hb)),[],.nil,_,#[],0,Heap.get?_push_size _ rfl,⟨rfl,rfl,rfl⟩,rfl,rfl,List.nodup_nil⟩
noncomputable def tDNewK:TE:=fun _ H Q=>∀p,H p=none→Q (.ref p) (upd H p (.dK []))
noncomputable def tDNewT:TE:=fun _ H Q=>∀p,H p=none→Q (.ref p) (upd H p (.dT []))
section
variable {X:Cx}{pos:Pos}
theorem pe_dnewK:PE X (.Dict [] [] pos) tDNewK:=fun pins s σ H Q I h =>
 wpAny_Dict_empty ⟨.ref s.heap.objs.size,_,I.laid (a:=s.heap.objs.size) (o:=.dK []) (t':=s.toks) (fun _ _ q=>Heap.get?_push_of_some _ q) (Nat.le_refl _) (dk_empty s.heap I.big),rfl,h _ (I.hok.fresh (Nat.le_refl _))⟩
theorem pe_dnewT:PE X (.Dict [] [] pos) tDNewT:=fun pins s σ H Q I h =>
 wpAny_Dict_empty ⟨.ref s.heap.objs.size,_,I.laid (a:=s.heap.objs.size) (o:=.dT []) (t':=s.toks) (fun _ _ q=>Heap.get?_push_of_some _ q) (Nat.le_refl _) (dt_empty s.heap I.big),rfl,h _ (I.hok.fresh (Nat.le_refl _))⟩
end
structure M1 (X:Cx) (o:Expr) (m:Str) (apos:Pos) (e:Expr) (cpos:Pos):Prop where
 base:attributeBase o m X.env (eval o X.env)=eval o X.env
 few:((backTo cpos (starEach [e] X.env)).all (fun x=>!x.1) && (backToKw cpos (keywordEach [] X.env)).all (fun x=>x.1.isSome)
  && decide (([e]:List Expr).length+([]:List Keyword).length+(if ([]:List Keyword).isEmpty then 0 else 1)<30))=true
 line:(apos.endLine == cpos.line)=true
 trees:backTo cpos (starEach [e] X.env) = [(false,eval e X.env)]
structure M2 (X:Cx) (o:Expr) (m:Str) (apos:Pos) (e f:Expr) (cpos:Pos):Prop where
 base:attributeBase o m X.env (eval o X.env)=eval o X.env
 few:((backTo cpos (starEach [e,f] X.env)).all (fun x=>!x.1) && (backToKw cpos (keywordEach [] X.env)).all (fun x=>x.1.isSome)
  && decide (([e,f]:List Expr).length+([]:List Keyword).length+(if ([]:List Keyword).isEmpty then 0 else 1)<30))=true
 line:(apos.endLine == cpos.line)=true
 trees:backTo cpos (starEach [e,f] X.env) = [(false,eval e X.env),(false,eval f X.env)]
noncomputable def IsD (H:Hp)(a:Addr):Prop:=(∃kvs,Rd H a (.dK kvs))∨∃kvs,Rd H a (.dT kvs)
theorem isD_at {X:Cx}{pins:List (Addr×Obj)}{σ:St}{H:Hp}{s:Shared}{a:Addr}(I:Inv X pins σ H s)(d:IsD H a) :
  s.TypeIs (.ref a) "dict"∧(∀b,Value.ref a = .ref b→∃ob,s.heap.get? b=some ob∧ob.dict=none)∧(a == sysModules)=false:=by
 rcases d with ⟨kvs,e⟩ | ⟨kvs,e⟩
 ·obtain⟨_,hd,vs,_,dd⟩:=dk_rd I.hok e
  refine⟨dd.typeIs,fun b q=>?_,hd⟩
  cases q
  obtain⟨ob,_,_,h1,h2,_⟩:=dd
  exact⟨ob,h1,h2.2.1⟩
 ·obtain⟨_,hd,xs,_,dd⟩:=dt_rd I.hok e
  refine⟨dd.typeIs,fun b q=>?_,hd⟩
  cases q
  obtain⟨ob,_,_,h1,h2,_⟩:=dd
  exact⟨ob,h1,h2.2.1⟩
section
variable {X:Cx}{pins:List (Addr×Obj)}{σ:St}{H:Hp}{s:Shared}{a:Addr}{y d:V}{u r:Value}{o:Option V}{A:Around}{E:Value→Shared→Prop}
theorem d_get2 {Q:Value→Shared→Prop}(hu:A.units+1<cLine)(I:Inv X pins σ H s)(g:DGet H a y o)(ry:RelV y u)(rd:RelV d r)(h:∀w' s',Inv X pins σ H s'→RelV (o.getD d) w'→Q w' s') :
  wpAny (model X.prog X.w) A (call (.builtin "dict.get") [.ref a,u,r]) Q E s:=by
 rcases g with ⟨kvs,k,e,ey,l⟩ | ⟨kvs,k,b,e,ey,eb,l⟩
 ·subst ey
  obtain⟨z,hd,vs,rel,dd⟩:=dk_rd I.hok e
  refine call_meetsIn PySem.F.slot_dict_get dd.typeIs PySem.F.entry_dict_get (PySem.F.args_dict_get_3 _ _ _) (meets_dict_get_default (mixKind X.prog X.w) a (kV_is ry) hd r) ⟨_,dd.mapOf,h _ _ (I.tok _) ?_⟩
  rw[l]
  exact(rel.val k).getD rd
 ·subst ey
  cases (show u=Value.ref b from ry)
  obtain⟨z,hd,xs,rel,dd⟩:=dt_rd I.hok e
  refine call_meetsIn PySem.F.slot_dict_get dd.typeIs PySem.F.entry_dict_get (PySem.F.args_dict_get_3 _ _ _) (meetsH_dict_get_default (tupleKind (mixKind X.prog X.w)) a b hd r) ⟨tupleKind_room_in1 hu,k,xs,key_of I.hok eb,dd,h _ _ (I.tok _) ?_⟩
  rw[l]
  exact(rel.val k).getD rd
end
noncomputable def tDGet2 (td ty tx:TE):TE:=fun σ H Q=>td σ H fun x H1=>∃a,x = .ref a∧IsD H1 a∧ty σ H1 fun y H2=>tx σ H2 fun z H3=>∃o,DGet H3 a y o∧Q (o.getD z) H3
section
variable {X:Cx}{o e f:Expr}{apos cpos:Pos}{td ty tx:TE}
theorem pe_dget2 (hu:X.A.units+1<cLine)(ho:PE X o td)(he:PE X e ty)(hf:PE X f tx)(m:M2 X o "get" apos e f cpos):PE X (.Call (.Attribute o "get" apos) [e,f] [] cpos) (tDGet2 td ty tx):=by
 intro pins s σ H Q I h
 refine wpAny_Call_method m.base m.few m.line PySem.F.plainAttrs_dict PySem.F.slot_dict_get PySem.F.type_dict_get (thn (ho pins s σ H _ I h) fun u s1 ⟨x,H1,I1,rx,a,ex,d,q1⟩=>?_)
 subst ex
 obtain rfl:u=Value.ref a:=rx
 obtain⟨t1,t2,_⟩:=isD_at I1 d
 refine⟨t1,t2,?_⟩
 rw[m.trees]
 refine Calls.callWith_builtin rfl (Calls.evalArgs_plain (Calls.spliced_cons (thn (he pins s1 σ H1 _ I1 q1) fun iv s2 ⟨y,H2,I2,ry,q2⟩ =>
  Calls.spliced_cons (thn (hf pins s2 σ H2 _ I2 q2) fun fv s3 ⟨z,H3,I3,rz,ov,g,q3⟩=>Calls.spliced_nil ?_))))
 exact d_get2 hu I3 g ry rz fun w' s4 I4 rw'=>⟨_,H3,I4,rw',q3⟩
end
section
variable {X:Cx}{pins:List (Addr×Obj)}{σ:St}{H:Hp}{s:Shared}{a:Addr}{kvs:List (Key×V)}{A:Around}{E:Value→Shared→Prop}
end
section
variable {X:Cx}{pins:List (Addr×Obj)}{σ:St}{H:Hp}{s:Shared}{a:Addr}{y:V}{u:Value}{A:Around}{E:Value→Shared→Prop}
end
section
variable {X:Cx}
end
section
variable {κ:Type}[DecidableEq κ]
end
end L2
namespace Zt
open PySem PySem.Spec
structure Src (i:Addr) (fp:List Addr) (S:Nat→Heap→Prop) (nth:Nat→Option Value):Prop where
 mem:i∈fp
 stay:∀k h h',S k h→(∀b∈fp,∀o,h.get? b=some o→h'.get? b=some o)→S k h'
 obj:∀k h,S k h→∃o,h.get? i=some o∧∀v,o.data ≠ .cell v
 item:∀ {prog:Program}{w:World}{A:Around}{E:Value→Shared→Prop}{s:Shared}{Q:Value→Shared→Prop}{k:Nat}{x:Value},S k s.heap→nth k=some x →
  (∀h',S (k+1) h'→Heap.SameBut i s.heap h'→Q x { s with heap:=h' })→wpAny (model prog w) A (Builtin.SmallTypes.nextOf (.ref i)) Q E s
 fin:∀ {prog:Program}{w:World}{A:Around}{E:Value→Shared→Prop}{s:Shared}{Q:Value→Shared→Prop}{k:Nat},A.handled=none→S k s.heap→nth k=none →
  (∀h' e,Heap.ExtBut i s.heap h'→(∃o,h'.get? e=some o∧o.cls = .type "StopIteration")→E (.ref e) { s with heap:=h' })→wpAny (model prog w) A (Builtin.SmallTypes.nextOf (.ref i)) Q E s
theorem srcT (i t:Addr)(hne:t≠i)(its:Array Value):Src i [i,t] (fun k h=>h.IsTupleIter i t k∧h.IsTuple t its) (fun k=>its[k]?) where
 mem:=List.mem_cons_self
 stay:=by
  rintro k h h' ⟨⟨o,e,r⟩,⟨o2,e2,r2⟩⟩ hk
  exact⟨⟨o,hk i (by simp) o e,r⟩,⟨o2,hk t (by simp) o2 e2,r2⟩⟩
 obj:=by
  rintro k h ⟨⟨o,e,c,d⟩,_⟩
  exact⟨o,e,fun v z=>by rw[d]at z;cases z⟩
 item:=by
  rintro prog w A E s Q k x ⟨hit,ht⟩ hx hQ
  obtain⟨o,ho,hc,hd⟩:=id hit;obtain⟨ol,hol,hlc,nl,hdl⟩:=id ht
  unfold Builtin.SmallTypes.nextOf
  refine wpAny_bind (wpAny_callSpecial?_slot (name:=Str.ofString "__next__") hit.typeIs F.slot_tuple_iterator_next (wpAny_call_entry F.slot_tuple_iterator_next hit.typeIs F.entry_tuple_iterator_next ?_ (F.args_tuple_iterator_next_1 _)))
  show wpAny _ _ (field (.ref i) 0 >>= _) _ _ s;refine wpAny_bind (wpAny_field ho hd (x:=.ref t) rfl ?_)
  show wpAny _ _ (if (Value.ref t == Value.none)=true then _ else _) _ _ s;rw[if_neg (show ¬ ((Value.ref t == Value.none)=true)from Bool.false_ne_true)]
  show wpAny _ _ (field (.ref i) 1 >>= _) _ _ s;refine wpAny_bind (wpAny_field ho hd (x:=.int k 0) rfl ?_)
  show wpAny _ _ (seqItems? (.ref t) >>= _) _ _ s;refine wpAny_bind (wpAny_seqItems hol hdl ?_)
  simp only[Int.toNat_natCast,hx]
  refine wpAny_bind (wpAny_setField ho hd (by simp) (wpAny_pure ⟨x,rfl,wpAny_pure (hQ _ ⟨?_,ht.extBut (Heap.SameBut.update ..).extBut hne⟩ (Heap.SameBut.update ..))⟩))
  refine⟨_,Heap.get?_update_self _ ho (Obj.isFreed_of_fields (Obj.data_mapFields hd _)),(Obj.cls_mapFields ..).trans hc,?_⟩
  rw[Obj.data_mapFields hd];simp[rawInt]
 fin:=by
  rintro prog w A E s Q k hh ⟨hit,ht⟩ hx hE
  obtain⟨o,ho,hc,hd⟩:=id hit;obtain⟨ol,hol,hlc,nl,hdl⟩:=id ht
  unfold Builtin.SmallTypes.nextOf
  refine wpAny_bind (wpAny_callSpecial?_slot (name:=Str.ofString "__next__") hit.typeIs F.slot_tuple_iterator_next (wpAny_call_entry F.slot_tuple_iterator_next hit.typeIs F.entry_tuple_iterator_next ?_ (F.args_tuple_iterator_next_1 _)))
  show wpAny _ _ (field (.ref i) 0 >>= _) _ _ s;refine wpAny_bind (wpAny_field ho hd (x:=.ref t) rfl ?_)
  show wpAny _ _ (if (Value.ref t == Value.none)=true then _ else _) _ _ s;rw[if_neg (show ¬ ((Value.ref t == Value.none)=true)from Bool.false_ne_true)]
  show wpAny _ _ (field (.ref i) 1 >>= _) _ _ s;refine wpAny_bind (wpAny_field ho hd (x:=.int k 0) rfl ?_)
  show wpAny _ _ (seqItems? (.ref t) >>= _) _ _ s;refine wpAny_bind (wpAny_seqItems hol hdl ?_)
  simp only[Int.toNat_natCast,hx]
  refine wpAny_bind (wpAny_rule (wpAny_bind (wpAny_setField ho hd (by simp) ?_)));show wpAny _ _ (newExc (.type "StopIteration") [] >>= _) _ _ _
  refine wpAny_bind ?_;simp only[newExc,newTuple];refine wpAny_bind (wpAny_newObj_type ?_ (by size_fits))
  refine wpAny_bind (m:=firstArgMember _ _) (wpAny_of_eq (a:=Value.none) (by first |rfl | (simp only[firstArgMember];rfl)) ?_);refine wpAny_newObj_type ?_ (by size_fits)
  simp only[raiseNew];refine wpAny_bind (wpAny_handled ?_);first |rw[show A.in1.handled=none from hh] |rw[hh]
  refine wpAny_bind (wpAny_pure (wpAny_throw ?_));exact hE _ _ (((Heap.SameBut.update ..).extBut.push _).push _) ⟨_,Heap.get?_push_size _ rfl,rfl⟩
structure Apart (z TI TO i1 i2:Addr) (f1 f2:List Addr):Prop where
 TIz:TI≠z
 TOz:TO≠z
 i1z:i1≠z
 i2z:i2≠z
 TITO:TI≠TO
 TIi1:TI≠i1
 TIi2:TI≠i2
 TOi1:TO≠i1
 TOi2:TO≠i2
 i12:i1≠i2
 z1:z∉f1
 z2:z∉f2
 o1:TO∉f1
 o2:TO∉f2
 c12:i1∉f2
 c21:i2∉f1
section
variable {prog:Program}{w:World}{A:Around}{E:Value→Shared→Prop}{s:Shared}{z TI TO i1 i2:Addr}{f1 f2:List Addr}{S1 S2:Nat→Heap→Prop}{n1 n2:Nat→Option Value}{k1 k2:Nat}{a b:Value}
theorem Src.but {i:Addr}{fp:List Addr}{S:Nat→Heap→Prop}{nth:Nat→Option Value}(R:Src i fp S nth) {k:Nat}{h h':Heap}{c:Addr}(st:S k h)(e:Heap.ExtBut c h h')(hc:c∉fp):S k h' :=
 R.stay k h h' st fun b hb o q=>e b o (fun z=>hc (z ▸ hb)) q
theorem next_item {x y:Value}{Q:Value→Shared→Prop}(R1:Src i1 f1 S1 n1)(R2:Src i2 f2 S2 n2)(D:Apart z TI TO i1 i2 f1 f2)
  (hz:IsZip s.heap z TI TO .none) (hTI:IsPair s.heap TI (.ref i1) (.ref i2)) (hTO:IsPair s.heap TO a b) (h1:S1 k1 s.heap) (h2:S2 k2 s.heap) (hx:n1 k1=some x) (hy:n2 k2=some y)
  (hQ:∀h',IsZip h' z TI TO (rawInt s.heap.objs.size)→IsPair h' TO x y→S1 (k1+1) h'→S2 (k2+1) h'→IsPair h' s.heap.objs.size x y →
   (∀c o,c≠z→c≠TO→c≠i1→c≠i2→s.heap.get? c=some o→h'.get? c=some o)→Q (.ref s.heap.objs.size) { s with heap:=h' }) :
  wpAny (model prog w) A (Builtin.«zip.__next__» ⟨[.ref z],[]⟩) (fun fin s'=>∃v,fin = .done (.ret v)∧Q v s') E s:=by
 show wpAny _ _ (field (.ref z) 2 >>= _) _ _ _;refine wpAny_bind (wpAny_field hz rfl (x:=.bool false) rfl ?_)
 show wpAny _ _ (field (.ref z) 3 >>= _) _ _ _;refine wpAny_bind (wpAny_field hz rfl (x:=.ref TI) rfl ?_);refine wpAny_bind (wpAny_seqItems hTI rfl ?_)
 show wpAny _ _ (Builtin.SmallTypes.ownedTupleIsFree (.ref z) >>= _) _ _ _;refine wpAny_bind ?_;unfold Builtin.SmallTypes.ownedTupleIsFree
 refine wpAny_bind (wpAny_field hz rfl (x:=.none) rfl (wpAny_pure ?_));simp only[if_true];refine wpAny_bind (wpAny_rule ?_)
 refine wpAny_bind (wpAny_field hz rfl (x:=.ref TO) rfl ?_);refine wpAny_bind (wpAny_setField_rec hz (by simp) fun h₁ hz₁ hs₁=>?_)
 replace hz₁:IsZip h₁ z TI TO .ellipsis:=hz₁
 refine wpAny_bind ?_;simp only[List.zipIdx_cons,List.zipIdx_nil,List.forIn_cons,List.forIn_nil]
 refine wpAny_bind (wpAny_bind (wpAny_onRaise ?_));show wpAny _ _ (Builtin.SmallTypes.nextOf (.ref i1) >>= _) _ _ _
 refine wpAny_bind (R1.item (R1.but h1 hs₁.extBut D.z1) hx fun h₂ g1 hs₂=>wpAny_pure ?_)
 have t2:IsPair h₂ TO a b:=hs₂.extBut _ _ D.TOi1 (hs₁.extBut _ _ D.TOz hTO)
 refine wpAny_bind (wpAny_seqItems t2 rfl ?_);refine wpAny_bind (wpAny_updateSeq_pair t2 fun h₃ t3 hs₃=>?_)
 replace t3:IsPair h₃ TO x b:=t3
 refine wpAny_bind (wpAny_letGo (wpAny_pure ?_));refine wpAny_bind (wpAny_bind (wpAny_onRaise ?_));show wpAny _ _ (Builtin.SmallTypes.nextOf (.ref i2) >>= _) _ _ _
 refine wpAny_bind (R2.item (R2.but (R2.but (R2.but h2 hs₁.extBut D.z2) hs₂.extBut D.c12) hs₃.extBut D.o2) hy fun h₄ g2 hs₄=>wpAny_pure ?_)
 have t4:IsPair h₄ TO x b:=hs₄.extBut _ _ D.TOi2 t3
 refine wpAny_bind (wpAny_seqItems t4 rfl ?_);refine wpAny_bind (wpAny_updateSeq_pair t4 fun h₅ t5 hs₅=>?_)
 replace t5:IsPair h₅ TO x y:=t5
 refine wpAny_bind (wpAny_letGo (wpAny_pure (wpAny_pure ?_)));refine wpAny_bind (wpAny_seqItems t5 rfl ?_);refine wpAny_bind (wpAny_newTuple ?_)
 have hsz:h₅.objs.size=s.heap.objs.size:=by rw[hs₅.1,hs₄.1,hs₃.1,hs₂.1,hs₁.1]
 have z5:IsZip h₅ z TI TO .ellipsis:=hs₅.extBut _ _ D.TOz.symm (hs₄.extBut _ _ D.i2z.symm (hs₃.extBut _ _ D.TOz.symm (hs₂.extBut _ _ D.i1z.symm hz₁)))
 have k5:∀c o,c≠z→c≠TO→c≠i1→c≠i2→s.heap.get? c=some o→h₅.get? c=some o:=fun c o c1 c2 c3 c4 e =>
  hs₅.extBut _ _ c2 (hs₄.extBut _ _ c4 (hs₃.extBut _ _ c2 (hs₂.extBut _ _ c3 (hs₁.extBut _ _ c1 e))))
 have e1:S1 (k1+1) h₅:=R1.but (R1.but (R1.but g1 hs₃.extBut D.o1) hs₄.extBut D.c21) hs₅.extBut D.o1
 have e2:S2 (k2+1) h₅:=R2.but g2 hs₅.extBut D.o2
 have lz:z<h₅.objs.size:=Heap.lt_size z5
 show wpAny _ _ (Builtin.SmallTypes.ownedTupleHandOut (.ref z) (.ref h₅.objs.size) >>= _) _ _ _;refine wpAny_bind ?_;unfold Builtin.SmallTypes.ownedTupleHandOut
 have z6:IsZip (h₅.push { cls:=.type "tuple",data:=.seq #[x,y] }) z TI TO .ellipsis:=Heap.get?_push_of_some _ z5
 refine wpAny_bind (wpAny_setField_rec z6 (by simp) fun h₇ z7 hs₇=>?_)
 replace z7:IsZip h₇ z TI TO (rawInt h₅.objs.size):=z7
 refine wpAny_setField_rec z7 (by simp) fun h₈ z8 hs₈=>?_
 replace z8:IsZip h₈ z TI TO (rawInt h₅.objs.size):=z8
 have up:∀c o,c≠z→h₅.get? c=some o→h₈.get? c=some o:=fun c o c1 e=>hs₈.extBut _ _ c1 (hs₇.extBut _ _ c1 (Heap.get?_push_of_some _ e))
 have t8:IsPair h₈ h₅.objs.size x y:=hs₈.extBut _ _ (Nat.ne_of_gt lz) (hs₇.extBut _ _ (Nat.ne_of_gt lz) (Heap.get?_push_size _ rfl))
 rw[hsz]at z8 t8
 refine wpAny_pure ⟨_,rfl,?_⟩;show Q (.ref h₅.objs.size) _;rw[hsz]
 exact hQ h₈ z8 (up _ _ D.TOz t5) (R1.stay _ _ _ e1 fun c hc o e=>up c o (fun q=>D.z1 (q ▸ hc)) e) (R2.stay _ _ _ e2 fun c hc o e=>up c o (fun q=>D.z2 (q ▸ hc)) e) t8 fun c o c1 c2 c3 c4 e=>up c o c1 (k5 c o c1 c2 c3 c4 e)
theorem next_end {Q:Fin→Shared→Prop}(hh:A.handled=none)(R1:Src i1 f1 S1 n1)(R2:Src i2 f2 S2 n2)(D:Apart z TI TO i1 i2 f1 f2)
  (hz:IsZip s.heap z TI TO .none) (hTI:IsPair s.heap TI (.ref i1) (.ref i2)) (hTO:IsPair s.heap TO a b) (h1:S1 k1 s.heap) (h2:S2 k2 s.heap) (hend:n1 k1=none∨n2 k2=none)
  (hE:∀h' e,(∀c o,c≠z→c≠TO→c≠i1→c≠i2→s.heap.get? c=some o→h'.get? c=some o)→(∃o,h'.get? e=some o∧o.cls = .type "StopIteration")→E (.ref e) { s with heap:=h' }) :
  wpAny (model prog w) A (Builtin.«zip.__next__» ⟨[.ref z],[]⟩) Q E s:=by
 show wpAny _ _ (field (.ref z) 2 >>= _) _ _ _;refine wpAny_bind (wpAny_field hz rfl (x:=.bool false) rfl ?_)
 show wpAny _ _ (field (.ref z) 3 >>= _) _ _ _;refine wpAny_bind (wpAny_field hz rfl (x:=.ref TI) rfl ?_);refine wpAny_bind (wpAny_seqItems hTI rfl ?_)
 show wpAny _ _ (Builtin.SmallTypes.ownedTupleIsFree (.ref z) >>= _) _ _ _;refine wpAny_bind ?_;unfold Builtin.SmallTypes.ownedTupleIsFree
 refine wpAny_bind (wpAny_field hz rfl (x:=.none) rfl (wpAny_pure ?_));simp only[if_true];refine wpAny_bind (wpAny_rule ?_)
 refine wpAny_bind (wpAny_field hz rfl (x:=.ref TO) rfl ?_);refine wpAny_bind (wpAny_setField_rec hz (by simp) fun h₁ hz₁ hs₁=>?_)
 replace hz₁:IsZip h₁ z TI TO .ellipsis:=hz₁
 refine wpAny_bind ?_;simp only[List.zipIdx_cons,List.zipIdx_nil,List.forIn_cons,List.forIn_nil]
 refine wpAny_bind (wpAny_bind (wpAny_onRaise ?_));show wpAny _ _ (Builtin.SmallTypes.nextOf (.ref i1) >>= _) _ _ _
 cases hx:n1 k1 with
 | none =>
  refine wpAny_bind (R1.fin hh (R1.but h1 hs₁.extBut D.z1) hx fun h₂ e hs₂ he=>?_)
  obtain⟨oe,hoe,hce⟩:=he
  have hz₂:IsZip h₂ z TI TO .ellipsis:=hs₂ _ _ D.i1z.symm hz₁
  have hez:e≠z:=fun x=>by subst x;rw[hz₂]at hoe;cases hoe;simp at hce
  exact wpAny_setField_rec hz₂ (by simp) fun h₃ _ hs₃=>hE h₃ e (fun c o c1 _ c3 _ x=>hs₃.extBut _ _ c1 (hs₂ _ _ c3 (hs₁.extBut _ _ c1 x))) ⟨oe,hs₃.extBut _ _ hez hoe,hce⟩
 | some x =>
  have hy:n2 k2=none:=by
   rcases hend with h |h
   ·rw[hx]at h;cases h
   ·exact h
  refine wpAny_bind (R1.item (R1.but h1 hs₁.extBut D.z1) hx fun h₂ g1 hs₂=>wpAny_pure ?_)
  have t2:IsPair h₂ TO a b:=hs₂.extBut _ _ D.TOi1 (hs₁.extBut _ _ D.TOz hTO)
  refine wpAny_bind (wpAny_seqItems t2 rfl ?_);refine wpAny_bind (wpAny_updateSeq_pair t2 fun h₃ t3 hs₃=>?_)
  refine wpAny_bind (wpAny_letGo (wpAny_pure ?_));refine wpAny_bind (wpAny_bind (wpAny_onRaise ?_));show wpAny _ _ (Builtin.SmallTypes.nextOf (.ref i2) >>= _) _ _ _
  refine wpAny_bind (R2.fin hh (R2.but (R2.but (R2.but h2 hs₁.extBut D.z2) hs₂.extBut D.c12) hs₃.extBut D.o2) hy fun h₄ e hs₄ he=>?_)
  obtain⟨oe,hoe,hce⟩:=he
  have hz₄:IsZip h₄ z TI TO .ellipsis:=hs₄ _ _ D.i2z.symm (hs₃.extBut _ _ D.TOz.symm (hs₂.extBut _ _ D.i1z.symm hz₁))
  have hez:e≠z:=fun x=>by subst x;rw[hz₄]at hoe;cases hoe;simp at hce
  exact wpAny_setField_rec hz₄ (by simp) fun h₅ _ hs₅=>hE h₅ e (fun c o c1 c2 c3 c4 x=>hs₅.extBut _ _ c1 (hs₄ _ _ c4 (hs₃.extBut _ _ c2 (hs₂.extBut _ _ c3 (hs₁.extBut _ _ c1 x))))) ⟨oe,hs₅.extBut _ _ hez hoe,hce⟩
theorem py_item {x y:Value}{Q:Option Value→Shared→Prop}(R1:Src i1 f1 S1 n1)(R2:Src i2 f2 S2 n2)(D:Apart z TI TO i1 i2 f1 f2)
  (hz:IsZip s.heap z TI TO .none) (hTI:IsPair s.heap TI (.ref i1) (.ref i2)) (hTO:IsPair s.heap TO a b) (h1:S1 k1 s.heap) (h2:S2 k2 s.heap) (hx:n1 k1=some x) (hy:n2 k2=some y)
  (hQ:∀h',IsZip h' z TI TO (rawInt s.heap.objs.size)→IsPair h' TO x y→S1 (k1+1) h'→S2 (k2+1) h'→IsPair h' s.heap.objs.size x y →
   (∀c o,c≠z→c≠TO→c≠i1→c≠i2→s.heap.get? c=some o→h'.get? c=some o)→Q (some (.ref s.heap.objs.size)) { s with heap:=h' }) :
  wpAny (model prog w) A (pyNext (.ref z)) Q E s:=by
 have hT:s.TypeIs (.ref z) "zip":=⟨_,hz,rfl⟩
 unfold pyNext
 exact wpAny_bind (wpAny_attempt (wpAny_callSpecial?_slot (name:=Str.ofString "__next__") hT F.slot_zip_next (wpAny_call_entry F.slot_zip_next hT F.entry_zip_next
   (next_item R1 R2 D hz hTI hTO h1 h2 hx hy fun h' a1 a2 a3 a4 a5 a7=>wpAny_pure (hQ h' a1 a2 a3 a4 a5 a7)) (F.args_zip_next_1 _))))
theorem py_end {Q:Option Value→Shared→Prop}(hh:A.handled=none)(R1:Src i1 f1 S1 n1)(R2:Src i2 f2 S2 n2)(D:Apart z TI TO i1 i2 f1 f2)
  (hz:IsZip s.heap z TI TO .none) (hTI:IsPair s.heap TI (.ref i1) (.ref i2)) (hTO:IsPair s.heap TO a b) (h1:S1 k1 s.heap) (h2:S2 k2 s.heap) (hend:n1 k1=none∨n2 k2=none)
  (hQ:∀h',(∀c o,c≠z→c≠TO→c≠i1→c≠i2→s.heap.get? c=some o→h'.get? c=some o)→Q none { s with heap:=h' }):wpAny (model prog w) A (pyNext (.ref z)) Q E s:=by
 have hT:s.TypeIs (.ref z) "zip":=⟨_,hz,rfl⟩
 unfold pyNext
 refine wpAny_bind (wpAny_attempt (wpAny_callSpecial?_slot (name:=Str.ofString "__next__") hT F.slot_zip_next
  (wpAny_call_entry F.slot_zip_next hT F.entry_zip_next (next_end hh R1 R2 D hz hTI hTO h1 h2 hend fun h' e hk he=>?_) (F.args_zip_next_1 _))))
 obtain⟨o,ho,hc⟩:=he
 exact wpAny_bind (wpAny_isInstance (T:="StopIteration") (b:=true) ⟨o,ho,hc⟩ isSubtype_stop (wpAny_pure (hQ _ hk)))
end
noncomputable abbrev g1 (h:Heap)(l1:Addr):Heap:=h.push { cls:=.type "tuple_iterator",data:=.fields #[.ref l1,.int 0 0] }
noncomputable abbrev g2 (h:Heap)(l1 l2:Addr):Heap:=(g1 h l1).push { cls:=.type "tuple_iterator",data:=.fields #[.ref l2,.int 0 0] }
noncomputable abbrev g3 (h:Heap)(l1 l2:Addr):Heap:=(g2 h l1 l2).push { cls:=.type "tuple",data:=.seq #[.ref h.objs.size,.ref (g1 h l1).objs.size] }
noncomputable abbrev g4 (h:Heap)(l1 l2:Addr):Heap:=(g3 h l1 l2).push { cls:=.type "tuple",data:=.seq #[.none,.none] }
noncomputable abbrev g5 (h:Heap)(l1 l2:Addr):Heap:=(g4 h l1 l2).push { cls:=.type "zip",data:=.fields #[.none,.bool false,.bool false,.ref (g2 h l1 l2).objs.size,.ref (g3 h l1 l2).objs.size] }
theorem meets_new (l1 l2:Addr)(xs ys:Array Value) :
  Meets (Builtin.«zip.__new__» ⟨[.type "zip",.ref l1,.ref l2],[]⟩) (fun _ R s=>s.heap.IsTuple l1 xs∧s.heap.IsTuple l2 ys ∧
   R (.ok (.ret (.ref (g4 s.heap l1 l2).objs.size))) { s with heap:=g5 s.heap l1 l2 }) :=
 .of_wp fun prog w A R s h=>by
  obtain⟨hp,g,d,tk,os⟩:=s;obtain⟨hl1,hl2,h⟩:=h
  have hsub:=sub_zip
  have hL1:Heap.IsTuple (Shared.heap ⟨hp,g,d,tk,os⟩) l1 xs:=hl1
  have hL2:Heap.IsTuple (Shared.heap ⟨hp.push { cls:=.type "tuple_iterator",data:=.fields #[.ref l1,.int 0 0] },g,d,tk,os⟩) l2 ys:=Heap.IsTuple.push hl2 _
  wp_walk using wpAny_pyIter_tuple hL1,wpAny_pyIter_tuple hL2
  exact⟨_,rfl,h⟩
theorem call_zip {prog:Program}{w:World}{A:Around}{E:Value→Shared→Prop}{s:Shared}{l1 l2:Addr}{xs ys:Array Value}{Q:Value→Shared→Prop}(hl1:s.heap.IsTuple l1 xs)(hl2:s.heap.IsTuple l2 ys)
  (h:∀h',IsZip h' (s.heap.objs.size+4) (s.heap.objs.size+2) (s.heap.objs.size+3) .none→IsPair h' (s.heap.objs.size+2) (.ref s.heap.objs.size) (.ref (s.heap.objs.size+1)) →
   IsPair h' (s.heap.objs.size+3) .none .none→h'.IsTupleIter s.heap.objs.size l1 0→h'.IsTupleIter (s.heap.objs.size+1) l2 0 →
   (∀c o,s.heap.get? c=some o→h'.get? c=some o)→Q (.ref (s.heap.objs.size+4)) { s with heap:=h' }) :
  wpAny (model prog w) A (call (.type "zip") [.ref l1,.ref l2]) Q E s:=by
 refine callType_new F.called_zip (by decide) (F.typeCall_zip_2 _ _) (F.newCall_zip_2 _ _) (fun obj=>F.args_object_init_3 obj _ _) F.entry_zip_new (meets_new l1 l2 xs ys) ⟨hl1,hl2,?_⟩
 have z1:(g1 s.heap l1).objs.size=s.heap.objs.size+1:=Heap.size_push ..
 have z2:(g2 s.heap l1 l2).objs.size=s.heap.objs.size+2:=by rw[Heap.size_push,z1]
 have z3:(g3 s.heap l1 l2).objs.size=s.heap.objs.size+3:=by rw[Heap.size_push,z2]
 have z4:(g4 s.heap l1 l2).objs.size=s.heap.objs.size+4:=by rw[Heap.size_push,z3]
 have q5:(g5 s.heap l1 l2).get? (g4 s.heap l1 l2).objs.size=some _:=Heap.get?_push_size _ rfl
 have q4:(g5 s.heap l1 l2).get? (g3 s.heap l1 l2).objs.size=some _:=Heap.get?_push_of_some _ (Heap.get?_push_size _ rfl)
 have q3:(g5 s.heap l1 l2).get? (g2 s.heap l1 l2).objs.size=some _:=Heap.get?_push_of_some _ (Heap.get?_push_of_some _ (Heap.get?_push_size _ rfl))
 have q2:(g5 s.heap l1 l2).get? (g1 s.heap l1).objs.size=some _:=Heap.get?_push_of_some _ (Heap.get?_push_of_some _ (Heap.get?_push_of_some _ (Heap.get?_push_size _ rfl)))
 have q1:(g5 s.heap l1 l2).get? s.heap.objs.size=some _:=Heap.get?_push_of_some _ (Heap.get?_push_of_some _ (Heap.get?_push_of_some _ (Heap.get?_push_of_some _ (Heap.get?_push_size _ rfl))))
 show _∧_
 rw[z2,z3,z4]at q5;rw[z1,z2]at q3;rw[z3]at q4;rw[z1]at q2;rw[z4]
 exact⟨⟨_,q5,rfl⟩,h _ q5 q3 q4 ⟨_,q1,rfl,rfl⟩ ⟨_,q2,rfl,rfl⟩ fun c o x =>
  Heap.get?_push_of_some _ (Heap.get?_push_of_some _ (Heap.get?_push_of_some _ (Heap.get?_push_of_some _ (Heap.get?_push_of_some _ x))))⟩
end Zt
namespace L2
open PySem PySem.Spec PyProof.Rows
theorem Inv.spun {X:Cx}{pins:List (Addr×Obj)}{σ:St}{H:Hp}{s:Shared}{h':Heap}{t':Nat}{ch:List Addr}(I:Inv X pins σ H s)(hch:∀b∈ch,FpOk X pins H b)
  (k:∀b o,b∉ch→s.heap.get? b=some o→h'.get? b=some o):Inv X pins σ H { s with heap:=h',toks:=t' }:=by
 have nit:∀b u,H b=some u→b∉ch:=fun b u e z=>by rw[(hch b z).1]at e;cases e
 refine I.step (g':=s.gens) (d':=s.drawn) (ch:=ch) (fun b hb=>?_) (fun b o _ _ hc e _=>k b o hc e) (fun b o _ _ hc e _=>⟨o.slots,k b o hc e⟩) (fun _ _ _ _ n=>n)
  (fun b o hc e=>⟨o,k b o hc e⟩) (fun _ _ e=>e) (fun _ _ _ e=>e) (fun b ps e=>⟨#[],by rw[e];simp⟩) (fun m hm=>?_) (fun b u e=>?_) I.bare
 ·obtain⟨f0,f1,f2,f3,f4,f5⟩:=hch b hb
  exact⟨f3,f1,f4,f5⟩
 ·obtain⟨o,es,ep,ho,r⟩:=hm
  exact⟨o,es,ep,k _ o (fun z=>(hch _ z).2.1 rfl) ho,r⟩
 ·refine(I.hok b u e).stay (fun c v hc q=>k c v ?_ q) (fun _ q=>q) fun _ _ q=>q
  rcases hc with z |z
  ·rw[z];exact nit b u e
  ·exact nit c _ z
theorem Inv.track {X:Cx}{pins:List (Addr×Obj)}{σ:St}{H:Hp}{s s1:Shared}{a:Addr}{o:HO}(I:Inv X pins σ H s)(J:Inv X pins σ H s1)(ha:s.heap.objs.size≤a)(new:ObjOk X.prog X.w (upd H a o) s1.heap a o) :
  Inv X pins σ (upd H a o) s1:=by
 have hn:H a=none:=I.hok.fresh ha
 have ne:∀b u,s.heap.get? b=some u→b≠a:=fun b u e=>Nat.ne_of_lt (Nat.lt_of_lt_of_le (Heap.lt_size e) ha)
 have h0:X.s₀.heap.objs.size≤a:=Nat.le_trans I.sz ha
 have ne0:∀b u,X.s₀.heap.get? b=some u→b≠a:=fun b u e=>Nat.ne_of_lt (Nat.lt_of_lt_of_le (Heap.lt_size e) h0)
 refine⟨J.ok,J.os,J.bare,⟨J.base.keep,J.base.slot,fun b u e n hx=>?_,J.base.there,fun b xs e=>?_,fun b u v e=>?_,fun b ps e=>?_⟩,J.loc,J.cell,?_,fun x c e=>?_,fun p hp=>?_,fun b u e=>?_,J.len⟩
 ·rw[upd_ne (ne0 b u e)];exact J.base.free b u e n hx
 ·have q:=J.base.tups b xs e
  rw[upd_ne (ne_of_none q hn)];exact q
 ·have q:=J.base.frzs b u v e
  rw[upd_ne (ne_of_none q hn)];exact q
 ·obtain⟨m,q⟩:=J.base.tbls b ps e
  exact⟨m,by rw[upd_ne (ne_of_none q hn)];exact q⟩
 ·obtain⟨m,⟨ob,_,_,e,_⟩,_⟩:=I.loc
  rw[upd_ne (ne _ _ e)];exact J.free
 ·obtain⟨v,ob,e1,_⟩:=I.cell x c e
  rw[upd_ne (ne _ _ e1)];exact J.freeC x c e
 ·obtain⟨q1,q2,q3,q4,q5⟩:=J.pin p hp
  exact⟨q1,by rw[upd_ne (ne _ _ (I.pin p hp).1)];exact q2,q3,q4,q5⟩
 ·by_cases hb:b=a
  ·subst hb;rw[upd_same]at e;cases e;exact new
  ·rw[upd_ne hb]at e
   exact(J.hok b u e).stay (fun c v _ q=>q) (fun c q=>by rw[upd_ne (ne_of_none q hn)];exact q) fun c xs q=>by rw[upd_ne (ne_of_none q hn)];exact q
noncomputable def Itz (K:PySem.W.Frag)(a b:Addr):It :=
  ⟨fun i H=>∃xs ys x y,SqT K H a xs∧SqT K H b ys∧xs[i]? = some x∧ys[i]? = some y,
   fun i H v H'=>∃p x y,H p=none∧(∀xs,SqT K H a xs→xs[i]? = some x)∧(∀ys,SqT K H b ys→ys[i]? = some y)∧v = .ref p∧H'=upd H p (.tup [x,y]),
   fun i H=>∃xs ys,SqT K H a xs∧SqT K H b ys∧(xs.length≤i∨ys.length≤i)⟩
theorem turn_zip {P:Program}{w:World}{K:PySem.W.Frag}{es:List Expr}{k:Nat}{ps:Pos}{z TI TO i1 i2 a b:Addr}
  (na:a≠i1) (nb:b≠i2) (D:Zt.Apart z TI TO i1 i2 [i1,a] [i2,b]) :
  Turn P w K (.Tuple es k ps) (Itz K a b) [z,TI,TO,i1,i2] z (fun n h=>IsZip h z TI TO .none∧IsPair h TI (.ref i1) (.ref i2)∧(∃u v,IsPair h TO u v)∧h.IsTupleIter i1 a n∧h.IsTupleIter i2 b n) where
 mem:=by simp
 obj:=by
  rintro n h ⟨hz,hTI,⟨u,v,hTO⟩,⟨o1,e1,c1,d1⟩,⟨o2,e2,c2,d2⟩⟩ c hc
  simp only[List.mem_cons,List.not_mem_nil,or_false]at hc
  rcases hc with rfl |rfl |rfl |rfl |rfl
  ·exact⟨_,hz,fun v q=>nomatch q⟩
  ·exact⟨_,hTI,fun v q=>nomatch q⟩
  ·exact⟨_,hTO,fun v q=>nomatch q⟩
  ·exact⟨o1,e1,fun v q=>by rw[d1]at q;cases q⟩
  ·exact⟨o2,e2,fun v q=>by rw[d2]at q;cases q⟩
 keep:=by
  rintro n h h' ⟨hz,hTI,⟨u,v,hTO⟩,⟨o1,e1,r1⟩,⟨o2,e2,r2⟩⟩ kp
  exact⟨kp z (by simp) _ hz,kp TI (by simp) _ hTI,⟨u,v,kp TO (by simp) _ hTO⟩,⟨o1,kp i1 (by simp) _ e1,r1⟩,⟨o2,kp i2 (by simp) _ e2,r2⟩⟩
 item:=by
  intro X hP hw hK hc i pins s σ H E I hf st hg
  subst hP hw hK
  obtain⟨hz,hTI,⟨u,v,hTO⟩,hi1,hi2⟩:=st
  obtain⟨xs,ys,x,y,qx,qy,hx,hy⟩:=hg
  obtain⟨us,rx,px,zx⟩:=I.tuple qx
  obtain⟨ws,ry,py,zy⟩:=I.tuple qy
  obtain⟨ux,hux,rux⟩:=rx.get hx
  obtain⟨uy,huy,ruy⟩:=ry.get hy
  refine Zt.py_item (Zt.srcT i1 a na us.toArray) (Zt.srcT i2 b nb ws.toArray) D hz hTI hTO ⟨hi1,px⟩ ⟨hi2,py⟩ (x:=ux) (y:=uy) (by simpa using hux) (by simpa using huy) fun h' z1 t1 s1 s2 t2 kp=>⟨_,rfl,?_⟩
  refine wpAny_letOwnedTupleGo_zip (s:={ s with heap:=h' }) z1 fun h'' z2 sb=>?_
  have kp2:∀c o,c ∉ [z,TI,TO,i1,i2]→s.heap.get? c=some o→h''.get? c=some o:=fun c o hc e=>by
   simp only[List.mem_cons,List.not_mem_nil,or_false,not_or]at hc
   exact sb.extBut _ _ hc.1 (kp c o hc.1 hc.2.2.1 hc.2.2.2.1 hc.2.2.2.2 e)
  have nz:s.heap.objs.size≠z:=Nat.ne_of_gt (Heap.lt_size hz)
  have J:Inv X pins σ H { s with heap:=h'' }:=I.spun (t':=s.toks) hf kp2
  have t3:IsPair h'' s.heap.objs.size ux uy:=sb.extBut _ _ nz t2
  refine⟨.ref s.heap.objs.size,upd H s.heap.objs.size (.tup [x,y]),I.track J (Nat.le_refl _) ⟨by show 2≤sizeLine;decide,[ux,uy],.cons rux (.cons ruy .nil),⟨_,t3,rfl,_,rfl⟩⟩,rfl,⟨_,x,y,I.hok.fresh (Nat.le_refl _),fun zs h=>?_,fun zs h=>?_,rfl,rfl⟩,?_,fun c hc=>?_⟩
  ·rw[I.tuple_inj h qx];exact hx
  ·rw[I.tuple_inj h qy];exact hy
  ·exact⟨z2,sb.extBut _ _ D.TIz (kp TI _ D.TIz D.TITO D.TIi1 D.TIi2 hTI),⟨ux,uy,sb.extBut _ _ D.TOz t1⟩,s1.1.extBut sb.extBut D.i1z,s2.1.extBut sb.extBut D.i2z⟩
  ·have e:c≠s.heap.objs.size:=by
    simp only[List.mem_cons,List.not_mem_nil,or_false]at hc
    obtain⟨o1,e1,_⟩:=hi1;obtain⟨o2,e2,_⟩:=hi2
    rcases hc with rfl |rfl |rfl |rfl |rfl
    ·exact Nat.ne_of_lt (Heap.lt_size hz)
    ·exact Nat.ne_of_lt (Heap.lt_size hTI)
    ·exact Nat.ne_of_lt (Heap.lt_size hTO)
    ·exact Nat.ne_of_lt (Heap.lt_size e1)
    ·exact Nat.ne_of_lt (Heap.lt_size e2)
   rw[upd_ne e];exact(hf c hc).1
 done:=by
  intro X hP hw hK hc i pins s σ H E I hf st hg
  subst hP hw hK
  obtain⟨hz,hTI,⟨u,v,hTO⟩,hi1,hi2⟩:=st
  obtain⟨xs,ys,qx,qy,hend⟩:=hg
  obtain⟨us,rx,px,zx⟩:=I.tuple qx
  obtain⟨ws,ry,py,zy⟩:=I.tuple qy
  have lx:=rx.length
  have ly:=ry.length
  refine Zt.py_end (I.ok.hd hc) (Zt.srcT i1 a na us.toArray) (Zt.srcT i2 b nb ws.toArray) D hz hTI hTO ⟨hi1,px⟩ ⟨hi2,py⟩ (k1:=i) (k2:=i) (hend.imp (fun h=>by simp;omega) (fun h=>by simp;omega)) fun h' kp=>⟨rfl,?_⟩
  refine I.spun (t':=s.toks) hf fun c o hc e=>?_
  simp only[List.mem_cons,List.not_mem_nil,or_false,not_or]at hc
  exact kp c o hc.1 hc.2.2.1 hc.2.2.2.1 hc.2.2.2.2 e
 self:=by
  rintro A n s Q E ⟨hz,_⟩ h
  exact wpAny_pyIter_zip hz h
noncomputable def iZip (K:PySem.W.Frag)(ta:TA):TI:=fun σ H R=>ta σ H fun vs H1=>∃a b,vs = [.ref a,.ref b]∧(∃xs,SqT K H1 a xs)∧(∃ys,SqT K H1 b ys)∧R (Itz K a b) H1
theorem pi_zip {X:Cx}{es:List Expr}{k:Nat}{ps p pos:Pos}{e1 e2:Expr}{ta:TA}(hg:Gl X "zip")(hm:X.mg "zip" = none)(ha:PA X [e1,e2] ta)
  (hs:starEach [e1,e2] X.env = [(false,eval e1 X.env),(false,eval e2 X.env)]:=by rfl) (hs2:starEach [e2] X.env = [(false,eval e2 X.env)]:=by rfl) (hv:bootBuiltins "zip" = some (.type "zip"):=by decide +kernel) :
  PI X (.Tuple es k ps) (.Call (.Name "zip" p) [e1,e2] [] pos) (iZip X.K ta):=by
 intro pins s σ H R I h
 refine Call_ (ld_blt I hg hm hv (PyProof.Rows.callWith_type1 (thn (ha pos pins s σ H _ I h) fun us s1 ⟨vs,H1,I1,r1,q1⟩=>?_) (by rw[hs,hs2]) (by rw[hs2];rfl)))
 obtain⟨a,b,e,⟨xs,qx⟩,⟨ys,qy⟩,q⟩:=q1
 subst e
 obtain⟨u,v,rfl,ra,rb⟩:=vals2 r1
 cases ra
 cases rb
 obtain⟨us,rx,px,zx⟩:=I1.tuple qx
 obtain⟨ws,ry,py,zy⟩:=I1.tuple qy
 refine Zt.call_zip (xs:=us.toArray) (ys:=ws.toArray) px py fun h' hz hTI hTO h1 h2 kp=>?_
 refine wpAny_pyIter_zip (s:={ s1 with heap:=h' }) hz ?_
 have la:a<s1.heap.objs.size:=by obtain⟨o,e,_⟩:=px;exact Heap.lt_size e
 have lb:b<s1.heap.objs.size:=by obtain⟨o,e,_⟩:=py;exact Heap.lt_size e
 have J:Inv X pins σ H1 { s1 with heap:=h' }:=I1.kept (t':=s1.toks) kp
 refine⟨_,[s1.heap.objs.size+4,s1.heap.objs.size+2,s1.heap.objs.size+3,s1.heap.objs.size,s1.heap.objs.size+1],_,Itz X.K a b,H1,rfl,J,turn_zip (a:=a) (b:=b) (Nat.ne_of_lt la) (Nat.ne_of_lt (Nat.lt_succ_of_lt lb)) ?_,⟨hz,hTI,⟨_,_,hTO⟩,h1,h2⟩,fun c hc=>?_,q⟩
 ·generalize s1.heap.objs.size=n at la lb
  constructor <;> (try simp only[List.mem_cons,List.not_mem_nil,or_false,not_or,ne_eq]) <;> (unfold Addr at *;omega)
 ·have le:s1.heap.objs.size≤c:=by
   simp only[List.mem_cons,List.not_mem_nil,or_false]at hc
   rcases hc with rfl |rfl |rfl |rfl |rfl
   ·exact Nat.le_add_right _ _
   ·exact Nat.le_add_right _ _
   ·exact Nat.le_add_right _ _
   ·exact Nat.le_refl _
   ·exact Nat.le_add_right _ _
  exact I1.fpOk le (I1.hok.fresh le)
noncomputable def clsOf (cells:List (Str×Addr)):List (Str×NameKind)→List (Str×Addr)→Option (List (Str×Addr))
 | [],acc=>some acc
 | (n,k) :: r,acc=>if (k == .free)=true then (match cells.lookup n with |some a=>clsOf cells r ((n,a) :: acc) |none=>none) else clsOf cells r acc
theorem clsOf_loop {env:Env}:∀(ns:List (Str×NameKind))(acc cl:List (Str×Addr)),clsOf env.cells ns acc=some cl →
  (forIn ns acc fun (x:Str×NameKind) (cs:List (Str×Addr))=>(if (x.2 == .free)=true then (do let a ← cellOf env x.1;pure (ForInStep.yield ((x.1,a) :: cs))) else pure (ForInStep.yield cs):Sem _))=pure cl
 | [],acc,cl,h=>by
  simp only[clsOf,Option.some.injEq]at h
  subst h;rfl
 | (n, k) :: r,acc,cl,h=>by
  rw[List.forIn_cons]
  unfold clsOf at h
  by_cases hk:(k == NameKind.free)=true
  ·rw[if_pos hk]at h
   simp only[hk,if_true]
   cases e:env.cells.lookup n with
   | none=>rw[e]at h;cases h
   | some a =>
    rw[e]at h
    have ih:=clsOf_loop r ((n,a) :: acc) cl h
    simp only[cellOf,e,pure_bind]
    exact ih
  ·rw[if_neg hk]at h
   simp only[hk,if_false,pure_bind]
   exact clsOf_loop r acc cl h
theorem closure_of {env:Env}{sc:Scope}{cl:List (Str×Addr)}(h:clsOf env.cells sc.names []=some cl):closureFor sc env=pure cl:=by
 have e:=clsOf_loop (env:=env) sc.names [] cl h
 unfold closureFor
 have e2:=congrArg (fun m:Sem (List (Str×Addr))=>m >>= fun r=>(pure r:Sem (List (Str×Addr)))) e
 simp only[pure_bind]at e2
 refine Eq.trans ?_ e2
 rfl
theorem clsOf_sub {cells:List (Str×Addr)}:∀(ns:List (Str×NameKind))(acc cl:List (Str×Addr)),clsOf cells ns acc=some cl→(∀x c,acc.lookup x=some c→cells.lookup x=some c)→∀x c,cl.lookup x=some c→cells.lookup x=some c
 | [],acc,cl,h,ha=>by
  simp only[clsOf,Option.some.injEq]at h
  subst h;exact ha
 | (n, k) :: r,acc,cl,h,ha=>by
  unfold clsOf at h
  by_cases hk:(k == NameKind.free)=true
  ·rw[if_pos hk]at h
   cases e:cells.lookup n with
   | none=>rw[e]at h;cases h
   | some a =>
    rw[e]at h
    refine clsOf_sub r ((n,a) :: acc) cl h fun x c q=>?_
    rw[List.lookup_cons]at q
    cases hx:x == n with
    | true =>
     rw[hx]at q
     have e':x=n:=by simpa using hx
     subst e'
     cases q;exact e
    | false=>rw[hx]at q;exact ha x c q
  ·rw[if_neg hk]at h
   exact clsOf_sub r acc cl h ha
theorem clsOf_has {cells:List (Str×Addr)}:∀(ns:List (Str×NameKind))(acc cl:List (Str×Addr)),clsOf cells ns acc=some cl→(∀x,(∃c,acc.lookup x=some c)→∃c,cl.lookup x=some c)∧∀y∈ns,y.2 = .free→∃c,cl.lookup y.1=some c
 | [],acc,cl,h=>by
  simp only[clsOf,Option.some.injEq]at h
  subst h;exact⟨fun x q=>q,fun y hy=>by simp at hy⟩
 | (n, k) :: r,acc,cl,h=>by
  unfold clsOf at h
  by_cases hk:(k == NameKind.free)=true
  ·rw[if_pos hk]at h
   cases e:cells.lookup n with
   | none=>rw[e]at h;cases h
   | some a =>
    rw[e]at h
    obtain⟨h1,h2⟩:=clsOf_has r ((n,a) :: acc) cl h
    have up:∀x,(∃c,acc.lookup x=some c)→∃c,((n,a) :: acc).lookup x=some c:=fun x ⟨c,q⟩=>by
     rw[List.lookup_cons]
     cases hx:x == n with
     | true=>exact⟨a,rfl⟩
     | false=>exact⟨c,q⟩
    refine⟨fun x q=>h1 x (up x q),fun y hy hf=>?_⟩
    rcases List.mem_cons.mp hy with rfl |hy
    ·exact h1 n ⟨a,by simp[List.lookup_cons]⟩
    ·exact h2 y hy hf
  ·rw[if_neg hk]at h
   obtain⟨h1,h2⟩:=clsOf_has r acc cl h
   refine⟨h1,fun y hy hf=>?_⟩
   rcases List.mem_cons.mp hy with rfl |hy
   ·exact absurd (show (k == NameKind.free)=true by have:k = .free:=hf;subst this;rfl) hk
   ·exact h2 y hy hf
theorem relabel_free {env:Env}:∀ {names:List (Str×NameKind)}{x:Str},names.lookup x=some .free →
  (names.map fun (n,k)=>if (k == NameKind.free && env.scope.kind == .function && env.kindOf n == some .cell) then (n,NameKind.cell) else (n,k)).lookup x=some .cell ∨
  (names.map fun (n,k)=>if (k == NameKind.free && env.scope.kind == .function && env.kindOf n == some .cell) then (n,NameKind.cell) else (n,k)).lookup x=some .free
 | [],_,h=>by simp at h
 | (n, k) :: r,x,h=>by
  have ih:=@relabel_free env r x
  rw[List.map_cons]
  dsimp only
  cases hx:x == n with
  | true =>
   simp only[List.lookup_cons,hx]at h
   cases h
   by_cases hc:(NameKind.free == NameKind.free && env.scope.kind == .function && env.kindOf n == some .cell)=true
   ·refine .inl ?_
    rw[if_pos hc,List.lookup_cons,hx]
   ·refine .inr ?_
    rw[if_neg hc,List.lookup_cons,hx]
  | false =>
   simp only[List.lookup_cons,hx]at h
   by_cases hc:(k == NameKind.free && env.scope.kind == .function && env.kindOf n == some .cell)=true
   ·rw[if_pos hc];simp only[List.lookup_cons,hx];exact ih h
   ·rw[if_neg hc];simp only[List.lookup_cons,hx];exact ih h
theorem relabel_back {env:Env}:∀ {names:List (Str×NameKind)}{x:Str}{kd:NameKind},(kd = .cell∨kd = .free) →
  (names.map fun (n,k)=>if (k == NameKind.free && env.scope.kind == .function && env.kindOf n == some .cell) then (n,NameKind.cell) else (n,k)).lookup x=some kd→∃y∈names,y.1=x∧(y.2 = .free∨y.2 = .cell)
 | [],_,_,_,h=>by simp at h
 | (n, k) :: r,x,kd,hkd,h=>by
  have ih:=@relabel_back env r x kd hkd
  rw[List.map_cons]at h
  dsimp only at h
  cases hx:x == n with
  | true =>
   have e:x=n:=by simpa using hx
   subst e
   refine⟨(x,k),by simp,rfl,?_⟩
   by_cases hc:(k == NameKind.free && env.scope.kind == .function && env.kindOf x == some .cell)=true
   ·refine .inl ?_
    simp only[Bool.and_eq_true]at hc
    simpa using hc.1.1
   ·rw[if_neg hc]at h
    simp only[List.lookup_cons,beq_self_eq_true,Option.some.injEq]at h
    subst h
    exact hkd.symm
  | false =>
   have h':(r.map fun (n,k)=>if (k == NameKind.free && env.scope.kind == .function && env.kindOf n == some .cell) then (n,NameKind.cell) else (n,k)).lookup x=some kd:=by
    by_cases hc:(k == NameKind.free && env.scope.kind == .function && env.kindOf n == some .cell)=true
    ·rw[if_pos hc]at h;simp only[List.lookup_cons,hx]at h;exact h
    ·rw[if_neg hc]at h;simp only[List.lookup_cons,hx]at h;exact h
   obtain⟨y,hy,q⟩:=ih h'
   exact⟨y,List.mem_cons_of_mem _ hy,q⟩
noncomputable def cxC (X:Cx)(sc:Scope)(cl:List (Str×Addr))(NC:List Str)(fp:List Addr)(s:Shared)(H:Hp):Cx where
 prog:=X.prog
 w:=X.w
 K:=X.K
 mg:=X.mg
 base:=X.base
 A:=X.A
 N:=NC
 s₀:=s
 H₀:=H
 env:=compEnvC sc cl s.heap.objs.size X.env
 outer:=X.stack
 stack:=X.stack
 ex:=fp
 fn:=fun _=>false
 calm:=X.calm
 pn:=[]
 xe:=fun _ _=>False
noncomputable def OutOk (X:Cx)(sc:Scope):List Str→List (Option Nat)→Prop
 | x :: xs,o :: os=>(match o with |none=>True |some j=>X.N[j]? = some x∧sc.names.lookup x=some .free∧(X.env.scope.names.lookup x=some .cell∨X.env.scope.names.lookup x=some .free))∧OutOk X sc xs os
 | _,_=>True
theorem OutOk.at {X:Cx}{sc:Scope}:∀ {NC:List Str}{fr:List (Option Nat)},OutOk X sc NC fr→∀(i:Nat)(x:Str)(j:Nat),NC[i]? = some x→fr[i]? = some (some j) →
  X.N[j]? = some x∧sc.names.lookup x=some .free∧(X.env.scope.names.lookup x=some .cell∨X.env.scope.names.lookup x=some .free)
 | [],_,_,i,x,j,h1,_=>by simp at h1
 | _ :: _,[],_,i,x,j,_,h2=>by simp at h2
 | y :: ys,o :: os,h,0,x,j,h1,h2=>by
  simp only[List.getElem?_cons_zero,Option.some.injEq]at h1 h2
  subst h1 h2
  exact h.1
 | y :: ys,o :: os,h,i+1,x,j,h1,h2=>OutOk.at h.2 i x j (by simpa using h1) (by simpa using h2)
structure Blk (X:Cx) (sc:Scope) (cl:List (Str×Addr)) (NC:List Str) (fr:List (Option Nat)):Prop where
 kind:sc.kind = .function
 cls:clsOf X.env.cells sc.names []=some cl
 nocell:∀y∈sc.names,y.2 ≠ .cell
 names:∀y∈sc.names,y.2 = .local→sc.names.lookup y.1=some .local
 len:fr.length=NC.length
 out:OutOk X sc NC fr
noncomputable def stC (fr:List (Option Nat)) (σ:St):St:=fr.map fun o=>o.bind fun j=>(σ[j]?).join
theorem blk_start {X:Cx}{sc:Scope}{cl:List (Str×Addr)}{NC:List Str}{fr:List (Option Nat)}{pins:List (Addr×Obj)}{σ:St}{H:Hp}{s s4:Shared}{fp:List Addr}(B:Blk X sc cl NC fr)
  (I:Inv X pins σ H s) (hf:∀b∈fp,FpOk X pins H b) (hlt:∀b∈fp,b<s.heap.objs.size) (hns:∃m,s4.heap.Ns s.heap.objs.size m) (hk:∀b o,s.heap.get? b=some o→s4.heap.get? b=some o) (hos:s4.os=s.os) (hg:s4.gens=s.gens) :
  Inv (cxC X sc cl NC fp s H) [] (stC fr σ) H s4:=by
 have sub:=clsOf_sub sc.names [] cl B.cls (fun x c q=>by simp at q)
 have has:=(clsOf_has sc.names [] cl B.cls).2
 have nloc:∀x c,cl.lookup x=some c→c<s.heap.objs.size:=fun x c e=>by
  obtain⟨v,o,q,_⟩:=I.cell x c (sub x c e)
  exact Heap.lt_size q
 refine⟨⟨I.ok.mod,B.kind,I.ok.glob,I.ok.blt,Nat.le_refl _,fun x y c h1 h2=>I.ok.inj x y c (sub x c h1) (sub y c h2),fun x hx=>?_,fun x c hx _=>(nomatch hx),I.ok.hd,I.ok.frames,.inl rfl,fun b hb=>⟨?_,fun x c e=>?_⟩,I.bs,Nat.le_trans I.ok.bsz I.sz,fun b o e hb=>?_,fun b hb=>?_,I.stack,I.stkFree⟩,
  hos,by rw[hg];exact I.bare,Un.kept hk,?_,fun x c e=>?_,I.hok.fresh (Nat.le_refl _),fun x c e=>I.freeC x c (sub x c e),fun p hp=>absurd (show p∈([]:List (Addr×Obj))from hp) (by simp),I.hok.kept hk,?_⟩
 ·have h':∃y∈sc.names,y.1=x∧(y.2 = .free∨y.2 = .cell):=by
   rcases hx with q |q
   ·exact relabel_back (.inl rfl) q
   ·exact relabel_back (.inr rfl) q
  obtain⟨y,hy,rfl,q⟩:=h'
  rcases q with q |q
  ·exact has y hy q
  ·exact absurd q (B.nocell y hy)
 ·exact Nat.ne_of_lt (hlt b hb)
 ·intro z
  obtain⟨f0,f1,f2,f3,f4,f5⟩:=hf b hb
  exact f4 x c (sub x c e) z
 ·obtain⟨f0,f1,f2,f3,f4,f5⟩:=hf b hb
  rcases f3 with q |q
  ·exact I.ok.noex b o e q
  ·exact absurd (Nat.lt_of_lt_of_le (Heap.lt_size e) I.ok.bsz) (Nat.not_lt.mpr q)
 ·intro z
  obtain⟨f0,f1,f2,f3,f4,f5⟩:=hf b hb
  rcases List.mem_cons.mp (I.stkSub b z)with q |q
  ·exact f1 q
  ·exact f2 q
 ·obtain⟨m,hm⟩:=hns
  refine⟨m,hm,fun i x v h1 h2 h3=>?_⟩
  unfold stC at h2
  rw[List.getElem?_map]at h2
  cases e:fr[i]? with
  | none=>rw[e]at h2;cases h2
  | some oj =>
   rw[e]at h2
   cases oj with
   | none=>cases h2
   | some j =>
    have h2':(σ[j]?).join=some v:=Option.some.inj h2
    have h4:σ[j]? = some (some v):=by
     cases q:σ[j]? with
     | none=>rw[q]at h2';cases h2'
     | some o=>rw[q]at h2';exact congrArg some h2'
    obtain⟨n1,n2,n3⟩:=B.out.at i x j h1 e
    obtain⟨m0,hm0,hl⟩:=I.loc
    obtain⟨u,r,l⟩:=hl j x v n1 h4 (n3.elim (fun q=>.inr (.inl q)) fun q=>.inr (.inr q))
    refine⟨u,r,.inr ⟨relabel_free n2,?_⟩⟩
    rcases l with ⟨k1,_⟩ | ⟨_,c,c1,c2⟩
    ·have k1':X.env.scope.names.lookup x=some .local:=k1
     rcases n3 with q |q <;> (rw[q]at k1';cases k1')
    ·obtain⟨c',e'⟩:=has (x,.free) (PySem.mem_of_lookup n2) rfl
     have q:=sub x c' e'
     rw[c1]at q;cases q
     obtain⟨o,ho,hd⟩:=c2
     exact⟨c,e',o,hk _ _ ho,hd⟩
 ·obtain⟨v,o,q,d⟩:=I.cell x c (sub x c e)
  exact⟨v,o,hk _ _ q,d⟩
 ·show (stC fr σ).length=NC.length
  unfold stC
  rw[List.length_map];exact B.len
theorem comp_turns {prog:Program}{w:World}{A:Around}{R:Result→Shared→Prop}{s:Shared}{elt target iter:Expr}{ifs:List Expr}{scope:Scope}{pos:Pos}{it acc:Value}{env:Env}(J:Nat→Shared→Prop)
  (turn : ∀n s,J n s→wpAny (model prog w) A (pyNext it) (fun r s1=>match r with
   | none=>R (.ok .next) s1
   | some v=>wpAny (model prog w) A (letOwnedTupleGo target it v) (fun _ s2=>wpAny (model prog w) A (assign target env v) (fun _ s3 =>
     wpAny (model prog w) A (compTests ifs env) (fun ok s4=>if ok=true then wpAny (model prog w) A (eval elt env) (fun x s5 =>
       wpAny (model prog w) A (call (.builtin "list.append") [acc,x]) (fun _ s6=>∃m,m<n∧J m s6) (fun _ _=>False) s5) (fun _ _=>False) s4
      else ∃m,m<n∧J m s4) (fun _ _=>False) s3) (fun _ _=>False) s2) (fun _ _=>False) s1) (fun _ _=>False) s)
  (n:Nat) (h:J n s):codeAny (model prog w) A (.compLoop (.ListComp elt [⟨target,iter,ifs,0⟩] scope pos) 0 it acc env) R s:=by
 refine codeAny_loop rfl J (fun n s hJ=>?_) n h
 show wpAny _ A ((compTurn (.ListComp elt [⟨target,iter,ifs,0⟩] scope pos) 0 it acc env).onRaise (fun x=>do noteFrame x env;theTreesLotGoes x)) _ _ s
 refine wpAny_noted ?_
 have wk:∀ {α:Type}{t:Sem α}{Q Q':α→Shared→Prop}{E:Value→Shared→Prop}{s:Shared},wpAny (model prog w) A t Q (fun _ _=>False) s→(∀a s,Q a s→Q' a s)→wpAny (model prog w) A t Q' E s:=fun h q=>wpAny_mono h q fun _ _ f=>f.elim
 rw[compTurn_list]
 refine wpAny_bind (wpAny_standAt (wpAny_bind (wk (turn n s hJ) fun r s1 h1=>?_)))
 cases r with
 | none=>exact wpAny_pure h1
 | some v =>
  refine wpAny_bind (wk h1 fun _ s2 h2=>wpAny_bind (wk h2 fun _ s3 h3=>?_))
  have h3':wpAny (model prog w) A (forIn ifs true fun c r=>if r=true then do let ok ← isTrue c env (eval c env);pure (ForInStep.yield ok) else pure (ForInStep.yield r)) (fun ok s4=>if ok=true then wpAny (model prog w) A (eval elt env) (fun x s5 =>
       wpAny (model prog w) A (call (.builtin "list.append") [acc,x]) (fun _ s6=>∃m,m<n∧J m s6) (fun _ _=>False) s5) (fun _ _=>False) s4
      else ∃m,m<n∧J m s4) (fun _ _=>False) s3:=by
   have e:compTests ifs env=(forIn ifs true fun c r=>if r=true then do let ok ← isTrue c env (eval c env);pure (ForInStep.yield ok) else pure (ForInStep.yield r)) >>= pure:=by rfl
   rw[e,bind_pure]at h3
   exact h3
  refine wpAny_bind (wk h3' fun ok s4 h4=>?_)
  cases ok with
  | false=>exact wpAny_pure ⟨rfl,h4⟩
  | true=>exact wpAny_bind (wpAny_bind (wk h4 fun x s5 h5=>wpAny_bind (wk h5 fun _ s6 h6=>wpAny_pure (wpAny_pure ⟨rfl,h6⟩))))
noncomputable def PF (X:Cx)(ifs:List Expr)(t:TT):Prop :=
 ∀(pins:List (Addr×Obj)) (s:Shared) (σ:St) (H:Hp) (Q:Bool→Hp→Prop),Inv X pins σ H s→t σ H Q→wpAny (model X.prog X.w) X.A (compTests ifs X.env) (TP X pins σ Q) X.xe s
noncomputable def tYes:TT:=fun _ H Q=>Q true H
theorem pf_nil {X:Cx}:PF X [] tYes:=fun _ _ _ H _ I h=>wpAny_pure ⟨H,I,h⟩
theorem pf_one {X:Cx}{c:Expr}{t:TT}(h:PT X c t):PF X [c] t:=fun pins s σ H Q I hw=>by
 have e:compTests [c] X.env=(forIn [c] true fun c r=>if r=true then do let ok ← isTrue c X.env (eval c X.env);pure (ForInStep.yield ok) else pure (ForInStep.yield r)) >>= pure:=by rfl
 rw[e,bind_pure]
 exact wpAny_tests_one (h pins s σ H Q I hw)
noncomputable def tComp (K:PySem.W.Frag)(fr:List (Option Nat))(wi:TI)(g:TG)(tt:TT)(te:TE):TE:=fun σ H Q=>wi σ H fun J H1=>∀acc,H1 acc=none→K.lookup acc=none →
 ∃W : Nat→Nat→St→Hp→Prop,(∃m,W 0 m (stC fr σ) (upd H1 acc (.lst [])))∧∀i m σc H,W i m σc H →
  (J.stop i H∧Q (.ref acc) H)∨(J.go i H∧∃N:St→Hp→Prop,(∀ σ' H',N σ' H'→∃m',m'<m∧W (i+1) m' σ' H')∧∀x H',J.yld i H x H'→g x σc H' fun σ2 H2=>tt σ2 H2 fun b H3 =>
   if b=true then te σ2 H3 fun v H4=>∃xs,H4 acc=some (.lst xs)∧xs.length<sizeLine∧N σ2 (upd H4 acc (.lst (xs ++ [v]))) else N σ2 H3)
section
variable {X:Cx}{sc:Scope}{cl:List (Str×Addr)}{NC:List Str}{fr:List (Option Nat)}{elt target iter:Expr}{ifs:List Expr}{pos:Pos}{wi:TI}{g:TG}{tt:TT}{te:TE}
theorem comp_core {pins:List (Addr×Obj)}{s:Shared}{σ:St}{H:Hp}{Q:VK}{RR:Value→Addr→Result→Shared→Prop}(B:Blk X sc cl NC fr)(hc:X.calm=true)(hi:PI X target iter wi)
  (hg:∀fp s H,PG (cxC X sc cl NC fp s H) target g) (ht:∀fp s H,PF (cxC X sc cl NC fp s H) ifs tt) (he:∀fp s H,PE (cxC X sc cl NC fp s H) elt te)
  (I:Inv X pins σ H s) (h:tComp X.K fr wi g tt te σ H Q)
  (hRR:∀acc C s' H',Q (.ref acc) H'→(∃m,s'.heap.Ns C m)→Inv X pins σ H' s'→FpOk X pins H' C→RR (.ref acc) C (.ok .next) s') :
  wpAny (model X.prog X.w) X.A (eval iter X.env) (fun x s1=>wpAny (model X.prog X.w) X.A (pyIter x) (fun it s2=>wpAny (model X.prog X.w) X.A (newList []) (fun acc s3 =>
   wpAny (model X.prog X.w) X.A (newFunctionEnv sc X.env.globals cl [] X.env.qual none .none (some X.env)) (fun cenv s4 =>
    codeAny (model X.prog X.w) X.A (.compStart (.ListComp elt [⟨target,iter,ifs,0⟩] sc pos) 0 it acc { cenv with scope:=relabel sc X.env }) (RR acc cenv.locals) s4) X.xe s3) X.xe s2) X.xe s1) X.xe s:=by
 refine thn (hi pins s σ H _ I h) fun v s1 h1=>thn h1 fun itv s2 h2=>?_
 obtain⟨it,fp,tn,J,H2,e,I2,T,st2,f2,K⟩:=h2
 subst e
 have nk:X.K.lookup s2.heap.objs.size=none:=by
  cases q:X.K.lookup s2.heap.objs.size with
  | none=>rfl
  | some o=>exact absurd (Heap.lt_size (I2.kIn _ o q)) (Nat.lt_irrefl _)
 obtain⟨W,⟨m0,w0⟩,turn⟩:=K s2.heap.objs.size (I2.hok.fresh (Nat.le_refl _)) nk
 have I3:Inv X pins σ (upd H2 s2.heap.objs.size (.lst [])) { s2 with heap:=s2.heap.push { cls:=.type "list",dict:=none,data:=.seq ([]:List Value).toArray } } :=
  I2.laid (t':=s2.toks) (fun b u e=>Heap.get?_push_of_some _ e) (Nat.le_refl _) ⟨Nat.zero_le _,[],0,.nil,Heap.get?_push_size _ rfl⟩
 have lt2:∀b∈fp,b<s2.heap.objs.size:=fun b hb=>by
  obtain⟨o,e,_⟩:=T.obj _ _ st2 b hb
  exact Heap.lt_size e
 have f3:∀b∈fp,FpOk X pins (upd H2 s2.heap.objs.size (.lst [])) b:=fun b hb=>⟨by rw[upd_ne (Nat.ne_of_lt (lt2 b hb))];exact(f2 b hb).1,(f2 b hb).2⟩
 refine wpAny_newObj_type (wpAny_newFunctionEnv B.nocell (by intro y hy;simp at hy) (fun h4 hns4 hsb4=>?_) B.kind)
 dsimp only at hns4 hsb4 ⊢
 generalize hs3:({ s2 with heap:=s2.heap.push { cls:=.type "list",dict:=none,data:=.seq ([]:List Value).toArray } }:Shared)=s3 at I3 ⊢
 have hh3:s3.heap=s2.heap.push { cls:=.type "list",dict:=none,data:=.seq ([]:List Value).toArray }:=by rw[← hs3]
 have z3:s3.heap.objs.size=s2.heap.objs.size+1:=by rw[hh3,Heap.size_push]
 rw[← hh3]at hns4 hsb4 ⊢
 have k4:∀b o,s3.heap.get? b=some o→h4.get? b=some o:=fun b o e=>hsb4.extBut b o (Nat.ne_of_lt (Heap.lt_size e)) (Heap.get?_push_of_some _ e)
 have lt3:∀b∈fp,b<s3.heap.objs.size:=fun b hb=>by rw[z3];exact Nat.lt_succ_of_lt (lt2 b hb)
 have start:∀s4:Shared,s4 = { s2 with heap:=h4,toks:=s2.toks+([]:List (Str×Value)).length }→codeAny (model X.prog X.w) X.A (.compLoop (.ListComp elt [⟨target,iter,ifs,0⟩] sc pos) 0 (.ref it) (.ref s2.heap.objs.size) (compEnvC sc cl s3.heap.objs.size X.env)) (RR (.ref s2.heap.objs.size) s3.heap.objs.size) s4:=by
  rintro s4 rfl
  have I4:Inv (cxC X sc cl NC fp s3 (upd H2 s2.heap.objs.size (.lst []))) [] (stC fr σ) (upd H2 s2.heap.objs.size (.lst [])) { s2 with heap:=h4,toks:=s2.toks+([]:List (Str×Value)).length } :=
   blk_start B I3 f3 lt3 ⟨_,hns4⟩ k4 (by rw[← hs3]) (by rw[← hs3])
  have st4:tn 0 h4:=T.keep _ _ _ st2 fun b hb o e=>k4 b o (by rw[hh3];exact Heap.get?_push_of_some _ e)
  have stat:∀ {H':Hp},(∀b∈fp,H' b=none)→∀b∈fp,FpOk (cxC X sc cl NC fp s3 (upd H2 s2.heap.objs.size (.lst []))) [] H' b:=fun hn b hb =>
   ⟨hn b hb,(I4.ok.exf b hb).1,I4.ok.exfs b hb,.inl hb,(I4.ok.exf b hb).2,fun p hp=>absurd (show p∈([]:List (Addr×Obj))from hp) (by simp)⟩
  refine comp_turns (fun n s'=>∃i σ' H',Inv (cxC X sc cl NC fp s3 (upd H2 s2.heap.objs.size (.lst []))) [] σ' H' s'∧tn i s'.heap∧(∀b∈fp,H' b=none)∧W i n σ' H') ?_ m0 ⟨0,_,_,I4,st4,fun b hb=>(f3 b hb).1,w0⟩
  rintro n s5 ⟨i,σ5,H5,I5,st5,fr5,w5⟩
  rcases turn i n σ5 H5 w5 with ⟨stop,qn⟩ | ⟨go,N,hN,step⟩
  ·refine thn (T.done (cxC X sc cl NC fp s3 (upd H2 s2.heap.objs.size (.lst []))) rfl rfl rfl hc i [] s5 σ5 H5 _ I5 (stat fr5) st5 stop) fun r s6 ⟨hr,I6⟩=>?_
   subst hr
   have hC:H5 s3.heap.objs.size=none:=I6.free
   refine hRR _ _ s6 H5 qn (let ⟨m,hm,_⟩:=I6.loc; ⟨m,hm⟩) ?_ (I3.fpOk (Nat.le_refl _) hC)
   have un:Un (frs X.stack) fp (upd H2 s2.heap.objs.size (.lst [])) H5 s3.heap s6.heap:=I6.base
   have eo:s6.os=s3.os:=I6.os
   have hb6:=I6.bare
   have hk6:HOk X.prog X.w H5 s6.heap:=I6.hok
   obtain⟨hh6,g6,d6,t6,os6⟩:=s6
   dsimp only at eo
   subst eo
   exact I3.call (h':=hh6) (g':=g6) (d':=d6) (t':=t6) (ch:=fp) un hk6 hb6 fun b hb=>⟨(f3 b hb).2.2.2.1,(f3 b hb).2.1,(f3 b hb).2.2.2.2.1,(f3 b hb).2.2.2.2.2⟩
  ·refine thn (T.item (cxC X sc cl NC fp s3 (upd H2 s2.heap.objs.size (.lst []))) rfl rfl rfl hc i [] s5 σ5 H5 _ I5 (stat fr5) st5 go) fun r s6 ⟨u,hr,h6⟩=>?_
   subst hr
   refine thn h6 fun _ s7 ⟨x,H7,I7,r7,y7,st7,fr7⟩=>?_
   have I7':=I7.pinned (stat fr7) (T.obj _ _ st7)
   refine thn (hg fp s3 _ _ s7 σ5 H7 x u _ I7' r7 (step x H7 y7)) fun _ s8 ⟨σ8,H8,I8,q8⟩=>?_
   refine thn (ht fp s3 _ _ s8 σ8 H8 _ I8 q8) fun b s9 ⟨H9,I9,q9⟩=>?_
   have again:∀ {s10:Shared}{σ7:St}{H10:Hp},Inv (cxC X sc cl NC fp s3 (upd H2 s2.heap.objs.size (.lst []))) ([] ++ pinsAt fp s7.heap) σ7 H10 s10→N σ7 H10 →
     ∃m,m<n∧∃i σ' H',Inv (cxC X sc cl NC fp s3 (upd H2 s2.heap.objs.size (.lst []))) [] σ' H' s10∧tn i s10.heap∧(∀b∈fp,H' b=none)∧W i m σ' H':=fun {s10 σ7 H10} I10 n7=>by
    obtain⟨m',hm,w7⟩:=hN σ7 H10 n7
    refine⟨m',hm,i+1,σ7,H10,I10.unpinned,T.keep _ _ _ st7 fun b hb o e=>(I10.pin (b,o) (List.mem_append_right _ (List.mem_append_right _ (mem_pinsAt hb e)))).1,fun b hb=>?_,w7⟩
    obtain⟨o,e,d⟩:=T.obj _ _ st7 b hb
    exact(I10.pin (b,o) (List.mem_append_right _ (List.mem_append_right _ (mem_pinsAt hb e)))).2.1
   cases b with
   | false=>exact again I9 q9
   | true =>
    refine thn (he fp s3 _ _ s9 σ8 H9 _ I9 q9) fun y s10 ⟨v,H10,I10,r10,xs,q1,q2,q3⟩=>?_
    refine thn (mt_append (X:=cxC X sc cl NC fp s3 (upd H2 s2.heap.objs.size (.lst []))) _ s10 σ8 H10 (.ref s2.heap.objs.size) [v] (.ref s2.heap.objs.size) [y] (fun z H'=>N σ8 H') I10 rfl (.cons r10 .nil) ⟨_,xs,v,rfl,rfl,q1,q2,q3⟩) fun z s11 ⟨_,H11,I11,_,q11⟩=>?_
    exact again I11 q11
 exact codeAny_compStart_list (start _ rfl) (T.self _ _ _ _ _ (T.keep _ _ _ st2 fun b hb o e=>k4 b o (by rw[hh3];exact Heap.get?_push_of_some _ e)) (start _ rfl))
theorem pe_comp (B:Blk X sc cl NC fr)(hc:X.calm=true)(hi:PI X target iter wi)(hg:∀fp s H,PG (cxC X sc cl NC fp s H) target g)(ht:∀fp s H,PF (cxC X sc cl NC fp s H) ifs tt)(he:∀fp s H,PE (cxC X sc cl NC fp s H) elt te)
  (hs:∀x,foldedSetIterable iter X.env x=pure x:=by intro _;rfl):PE X (.ListComp elt [⟨target,iter,ifs,0⟩] sc pos) (tComp X.K fr wi g tt te):=by
 intro pins s σ H Q I h
 rw[eval_ListComp]
 refine wpAny_comprehension_free (use:=none) rfl hs (closure_of B.cls) B.kind B.names ?_
 refine comp_core (RR:=fun acc C=>compPost (model X.prog X.w) X.A X.xe none (EP X pins σ Q) acc C) B hc hi hg ht he I h ?_
 rintro acc C s' H' q ⟨m,hn⟩ I' ⟨f0,f1,f2,f3,f4,f5⟩
 exact⟨m,hn,fun h' sb=>⟨.ref acc,H',I'.turned (t':=s'.toks) (fun b o hb e=>sb.extBut b o hb e) f0 f1 f3 f4 f5,rfl,q⟩⟩
theorem ps_setComp {i:Nat}{x:Str}{pos' spos:Pos}(hN:X.N.Nodup)(hi':X.N[i]? = some x)(hx:Loc X.env.scope x)(B:Blk X sc cl NC fr)(hc:X.calm=true)(hi:PI X target iter wi)(hg:∀fp s H,PG (cxC X sc cl NC fp s H) target g)(ht:∀fp s H,PF (cxC X sc cl NC fp s H) ifs tt)(he:∀fp s H,PE (cxC X sc cl NC fp s H) elt te)
  (hsw:swapsWith (.ListComp elt [⟨target,iter,ifs,0⟩] sc pos) (some (.Name x pos')) spos.line X.env=pure true)
  (hs:∀x,foldedSetIterable iter X.env x=pure x:=by intro _;rfl) (hf:X.fn x=true∨X.env.scope.names.lookup x=some .local:=by first |exact .inl rfl |exact .inr rfl |assumption) :
  PS X (.Assign [.Name x pos'] (.ListComp elt [⟨target,iter,ifs,0⟩] sc pos) spos) (tAsg (tComp X.K fr wi g tt te) (gName i)):=by
 intro pins s σ H D I h
 rw[exec_Assign_Name_used _ _ _ _ hsw]
 refine wpAny_bind (wpAny_standAt (wpAny_bind ?_))
 show wpAny _ X.A (do let _ ← comprehension (.ListComp elt [⟨target,iter,ifs,0⟩] sc pos) sc X.env _ (newList []) false (eval iter X.env) (some (assign (.Name x pos') X.env))) _ _ s
 refine wpAny_bind (thn (Q:=fun _ s'=>SP X pins D .next s') ?_ fun _ s' hq=>wpAny_pure (wpAny_pure hq))
 refine wpAny_comprehension_free (use:=some (assign (.Name x pos') X.env)) rfl hs (closure_of B.cls) B.kind B.names ?_
 refine comp_core (RR:=fun acc C=>compPost (model X.prog X.w) X.A X.xe (some (assign (.Name x pos') X.env)) (fun _ s'=>SP X pins D .next s') acc C) B hc hi hg ht he I h ?_
 rintro acc C s' H' q ⟨m,hn⟩ I' ⟨f0,f1,f2,f3,f4,f5⟩
 refine wpAny_assign_Name (store_ok2 I' hN hi' hx (v:=.ref acc) rfl (fun s'' I'' ⟨a,sb,ha⟩=>?_) hf)
 have nC:C≠a:=by
  rintro rfl
  rcases ha with z |z
  ·exact f1 z
  ·exact f4 x _ z rfl
 refine⟨m,hn.sameBut sb nC,fun h' sb'=>⟨_,H',I''.turned (t':=s''.toks) (fun b o hb e=>sb'.extBut b o hb e) f0 f1 f3 f4 f5,q⟩⟩
end
theorem Same.upd {H:Hp}{p:Addr}{o:HO}(h:H p=none):Same H (upd H p o):=fun b u e=>by rw[upd_ne (ne_of_none e h)];exact e
theorem Same.tupS {K:PySem.W.Frag}{H H':Hp}{a:Addr}{xs:List V}(e:Same H H')(h:SqT K H a xs):SqT K H' a xs:=by
 rcases h with (h | ⟨o,h⟩) |h
 ·exact .inl (.inl (e _ _ h))
 ·exact .inl (.inr ⟨o,e _ _ h⟩)
 ·exact .inr h
theorem tup_whole {prog:Program}{w:World}{A:Around}{E:Value→Shared→Prop}{s:Shared}{t sl:Addr}{items:Array Value}{vl vu:Value}{lo hi:Option Int}{Q:Value→Shared→Prop}(ht:IsTup s.heap t items)(hs:s.heap.IsSliceOf sl vl vu .none)(pl:IsPart vl lo)(pu:IsPart vu hi)
  (hw:HT.sIx items.size 0 lo=0∧HT.sIx items.size items.size hi=items.size) (h:Q (.ref t) s):wpAny (model prog w) A (getItem (.ref t) (.ref sl)) Q E s:=by
 obtain⟨os,hos,hcs,hds⟩:=id hs
 have hTs:s.TypeIs (.ref sl) "slice":=⟨os,hos,hcs⟩
 unfold getItem
 try with_reducible refine wpAny_holding ?_
 first |refine wpAny_bind (wpAny_pure ?_) |skip
 refine wpAny_bind (wpAny_sequenceKey ht.typeIs (by decide) ?_)
 refine wpAny_bind (wpAny_callSpecial?_slot (name:=Str.ofString "__getitem__") ht.typeIs PyProof.Rows.slot_tuple_getitem (wpAny_call_entry PyProof.Rows.slot_tuple_getitem ht.typeIs entry_tuple_getitem ?_ (args_tuple_getitem _ _)))
 show wpAny _ _ (Builtin.Tuple.tupleItemsOf (.ref t) >>= _) _ _ s
 refine wpAny_bind (tupleItemsOf_ ht ?_)
 refine wpAny_bind (wpAny_typeOf hTs ?_)
 rw[if_pos (by decide)]
 refine wpAny_bind (HT.sliceApplied_gen hs pl pu ?_)
 show wpAny _ _ (if (((HT.sIx items.size 0 lo:Nat):Int) == 0 && (1:Int) == 1 && (HT.sIx items.size items.size hi - HT.sIx items.size 0 lo) == items.size)=true then _ else _) _ _ s
 rw[if_pos (by rw[hw.1,hw.2];simp)]
 refine wpAny_bind ?_
 unfold Builtin.Tuple.tupleIsExact
 refine wpAny_bind (wpAny_typeOf ht.typeIs (wpAny_pure ?_))
 rw[if_pos (by decide)]
 exact wpAny_bind (wpAny_rule (wpAny_pure ⟨_,rfl,wpAny_pure h⟩))
theorem cutV_whole {xs:List V}{lo hi:Option Int}(hw:HT.sIx xs.length 0 lo=0∧HT.sIx xs.length xs.length hi=xs.length):cutV xs lo hi=xs:=by
 unfold cutV
 rw[hw.1,hw.2];simp
noncomputable def rSlG (K:PySem.W.Frag):V→Option Int→Option Int→Hp→VK→Prop:=fun x lo hi H Q=>∃a xs,x = .ref a∧SqT K H a xs∧∀p H',(p=a∨H p=none)→Same H H'→SqT K H' p (cutV xs lo hi)→Q (.ref p) H'
section
variable {X:Cx}
theorem sl_tupG:SlR X (rSlG X.K):=by
 intro pins s σ H x v vl vu lo hi sl Q I rx hs pl pu h
 obtain⟨a,xs,rfl,hx,q⟩:=h
 by_cases hw:HT.sIx xs.length 0 lo=0∧HT.sIx xs.length xs.length hi=xs.length
 ·cases rx
  obtain⟨its,r,ht,hz⟩:=I.tuple hx
  have hlen:its.toArray.size=xs.length:=by rw[List.size_toArray];exact r.length.symm
  refine⟨"tuple",_,PyProof.Rows.slot_tuple_getitem.lookup,ht.typeIs,?_⟩
  refine tup_whole ht hs pl pu (by rw[hlen];exact hw) ⟨.ref a,H,I,rfl,q a H (.inl rfl) (Same.refl H) ?_⟩
  rw[cutV_whole hw];exact hx
 ·exact sl_tup pins s σ H _ v vl vu lo hi sl Q I rx hs pl pu ⟨a,xs,rfl,hx,hw,fun p hp=>q p _ (.inr hp) (Same.upd hp) (SqT.of upd_same)⟩
noncomputable def rCatG (K:PySem.W.Frag):R2:=fun x y H Q=>∃a b xs ys,x = .ref a∧y = .ref b∧SqT K H a xs∧SqT K H b ys∧xs.length+ys.length≤sizeLine∧∀p H',(p=a∨p=b∨H p=none)→Same H H'→SqT K H' p (xs ++ ys)→Q (.ref p) H'
theorem op_catG:OpR X (binaryOp .Add) (rCatG X.K):=by
 intro pins s σ H x y v u Q I rx ry h
 obtain⟨a,b,xs,ys,rfl,rfl,ha,hb,hz,q⟩:=h
 by_cases hx:xs = []
 ·subst hx
  cases rx
  cases ry
  obtain⟨its,r1,p1,_⟩:=I.tuple ha
  obtain⟨its2,r2,p2,_⟩:=I.tuple hb
  have e1:=r1.nil_iff.mpr rfl
  subst e1
  obtain⟨⟨cls,dd,data,sl⟩,ho,hc,n,hd⟩:=id p1
  obtain⟨⟨cls2,dd2,data2,sl2⟩,ho2,hc2,n2,hd2⟩:=id p2
  simp only at hc hd hc2 hd2
  subst hc hd hc2 hd2
  exact concat_meets ⟨_,ho,rfl⟩ ⟨_,ho2,rfl⟩ noFill_tuple_add seq_tuple_add PySem.F.slot_tuple_add PySem.F.entry_tuple_add (PySem.F.args_tuple_add_2 _ _)
   (tuple_addW0 a b _ _ n n2 dd dd2 sl sl2 (by simp)) ⟨ho,ho2,⟨.ref b,H,I,rfl,q b H (.inr (.inl rfl)) (Same.refl H) hb⟩⟩
 ·exact op_catT pins s σ H _ _ v u Q I rx ry ⟨a,b,xs,ys,rfl,rfl,ha,hb,hx,hz,fun e=>q a H (.inl rfl) (Same.refl H) (by rw[e,List.append_nil];exact ha),fun _ p hp=>q p _ (.inr (.inr hp)) (Same.upd hp) (SqT.of upd_same)⟩
theorem all_range_map (bs:List Bool)(f:Nat→Bool)(hf:∀i b,bs[i]? = some b→f i=b):(List.range bs.length).all f=bs.all id:=by
 induction bs generalizing f with
 | nil=>rfl
 | cons b bs ih =>
  rw[List.length_cons,List.range_succ_eq_map,List.all_cons,List.all_map,List.all_cons,hf 0 b rfl]
  have:=ih (fun i=>f (i+1)) fun i b' h=>hf (i+1) b' (by simpa using h)
  rw[← this];rfl
theorem call_all (hc:X.calm=true):CallR X (.builtin "all") (fun xs H Q=>∃(p:Addr)(bs:List Bool),xs = [.ref p]∧SqL X.K H p (bs.map V.bl)∧Q (.bl (bs.all id)) H):=by
 intro pins s σ H xs us Q I r h
 obtain⟨p,bs,rfl,hq,q⟩:=h
 obtain⟨u,rfl,ru⟩:=vals1 r
 cases ru
 obtain⟨its,rv,pl,hz⟩:=I.list hq
 have hl:=rv.length
 rw[List.length_map]at hl
 refine call_all_walk (wpAny_pyIter_list pl.isList ?_)
 have hne:p≠s.heap.objs.size:=by
  obtain⟨o,n,e,_⟩:=pl
  exact Nat.ne_of_lt (Heap.lt_size e)
 refine⟨_,_,_,_,_,_,fun i=>(bs[i]?).getD true,rfl,Walks.list (A:=X.A.in1) (show X.A.in1.handled=none from I.ok.hd hc) s.heap.objs.size p hne its.toArray,⟨⟨_,Heap.get?_push_size _ rfl,rfl,rfl⟩,pl.isList.push _⟩,fun i v s' Q' E' hP hQ=>?_,fun h' tk hk=>?_⟩
 ·have hb:∃b,bs[i]? = some b∧v = .bool b:=by
   have hi:i<its.length:=by
    have:=(Array.getElem?_eq_some_iff.mp hP).1
    simpa using this
   have e1:(bs.map V.bl)[i]? = some (.bl bs[i]):=by simp
   obtain⟨u,hu,ru⟩:=rv.get e1
   have:its.toArray[i]? = some u:=by simpa using hu
   rw[hP]at this;cases this
   exact⟨bs[i],by simp,ru⟩
  obtain⟨b,hb,rfl⟩:=hb
  dsimp only at hQ
  rw[hb]at hQ
  exact wpAny_truthy_bool hQ
 ·have e:(List.range its.toArray.size).all (fun i=>(bs[i]?).getD true)=bs.all id:=by
   rw[List.size_toArray,← hl]
   exact all_range_map bs _ fun i b h=>by rw[h];rfl
  rw[e]
  refine⟨.bl (bs.all id),H,?_,rfl,q⟩
  refine Inv.spun (s:=s) (t':=tk) (ch:=[s.heap.objs.size]) I (fun b hb=>?_) fun b o hb e=>hk b o hb (Heap.get?_push_of_some _ e)
  have eb:b=s.heap.objs.size:=by simpa using hb
  subst eb
  exact I.fpOk (Nat.le_refl _) (I.hok.fresh (Nat.le_refl _))
noncomputable def subT (T n:String):Option Bool:=if (Value.type T == Value.type n)=true then some true else if PySem.W.kitMeta n=true then (PySem.fastBuiltinMro T).map (·.contains (.type n)) else none
inductive TyS (K:PySem.W.Frag) (H:Hp):V→String→Prop
 | non:TyS K H .non "NoneType"
 | bl (b:Bool):TyS K H (.bl b) "bool"
 | int (i:Int):TyS K H (.int i) "int"
 | str (x:Str):TyS K H (.str x) "str"
 | lst {a:Addr}{xs:List V}(h:SqL K H a xs):TyS K H (.ref a) "list"
 | tup {a:Addr}{xs:List V}(h:SqT K H a xs):TyS K H (.ref a) "tuple"
 | dk {a:Addr}{kvs:List (Key×V)}(h:H a=some (.dK kvs)):TyS K H (.ref a) "dict"
theorem call_isi:CallR X (.builtin "isinstance") (fun xs H Q=>∃x T n b,xs = [x,.ty n]∧TyS X.K H x T∧subT T n=some b∧Q (.bl b) H):=by
 intro pins s σ H xs us Q I r h
 obtain⟨x,T,n,b,rfl,ty,hs,q⟩:=h
 obtain⟨u,w,rfl,ru,rw_⟩:=vals2 r
 cases rw_
 have e:PySem.W.kitOne X.K (.type T) (.type n)=some b:=hs
 have fin:∀tk,EP X pins σ Q (.bool b) { s with toks:=tk }:=fun tk=>⟨.bl b,H,I.tok tk,rfl,q⟩
 cases ty with
 | non=>cases ru;exact PySem.W.kia_one PySem.W.kitx_none I.kIn True.intro e (fun z=>nomatch z) fin
 | bl y=>cases ru;exact PySem.W.kia_one PySem.W.kitx_bool I.kIn True.intro e (fun z=>nomatch z) fin
 | int i=>obtain⟨t,rfl⟩:=ru;exact PySem.W.kia_one PySem.W.kitx_int I.kIn True.intro e (fun z=>nomatch z) fin
 | str y=>obtain⟨t,rfl⟩:=ru;exact PySem.W.kia_one PySem.W.kitx_str I.kIn True.intro e (fun z=>nomatch z) fin
 | lst hq =>
  cases ru
  obtain⟨its,_,⟨o,nn,e1,e2,_⟩,_⟩:=I.list hq
  exact PySem.W.kia_one PySem.W.kitx_list I.kIn ⟨o,e1,e2⟩ e (fun z=>nomatch z) fin
 | tup hq =>
  cases ru
  obtain⟨its,_,⟨o,e1,e2,_⟩,_⟩:=I.tuple hq
  exact PySem.W.kia_one PySem.W.kitx_tuple I.kIn ⟨o,e1,e2⟩ e (fun z=>nomatch z) fin
 | @dk a kvs hq =>
  cases ru
  obtain⟨_,_,vs,_,o,es,ep,h1,h2,_⟩:=(show ObjOk X.prog X.w H s.heap a (.dK kvs)from I.hok a _ hq)
  exact PySem.W.kia_one PySem.W.kitx_dict I.kIn ⟨o,h1,h2.1⟩ e (fun z=>nomatch z) fin
noncomputable def isB (T n:String):Bool:=T == n || (T == "bool" && n == "int")
theorem subT_tab:∀T ∈ ["NoneType","bool","int","str","list","tuple","dict"],∀n ∈ ["int","bool","str","tuple","list","dict"],subT T n=some (isB T n):=by decide +kernel
end
noncomputable def Ext (N:List Addr)(H H':Hp):Prop:=∀b o,H b=some o→b∉N→H' b=some o
theorem Ext.trans {N:List Addr}{H H1 H2:Hp}(a:Ext N H H1)(b:Ext N H1 H2):Ext N H H2:=fun c o h n=>b c o (a c o h n) n
theorem Ext.same {N:List Addr}{H H':Hp}(a:Same H H'):Ext N H H':=fun c o h _=>a c o h
theorem Ext.new {N:List Addr}{H:Hp}{p:Addr}{o:HO}(h:H p=none):Ext N H (upd H p o):=Ext.same (Same.upd h)
theorem Ext.at {N:List Addr}{H:Hp}{p:Addr}{o:HO}(h:p∈N):Ext N H (L2.upd H p o):=fun c u e n=>by rw[upd_ne (show c≠p from fun z=>n (by rw[z];exact h))];exact e
theorem Ext.tup {N:List Addr}{K:PySem.W.Frag}{H H':Hp}{a:Addr}{xs:List V}(e:Ext N H H')(h:SqT K H a xs)(n:a∉N):SqT K H' a xs:=by
 rcases h with (h | ⟨o,h⟩) |h
 ·exact .inl (.inl (e _ _ h n))
 ·exact .inl (.inr ⟨o,e _ _ h n⟩)
 ·exact .inr h
theorem Ext.lst {N:List Addr}{K:PySem.W.Frag}{H H':Hp}{a:Addr}{xs:List V}(e:Ext N H H')(h:SqL K H a xs)(n:a∉N):SqL K H' a xs:=by
 rcases h with (h | ⟨o,h⟩) |h
 ·exact .inl (.inl (e _ _ h n))
 ·exact .inl (.inr ⟨o,e _ _ h n⟩)
 ·exact .inr h
theorem Ext.free {N:List Addr}{H H':Hp}(e:Ext N H H') {p:Addr}(h:H' p=none)(n:p∉N):H p=none:=by
 cases q:H p with
 | none=>rfl
 | some o=>rw[e p o q n]at h;cases h
noncomputable def kD:Key→PyData
 | .inl i=>.int i
 | .inr x=>.str x
mutual
inductive Dt (K:PySem.W.Frag) (N:List Addr) (H:Hp):V→PyData→Prop
 | non:Dt K N H .non .none
 | bl (b:Bool):Dt K N H (.bl b) (.bool b)
 | int (i:Int):Dt K N H (.int i) (.int i)
 | str (x:Str):Dt K N H (.str x) (.str x)
 | tup {a:Addr}{xs:List V}{ds:List PyData}(h:SqT K H a xs) (n:a∉N) (r:DtAll K N H xs ds):Dt K N H (.ref a) (.tuple ds)
 | lst {a:Addr}{xs:List V}{ds:List PyData}(h:SqL K H a xs) (n:a∉N) (r:DtAll K N H xs ds):Dt K N H (.ref a) (.list ds)
 | dk0 {a:Addr}(h:H a=some (.dK [])) (n:a∉N):Dt K N H (.ref a) (.dict [])
 | dk1 {a:Addr}{k:Key}{v:V}{d:PyData}(h:H a=some (.dK [(k,v)])) (n:a∉N) (r:Dt K N H v d):Dt K N H (.ref a) (.dict [(kD k,d)])
inductive DtAll (K:PySem.W.Frag) (N:List Addr) (H:Hp):List V→List PyData→Prop
 | nil:DtAll K N H [] []
 | cons {v:V}{d:PyData}{vs:List V}{ds:List PyData}(h:Dt K N H v d) (r:DtAll K N H vs ds):DtAll K N H (v :: vs) (d :: ds)
end
section
variable {K:PySem.W.Frag}{N:List Addr}{H H':Hp}
mutual
theorem Dt.ext (e:Ext N H H'):∀ {v:V}{d:PyData},Dt K N H v d→Dt K N H' v d
 | _,_,.non=>.non
 | _,_,.bl b=>.bl b
 | _,_,.int i=>.int i
 | _,_,.str x=>.str x
 | _,_,.tup h n r=>.tup (e.tup h n) n (DtAll.ext e r)
 | _,_,.lst h n r=>.lst (e.lst h n) n (DtAll.ext e r)
 | _,_,.dk0 h n=>.dk0 (e _ _ h n) n
 | _,_,.dk1 h n r=>.dk1 (e _ _ h n) n (Dt.ext e r)
theorem DtAll.ext (e:Ext N H H'):∀ {vs:List V}{ds:List PyData},DtAll K N H vs ds→DtAll K N H' vs ds
 | _,_,.nil=>.nil
 | _,_,.cons h r=>.cons (Dt.ext e h) (DtAll.ext e r)
end
theorem DtAll.length:∀ {vs:List V}{ds:List PyData},DtAll K N H vs ds→vs.length=ds.length
 | _,_,.nil=>rfl
 | _,_,.cons _ r=>by rw[List.length_cons,List.length_cons,DtAll.length r]
theorem DtAll.get:∀ {vs:List V}{ds:List PyData}{i:Nat}{v:V},DtAll K N H vs ds→vs[i]? = some v→∃d,ds[i]? = some d∧Dt K N H v d
 | _,_,_,_,.nil,e=>by simp at e
 | _,_,0,_,.cons h _,e=>by simp at e;subst e;exact⟨_,rfl,h⟩
 | _,_,i+1,v,.cons _ r,e=>by
  obtain⟨d,h1,h2⟩:=DtAll.get (i:=i) (v:=v) r (by simpa using e)
  exact⟨d,by simpa using h1,h2⟩
theorem DtAll.getD:∀ {vs:List V}{ds:List PyData}{i:Nat}{d:PyData},DtAll K N H vs ds→ds[i]? = some d→∃v,vs[i]? = some v∧Dt K N H v d
 | _,_,_,_,.nil,e=>by simp at e
 | _,_,0,_,.cons h _,e=>by simp at e;subst e;exact⟨_,rfl,h⟩
 | _,_,i+1,d,.cons _ r,e=>by
  obtain⟨v,h1,h2⟩:=DtAll.getD (i:=i) (d:=d) r (by simpa using e)
  exact⟨v,by simpa using h1,h2⟩
theorem DtAll.append:∀ {vs ws:List V}{ds es:List PyData},DtAll K N H vs ds→DtAll K N H ws es→DtAll K N H (vs ++ ws) (ds ++ es)
 | _,_,_,_,.nil,s=>s
 | _,_,_,_,.cons h r,s=>.cons h (DtAll.append r s)
theorem DtAll.take:∀ {vs:List V}{ds:List PyData}(n:Nat),DtAll K N H vs ds→DtAll K N H (vs.take n) (ds.take n)
 | _,_,0,_=>.nil
 | _,_,_+1,.nil=>.nil
 | _,_,n+1,.cons h r=>.cons h (DtAll.take n r)
theorem DtAll.drop:∀ {vs:List V}{ds:List PyData}(n:Nat),DtAll K N H vs ds→DtAll K N H (vs.drop n) (ds.drop n)
 | _,_,0,r=>r
 | _,_,_+1,.nil=>.nil
 | _,_,n+1,.cons _ r=>DtAll.drop n r
noncomputable def cutD (ds:List PyData)(lo hi:Option Int):List PyData:=(ds.drop (HT.sIx ds.length 0 lo)).take (HT.sIx ds.length ds.length hi - HT.sIx ds.length 0 lo)
theorem DtAll.cut {vs:List V}{ds:List PyData}(lo hi:Option Int)(r:DtAll K N H vs ds):DtAll K N H (cutV vs lo hi) (cutD ds lo hi):=by
 unfold cutV cutD
 rw[r.length]
 exact(r.drop _).take _
end
section
variable {X:Cx}{pins:List (Addr×Obj)}{σ:St}{H:Hp}{s:Shared}{N:List Addr}
mutual
theorem Dt.reads (I:Inv X pins σ H s):∀ {v:V}{d:PyData}{u:Value},Dt X.K N H v d→RelV v u→∃as,Reads s.heap u d as∧(sysModules∈N∨d = .dict []→sysModules∉as)
 | _,_,_,.non,r=>by cases r;exact⟨_,.none,fun _=>by simp⟩
 | _,_,_,.bl b,r=>by cases r;exact⟨_,.bool b,fun _=>by simp⟩
 | _,_,_,.int i,r=>by obtain⟨t,rfl⟩:=r;exact⟨_,.int i t,fun _=>by simp⟩
 | _,_,_,.str x,r=>by obtain⟨t,rfl⟩:=r;exact⟨_,.str x t,fun _=>by simp⟩
 | _,_,_,.tup h n q,r=>by
  cases r
  obtain⟨its,rv,⟨o,e1,e2,m,e3⟩,_⟩:=I.tuple h
  obtain⟨as,ra,sm⟩:=DtAll.reads I q rv
  refine⟨as,.tuple e1 e2 e3 (by simpa using ra),fun z=>?_⟩
  rcases z with z |z
  ·exact sm z
  ·cases z
 | _,_,_,.lst h n q,r=>by
  cases r
  obtain⟨its,rv,⟨o,m,e1,e2,e3,e4⟩,_⟩:=I.list h
  obtain⟨as,ra,sm⟩:=DtAll.reads I q rv
  refine⟨_,.list e1 e2 e4 (by simpa using ra),fun z=>?_⟩
  rcases z with z |z
  ·intro y
   rcases List.mem_cons.mp y with y |y
   ·exact n (y ▸ z)
   ·exact sm z y
  ·cases z
 | _,_,_,.dk0 (a:=a) h n,r=>by
  cases r
  obtain⟨_,hsm,vs,kv,o,es,ep,e1,e2,e3,e4,e5,e6⟩:=(show ObjOk X.prog X.w H s.heap a (.dK [])from I.hok a _ h)
  have ev:vs = []:=by cases kv;rfl
  subst ev
  have ee:es.toList = []:=by
   cases q:es.toList with
   | nil=>rfl
   | cons x r=>rw[q]at e5;cases e5
  refine⟨[a],?_,fun _=>?_⟩
  ·have:=Reads.dict (h:=s.heap) (a:=a) (o:=o) (es:=es) (n:=ep) (kvs:=[]) (as:=[]) (bs:=[]) e1 e2.1 e3 (by rw[ee];exact .nil) (by rw[ee];exact .nil)
   simpa using this
  ·intro z
   have z':sysModules=a:=by simpa using z
   rw[z']at hsm
   simp at hsm
 | _,_,_,.dk1 (a:=a) (k:=k) (v:=v) (d:=d) h n q,r=>by
  cases r
  obtain⟨_,hsm,vs,kv,o,es,ep,e1,e2,e3,e4,e5,e6⟩:=(show ObjOk X.prog X.w H s.heap a (.dK [(k,v)])from I.hok a _ h)
  obtain⟨u,rfl,ru⟩:∃u,vs = [(k,u)]∧RelV v u:=by
   cases kv with
   | @cons p q ps qs h1 h2 =>
    cases h2
    obtain⟨q1,q2⟩:=q
    obtain⟨h3,h4⟩:=h1
    dsimp only at h3 h4
    subst h3
    exact⟨q2,rfl,h4⟩
  obtain⟨en,ee,ek,ev⟩:∃en,es.toList = [en]∧keyIs k en.key=true∧en.val=u:=by
   generalize es.toList=el at e5
   cases e5 with
   | cons h1 h2 h3=>cases h3;exact⟨_,rfl,h1,h2⟩
  obtain⟨as,ra,sm⟩:=Dt.reads I q ru
  obtain⟨ks,rk,hk⟩:∃ks,Reads s.heap en.key (kD k) ks∧ks = []:=by
   rcases keyIs_shape ek with ⟨i,t,rfl,e⟩ | ⟨x,t,rfl,e⟩
   ·exact⟨[],by rw[e];exact .int i t,rfl⟩
   ·exact⟨[],by rw[e];exact .str x t,rfl⟩
  subst hk
  have rv:Reads s.heap en.val d as:=by rw[ev];exact ra
  refine⟨_,Reads.dict (h:=s.heap) (a:=a) (o:=o) (es:=es) (n:=ep) (kvs:=[(kD k,d)]) e1 e2.1 e3 (by rw[ee];exact .cons rk .nil) (by rw[ee];exact .cons rv .nil),fun z=>?_⟩
  rcases z with z |z
  ·intro y
   simp only[List.append_nil,List.nil_append,List.cons_append]at y
   rcases List.mem_cons.mp y with y |y
   ·rw[← y]at hsm;simp at hsm
   ·exact sm (.inl z) y
  ·cases z
theorem DtAll.reads (I:Inv X pins σ H s):∀ {vs:List V}{ds:List PyData}{us:List Value},DtAll X.K N H vs ds→Vals vs us→∃as,ReadsAll s.heap us ds as∧(sysModules∈N→sysModules∉as)
 | _,_,_,.nil,.nil=>⟨_,.nil,fun _=>by simp⟩
 | _,_,_,.cons h q,.cons r t=>by
  obtain⟨as,ra,sa⟩:=Dt.reads I h r
  obtain⟨bs,rb,sb⟩:=DtAll.reads I q t
  refine⟨_,.cons ra rb,fun z y=>?_⟩
  rcases List.mem_append.mp y with y |y
  ·exact sa (.inl z) y
  ·exact sb z y
end
end
structure Shw (d:PyData):Prop where
 sh:d.showable=true
 dp:d.depth≤30
 ln:d.shown.length≤sizeLine
 nd:d.hasDict=false∨d = .dict []
section
variable {X:Cx}{N:List Addr}
theorem call_repr {k:Nat}(hr:Room k X.A):CallR X (.builtin "repr") (fun xs H Q=>∃x d,xs = [x]∧Dt X.K N H x d∧Shw d∧Q (.str d.shown) H):=by
 intro pins s σ H xs us Q I r h
 obtain⟨x,d,rfl,hd,hs,q⟩:=h
 obtain⟨u,rfl,ru⟩:=vals1 r
 have fin:∀t tk,EP X pins σ Q (.str d.shown t) { s with toks:=tk }:=fun t tk=>⟨.str d.shown,H,I.tok tk,⟨t,rfl⟩,q⟩
 have big:∀a,u = .ref a→wpAny (model X.prog X.w) X.A (call (.builtin "repr") [u]) (EP X pins σ Q) X.xe s:=fun a e=>by
  subst e
  obtain⟨as,rd,sm⟩:=hd.reads I ru
  refine repr_of_reads' rd hs.sh (fun z=>?_) hr.gd (by have:=hr.units;have:=hs.dp;omega) (fun _ _ e=>e) (fun h' t tk kp=>⟨.str d.shown,H,I.kept (t':=tk) kp,⟨t,rfl⟩,q⟩) hs.ln
  rcases hs.nd with y |y
  ·rw[y]at z;cases z
  ·exact sm (.inr y)
 cases hd with
 | non=>cases ru;exact P.repr_of_none (fin _ _)
 | bl b=>cases ru;exact P.repr_of_bool (fin _ _)
 | int i=>obtain⟨t,rfl⟩:=ru;exact P.repr_of_int (by have:=hs.sh;simpa only[PyData.showable,decide_eq_true_eq]using this) (fin _ _)
 | str x=>obtain⟨t,rfl⟩:=ru;exact P.repr_of_str (fin _ _) (hsz:=hs.ln)
 | tup h n r=>cases ru;exact big _ rfl
 | lst h n r=>cases ru;exact big _ rfl
 | dk0 h n=>cases ru;exact big _ rfl
 | dk1 h n r=>cases ru;exact big _ rfl
theorem call_reprD {k:Nat}(hr:Room k X.A):CallR X (.builtin "repr") (fun xs H Q=>∃x d,xs = [x]∧Dt X.K N H x d∧(sysModules∈N∨d.hasDict=false)∧d.showable=true∧d.depth≤30∧d.shown.length≤sizeLine∧Q (.str d.shown) H):=by
 intro pins s σ H xs us Q I r h
 obtain⟨x,d,rfl,hd,hn,h1,h2,h3,q⟩:=h
 obtain⟨u,rfl,ru⟩:=vals1 r
 have fin:∀t tk,EP X pins σ Q (.str d.shown t) { s with toks:=tk }:=fun t tk=>⟨.str d.shown,H,I.tok tk,⟨t,rfl⟩,q⟩
 have big:∀a,u = .ref a→wpAny (model X.prog X.w) X.A (call (.builtin "repr") [u]) (EP X pins σ Q) X.xe s:=fun a e=>by
  subst e
  obtain⟨as,rd,sm⟩:=hd.reads I ru
  refine repr_of_reads' rd h1 (fun z=>?_) hr.gd (by have:=hr.units;omega) (fun _ _ e=>e) (fun h' t tk kp=>⟨.str d.shown,H,I.kept (t':=tk) kp,⟨t,rfl⟩,q⟩) h3
  rcases hn with y |y
  ·exact sm (.inl y)
  ·rw[y]at z;cases z
 cases hd with
 | non=>cases ru;exact P.repr_of_none (fin _ _)
 | bl b=>cases ru;exact P.repr_of_bool (fin _ _)
 | int i=>obtain⟨t,rfl⟩:=ru;exact P.repr_of_int (by have:=h1;simpa only[PyData.showable,decide_eq_true_eq]using this) (fin _ _)
 | str x=>obtain⟨t,rfl⟩:=ru;exact P.repr_of_str (fin _ _) (hsz:=h3)
 | tup h n r=>cases ru;exact big _ rfl
 | lst h n r=>cases ru;exact big _ rfl
 | dk0 h n=>cases ru;exact big _ rfl
 | dk1 h n r=>cases ru;exact big _ rfl
theorem op_eqD {k:Nat}(hr:Room k X.A):OpR X (compareOp .Eq) (fun x y H Q=>∃d e,Dt X.K N H x d∧Dt X.K N H y e∧SeqAt.shaped d=true∧SeqAt.shaped e=true∧Q (.bl (PyData.eqv d e)) H):=by
 intro pins s σ H x y v u Q I rx ry h
 obtain⟨d,e,hd,he,sd,se,q⟩:=h
 obtain⟨as,ra,_⟩:=hd.reads I rx
 obtain⟨bs,rb,_⟩:=he.reads I ry
 exact SeqAt.compareEq_shaped ra rb sd se hr.units ⟨.bl _,H,I,rfl,q⟩
theorem op_neD {k:Nat}(hr:Room k X.A):OpR X (compareOp .NotEq) (fun x y H Q=>∃d e,Dt X.K N H x d∧Dt X.K N H y e∧SeqAt.shaped d=true∧SeqAt.shaped e=true∧Q (.bl (!PyData.eqv d e)) H):=by
 intro pins s σ H x y v u Q I rx ry h
 obtain⟨d,e,hd,he,sd,se,q⟩:=h
 obtain⟨as,ra,_⟩:=hd.reads I rx
 obtain⟨bs,rb,_⟩:=he.reads I ry
 exact SeqAt.compareNe_shaped ra rb sd se hr.units ⟨.bl _,H,I,rfl,q⟩
end
section
variable {D:Ends}{σ:St}{H:Hp}{t u:TS}{te ta tb tc:TE}{c tA tB':TT}{g:TG}{gs:TGs}{Q:VK}{K:PySem.W.Frag}{i:Nat}{v:V}{vs:List V}
theorem rd_seq (h:t { D with nx:=u D } σ H):tSeq t u D σ H:=h
theorem rd_if (h:c σ H fun b H1=>if b=true then t D σ H1 else u D σ H1):tIfS c t u D σ H:=h
theorem rd_asg (h:te σ H fun x H1=>g x σ H1 D.nx):tAsg te g D σ H:=h
theorem rd_drop (h:te σ H fun _ H1=>D.nx σ H1):tDrop te D σ H:=h
theorem rd_ret (h:te σ H D.rt):tRet te D σ H:=h
theorem rd_next (h:D.nx σ H):tNext D σ H:=h
theorem rd_op {r:R2}(h:ta σ H fun x H1=>tb σ H1 fun y H2=>r x y H2 Q):tOp r ta tb σ H Q:=h
theorem rd_un {r:V→Hp→VK→Prop}(h:ta σ H fun x H1=>r x H1 Q):tUn r ta σ H Q:=h
theorem rd_var (e:σ[i]? = some (some v))(h:Q v H):tVar i σ H Q:=⟨v,e,h⟩
theorem rd_c (h:Q v H):tC v σ H Q:=h
theorem rd_I0 {f:Int→Int→V}{i j:Int}(h:Q (f i j) H):rI0 f (.int i) (.int j) H Q:=⟨i,j,rfl,rfl,h⟩
theorem rd_I {C:Int→Int→Prop}{f:Int→Int→V}{i j:Int}(hc:C i j)(h:Q (f i j) H):rI C f (.int i) (.int j) H Q:=⟨i,j,rfl,rfl,hc,h⟩
theorem rd_U {f:Int→V}{i:Int}(h:Q (f i) H):rU f (.int i) H Q:=⟨i,rfl,h⟩
theorem rd_test {Q:Bool→Hp→Prop}(h:te σ H fun x H'=>∃k,x = .bl k∧Q k H'):tTest te σ H Q:=h
theorem rd_tB {Q:Bool→Hp→Prop}(h:te σ H fun x H'=>∃k,x = .bl k∧Q k H'):tB te σ H Q:=h
theorem rd_bl' {P:Bool→Prop}{k:Bool}(h:P k):∃k',V.bl k = .bl k'∧P k':=⟨k,rfl,h⟩
theorem rd_eq {x y:V}(hs:scal x y=true)(h:Q (.bl (decide (x=y))) H):rEq x y H Q:=⟨hs,h⟩
theorem rd_ne {x y:V}(hs:scal x y=true)(h:Q (.bl (!decide (x=y))) H):rNe x y H Q:=⟨hs,h⟩
theorem rd_ixL {p:Addr}{xs:List V}{i:Int}(hq:SqL K H p xs)(ha:atI xs i=some v)(h:Q v H):rIxL K (.ref p) (.int i) H Q:=⟨p,xs,i,v,rfl,rfl,hq,ha,h⟩
theorem rd_ixT {p:Addr}{xs:List V}{i:Int}(hq:SqT K H p xs)(ha:atI xs i=some v)(h:Q v H):rIxT K (.ref p) (.int i) H Q:=⟨p,xs,i,v,rfl,rfl,hq,ha,h⟩
theorem rd_name {Q:St→Hp→Prop}(h:Q (σ.set i (some v)) H):gName i v σ H Q:=h
theorem rd_sub {to ti:TE}{s:TSet}{Q:St→Hp→Prop}(h:to σ H fun o H1=>ti σ H1 fun i H2=>s o i v H2 fun H3=>Q σ H3):gSub to ti s v σ H Q:=h
theorem rd_setL {p:Addr}{xs:List V}{k:Int}{j:Nat}{Q:Hp→Prop}(hp:H p=some (.lst xs))(hi:ixN xs.length k=some j)(h:Q (upd H p (.lst (xs.set j v)))):rSetL (.ref p) (.int k) v H Q:=⟨p,xs,k,j,rfl,rfl,hp,hi,h⟩
theorem rd_CB {r:List V→Hp→VK→Prop}{ta:TA}(h:ta σ H fun vs H1=>r vs H1 Q):tCB r ta σ H Q:=h
theorem rd_nil {Q:List V→Hp→Prop}(h:Q [] H):tNil σ H Q:=h
theorem rd_cons {tr:TA}{Q:List V→Hp→Prop}(h:ta σ H fun x H1=>tr σ H1 fun xs H2=>Q (x :: xs) H2):tCons ta tr σ H Q:=h
theorem rd_and {Q:Bool→Hp→Prop}(h:tA σ H fun c H1=>if c=true then tB' σ H1 Q else Q false H1):tAnd tA tB' σ H Q:=h
theorem rd_or {Q:Bool→Hp→Prop}(h:tA σ H fun c H1=>if c=true then Q true H1 else tB' σ H1 Q):tOr tA tB' σ H Q:=h
theorem rd_not {Q:Bool→Hp→Prop}(h:tA σ H fun c H1=>Q (!c) H1):tNot tA σ H Q:=h
theorem rd_andV (h:ta σ H fun x H1=>∃c,x = .bl c∧if c=true then tb σ H1 Q else Q (.bl false) H1):tAndV ta tb σ H Q:=h
theorem rd_orV (h:ta σ H fun x H1=>∃c,x = .bl c∧if c=true then Q (.bl true) H1 else tb σ H1 Q):tOrV ta tb σ H Q:=h
theorem rd_notV (h:ta σ H fun x H1=>∃c,x = .bl c∧Q (.bl (!c)) H1):tNotV ta σ H Q:=h
theorem rd_ifE (h:c σ H fun c H1=>if c=true then ta σ H1 Q else tb σ H1 Q):tIf c ta tb σ H Q:=h
theorem rd_call {sp:Sp}{dvs:List V}{E:XK}{ta:TA}(h:ta σ H fun vs H1=>sp (vs ++ dvs) H1 Q E):tCall sp dvs E ta σ H Q:=h
theorem rd_tup {ta:TA}(h:ta σ H fun xs H1=>xs.length≤sizeLine∧∀p,H1 p=none→Q (.ref p) (upd H1 p (.tup xs))):tTup ta σ H Q:=h
theorem rd_lst {ta:TA}(h:ta σ H fun xs H1=>xs.length≤sizeLine∧∀p,H1 p=none→Q (.ref p) (upd H1 p (.lst xs))):tLst ta σ H Q:=h
theorem rd_chain {r r':R2}(h:ta σ H fun x H1=>tb σ H1 fun y H2=>r x y H2 fun z H3=>∃k,z = .bl k∧if k=true then tc σ H3 fun w H4=>r' y w H4 Q else Q (.bl false) H3):tChain r r' ta tb tc σ H Q:=h
theorem rd_sl {r:V→Option Int→Option Int→Hp→VK→Prop}{tl th:TO}(h:te σ H fun x H1=>tl σ H1 fun l H2=>th σ H2 fun u H3=>r x l u H3 Q):tSl r te tl th σ H Q:=h
theorem rd_nopart {Q:Option Int→Hp→Prop}(h:Q none H):tNoPart σ H Q:=h
theorem rd_part {Q:Option Int→Hp→Prop}(h:te σ H fun x H1=>∃i,x = .int i∧Q (some i) H1):tPart te σ H Q:=h
theorem rd_int {P:Int→Prop}{i:Int}(h:P i):∃i',V.int i = .int i'∧P i':=⟨i,rfl,h⟩
theorem rd_slL {p:Addr}{xs:List V}{lo hi:Option Int}(hq:SqL K H p xs)(h:∀l,H l=none→Q (.ref l) (upd H l (.lst (cutV xs lo hi)))):rSlL K (.ref p) lo hi H Q:=⟨p,xs,rfl,hq,h⟩
theorem rd_slG {p:Addr}{xs:List V}{lo hi:Option Int}(hq:SqT K H p xs)(h:∀q H',(q=p∨H q=none)→Same H H'→SqT K H' q (cutV xs lo hi)→Q (.ref q) H'):rSlG K (.ref p) lo hi H Q:=⟨p,xs,rfl,hq,h⟩
theorem rd_catG {p q:Addr}{xs ys:List V}(h1:SqT K H p xs)(h2:SqT K H q ys)(hz:xs.length+ys.length≤sizeLine)(h:∀r H',(r=p∨r=q∨H r=none)→Same H H'→SqT K H' r (xs ++ ys)→Q (.ref r) H'):rCatG K (.ref p) (.ref q) H Q:=⟨p,q,xs,ys,rfl,rfl,h1,h2,hz,h⟩
theorem rd_tupT {t:TGs}{n:Nat}{p:Addr}{xs:List V}{Q:St→Hp→Prop}(hq:SqT K H p xs)(hl:xs.length=n)(h:t xs σ H Q):gTup K n t (.ref p) σ H Q:=⟨p,xs,rfl,hq,hl,h⟩
theorem rd_gnil {Q:St→Hp→Prop}(h:Q σ H):gNil [] σ H Q:=⟨rfl,h⟩
theorem rd_gcons {t:TG}{u:TGs}{v:V}{r:List V}{Q:St→Hp→Prop}(h:t v σ H fun σ' H'=>u r σ' H' Q):gCons t u (v :: r) σ H Q:=⟨v,r,rfl,h⟩
theorem rd_rng1 {ta:TA}{R:It→Hp→Prop}(h:ta σ H fun vs H1=>∃j:Int,vs = [.int j]∧-(2 ^ 62)≤j∧j<2 ^ 62∧R (Itr 0 j.toNat) H1):iRng1 ta σ H R:=h
theorem rd_rngV {j:Int}{P:Int→Prop}(h:P j):∃j':Int,[V.int j] = [.int j']∧P j':=⟨j,rfl,h⟩
theorem rd_ilist {tl:TE}{R:It→Hp→Prop}(h:tl σ H fun x H1=>∃a,x = .ref a∧(∃xs,SqL K H1 a xs)∧R (Itl K a) H1):iList K tl σ H R:=h
theorem rd_itup {tl:TE}{R:It→Hp→Prop}(h:tl σ H fun x H1=>∃a,x = .ref a∧(∃xs,SqT K H1 a xs)∧R (Itt K a) H1):iTup K tl σ H R:=h
end
noncomputable abbrev TR:=List V→Hp→VK→Prop
noncomputable def rLen (K:PySem.W.Frag):TR:=fun xs H Q=>∃p ys,xs = [.ref p]∧(SqL K H p ys∨SqT K H p ys)∧Q (.int ys.length) H
noncomputable def rIsi (K:PySem.W.Frag):TR:=fun xs H Q=>∃x T n b,xs = [x,.ty n]∧TyS K H x T∧subT T n=some b∧Q (.bl b) H
noncomputable def rAll (K:PySem.W.Frag):TR:=fun xs H Q=>∃(p:Addr)(bs:List Bool),xs = [.ref p]∧SqL K H p (bs.map V.bl)∧Q (.bl (bs.all id)) H
noncomputable def rListOf (K:PySem.W.Frag):TR:=fun xs H Q=>∃p ys,xs = [.ref p]∧(SqL K H p ys∨SqT K H p ys)∧∀l,H l=none→Q (.ref l) (upd H l (.lst ys))
noncomputable def rTupleOf (K:PySem.W.Frag):TR:=fun xs H Q=>∃p ys,xs = [.ref p]∧((SqL K H p ys∧∀l,H l=none→Q (.ref l) (upd H l (.tup ys)))∨(SqT K H p ys∧Q (.ref p) H))
noncomputable def rMin:TR:=fun xs H Q=>∃i j,xs = [.int i,.int j]∧Q (.int (if j<i then j else i)) H
noncomputable def rMax:TR:=fun xs H Q=>∃i j,xs = [.int i,.int j]∧Q (.int (if j > i then j else i)) H
noncomputable def rStr:TR:=fun xs H Q=>∃i,xs = [.int i]∧i.natAbs.log2<1920∧Q (.str (toString i)) H
noncomputable def rEqD (K:PySem.W.Frag):R2:=fun x y H Q=>∃(N:List Addr)(d e:PyData),Dt K N H x d∧Dt K N H y e∧SeqAt.shaped d=true∧SeqAt.shaped e=true∧Q (.bl (PyData.eqv d e)) H
noncomputable def rNeD (K:PySem.W.Frag):R2:=fun x y H Q=>∃(N:List Addr)(d e:PyData),Dt K N H x d∧Dt K N H y e∧SeqAt.shaped d=true∧SeqAt.shaped e=true∧Q (.bl (!PyData.eqv d e)) H
noncomputable def rIsN:R2:=fun x y H Q=>y = .non∧Q (.bl (decide (x = .non))) H
section
variable {X:Cx}
theorem cn_len:CallR X (.builtin "len") (rLen X.K):=call_len_seq
theorem cn_isi:CallR X (.builtin "isinstance") (rIsi X.K):=call_isi
theorem cn_all (hc:X.calm=true):CallR X (.builtin "all") (rAll X.K):=call_all hc
theorem cn_list:CallR X (.type "list") (rListOf X.K):=call_list_of
theorem cn_tuple:CallR X (.type "tuple") (rTupleOf X.K):=call_tuple_of
theorem cn_min (hc:X.calm=true):CallR X (.builtin "min") rMin:=call_min2 hc
theorem cn_max (hc:X.calm=true):CallR X (.builtin "max") rMax:=call_max2 hc
theorem cn_str:CallR X (.type "str") rStr:=call_str_int
theorem on_eqD {k:Nat}(hr:Room k X.A):OpR X (compareOp .Eq) (rEqD X.K):=fun pins s σ H x y v u Q I rx ry ⟨N,d,e,h⟩=>op_eqD (N:=N) hr pins s σ H x y v u Q I rx ry ⟨d,e,h⟩
theorem on_neD {k:Nat}(hr:Room k X.A):OpR X (compareOp .NotEq) (rNeD X.K):=fun pins s σ H x y v u Q I rx ry ⟨N,d,e,h⟩=>op_neD (N:=N) hr pins s σ H x y v u Q I rx ry ⟨d,e,h⟩
theorem on_isN:OpR X (compareOp .Is) rIsN:=op_isN
end
section
variable {H:Hp}{Q:VK}{K:PySem.W.Frag}{N:List Addr}{p:Addr}{xs:List V}
theorem rd_lenL (hq:SqL K H p xs)(h:Q (.int xs.length) H):rLen K [.ref p] H Q:=⟨p,xs,rfl,.inl hq,h⟩
theorem rd_lenT (hq:SqT K H p xs)(h:Q (.int xs.length) H):rLen K [.ref p] H Q:=⟨p,xs,rfl,.inr hq,h⟩
theorem rd_isi {x:V}{T n:String}{b:Bool}(ty:TyS K H x T)(hs:subT T n=some b)(h:Q (.bl b) H):rIsi K [x,.ty n] H Q:=⟨x,T,n,b,rfl,ty,hs,h⟩
theorem rd_eqD {x y:V}{d e:PyData}(hd:Dt K N H x d)(he:Dt K N H y e)(h1:SeqAt.shaped d=true)(h2:SeqAt.shaped e=true)(h:Q (.bl (PyData.eqv d e)) H):rEqD K x y H Q:=⟨N,d,e,hd,he,h1,h2,h⟩
theorem rd_neD {x y:V}{d e:PyData}(hd:Dt K N H x d)(he:Dt K N H y e)(h1:SeqAt.shaped d=true)(h2:SeqAt.shaped e=true)(h:Q (.bl (!PyData.eqv d e)) H):rNeD K x y H Q:=⟨N,d,e,hd,he,h1,h2,h⟩
theorem rd_listL (hq:SqL K H p xs)(h:∀l,H l=none→Q (.ref l) (upd H l (.lst xs))):rListOf K [.ref p] H Q:=⟨p,xs,rfl,.inl hq,h⟩
theorem rd_tupleL (hq:SqL K H p xs)(h:∀l,H l=none→Q (.ref l) (upd H l (.tup xs))):rTupleOf K [.ref p] H Q:=⟨p,xs,rfl,.inl ⟨hq,h⟩⟩
theorem rd_all {bs:List Bool}(hq:SqL K H p (bs.map V.bl))(h:Q (.bl (bs.all id)) H):rAll K [.ref p] H Q:=⟨p,bs,rfl,hq,h⟩
theorem rd_min {i j:Int}(h:Q (.int (if j<i then j else i)) H):rMin [.int i,.int j] H Q:=⟨i,j,rfl,h⟩
theorem rd_max {i j:Int}(h:Q (.int (if j > i then j else i)) H):rMax [.int i,.int j] H Q:=⟨i,j,rfl,h⟩
theorem rd_str {i:Int}(hl:i.natAbs.log2<1920)(h:Q (.str (toString i)) H):rStr [.int i] H Q:=⟨i,rfl,hl,h⟩
theorem rd_isN {x:V}(h:Q (.bl (decide (x = .non))) H):rIsN x .non H Q:=⟨rfl,h⟩
end
theorem atI_in {α:Type}{xs:List α}{i:Int}(h0:0≤i)(h1:i<xs.length):∃v,atI xs i=some v∧xs[i.toNat]? = some v:=by
 obtain⟨n,rfl⟩:=Int.eq_ofNat_of_zero_le h0
 have hn:n<xs.length:=by omega
 exact⟨xs[n],atI_nat (by simp[hn]),by simp[hn]⟩
theorem atI_ints {ns:List Int}{i:Int}(h0:0≤i)(h1:i<ns.length):∃n,atI (ns.map V.int) i=some (.int n)∧n∈ns:=by
 obtain⟨v,h2,h3⟩:=atI_in (xs:=ns.map V.int) h0 (by simpa using h1)
 rw[List.getElem?_map]at h3
 cases e:ns[i.toNat]? with
 | none=>rw[e]at h3;cases h3
 | some n=>rw[e]at h3;cases h3;exact⟨n,h2,List.mem_of_getElem? e⟩
noncomputable def CompW (σ0:St)(J:It)(H1:Hp)(acc:Addr)(g:TG)(tt:TT)(te:TE)(Q:VK):Prop:=∃W:Nat→Nat→St→Hp→Prop,(∃m,W 0 m σ0 (upd H1 acc (.lst [])))∧∀i m σc H,W i m σc H →
  (J.stop i H∧Q (.ref acc) H)∨(J.go i H∧∃N:St→Hp→Prop,(∀ σ' H',N σ' H'→∃m',m'<m∧W (i+1) m' σ' H')∧∀x H',J.yld i H x H'→g x σc H' fun σ2 H2=>tt σ2 H2 fun b H3 =>
   if b=true then te σ2 H3 fun v H4=>∃xs,H4 acc=some (.lst xs)∧xs.length<sizeLine∧N σ2 (upd H4 acc (.lst (xs ++ [v]))) else N σ2 H3)
noncomputable def ForW (J:It)(g:TG)(tb:TS)(D:Ends) (σ:St)(H:Hp):Prop:=∃W:Nat→Nat→St→Hp→Prop,(∃m,W 0 m σ H)∧∀i m σ H,W i m σ H →
 (J.stop i H∧D.nx σ H)∨(J.go i H∧∃N:St→Hp→Prop,(∀ σ' H',N σ' H'→∃m',m'<m∧W (i+1) m' σ' H')∧∀x H',J.yld i H x H'→g x σ H' fun σ2 H2=>tb { D with nx:=N,ct:=N,bk:=D.nx } σ2 H2)
section
variable {J:It}{H1:Hp}{acc:Addr}{σ0:St}{g:TG}{te:TE}{Q:VK}
theorem comp_by (n:Nat)(hn:n<sizeLine)(Pv:Nat→List V→St→Hp→Prop)(h0:Pv 0 [] σ0 (upd H1 acc (.lst [])))
  (hgo:∀i vs σc H,i<n→vs.length=i→H acc=some (.lst vs)→Pv i vs σc H→J.go i H∧∀x H',J.yld i H x H'→∀R:St→V→Hp→Prop,
   (∀ σ2 v H4,H4 acc=some (.lst vs)→Pv (i+1) (vs ++ [v]) σ2 (upd H4 acc (.lst (vs ++ [v])))→R σ2 v H4)→g x σc H' fun σ2 H2=>te σ2 H2 (R σ2))
  (hst:∀vs σc H,vs.length=n→H acc=some (.lst vs)→Pv n vs σc H→J.stop n H∧Q (.ref acc) H) :
  CompW σ0 J H1 acc g tYes te Q:=by
 refine⟨fun i m σc H=>m=n - i∧i≤n∧∃vs,vs.length=i∧H acc=some (.lst vs)∧Pv i vs σc H,⟨n,by simp,Nat.zero_le _,[],rfl,upd_same,h0⟩,?_⟩
 rintro i m σc H ⟨rfl,hi,vs,hl,ha,hp⟩
 by_cases hlt:i<n
 ·obtain⟨g1,g2⟩:=hgo i vs σc H hlt hl ha hp
  refine .inr ⟨g1,fun σ' H'=>i+1≤n∧∃vs,vs.length=i+1∧H' acc=some (.lst vs)∧Pv (i+1) vs σ' H',fun σ' H' q=>⟨n - (i+1),by omega,rfl,q⟩,fun x H' y=>?_⟩
  simp only[tYes,if_true]
  exact g2 x H' y (fun σ2 v H4=>∃xs,H4 acc=some (.lst xs)∧xs.length<sizeLine∧(i+1≤n∧∃vs,vs.length=i+1∧(upd H4 acc (.lst (xs ++ [v]))) acc=some (.lst vs)∧Pv (i+1) vs σ2 (upd H4 acc (.lst (xs ++ [v])))))
   fun σ2 v H4 q1 q2=>⟨vs,q1,by omega,hlt,vs ++ [v],by simp[hl],upd_same,q2⟩
 ·have e:i=n:=by omega
  subst e
  exact .inl (hst vs σc H hl ha hp)
end
theorem rd_comp {K:PySem.W.Frag}{fr:List (Option Nat)}{wi:TI}{g:TG}{tt:TT}{te:TE}{σ:St}{H:Hp}{Q:VK}(h:wi σ H fun J H1=>∀acc,H1 acc=none→K.lookup acc=none→CompW (stC fr σ) J H1 acc g tt te Q):tComp K fr wi g tt te σ H Q:=h
theorem rd_for {wi:TI}{g:TG}{tb:TS}{D:Ends}{σ:St}{H:Hp}(h:wi σ H fun J H1=>ForW J g tb D σ H1):tFor wi g tb D σ H:=h
theorem for_rangeW {lo:Int}{n:Nat}{g:TG}{tb:TS}{D:Ends}{σ:St}{H:Hp}(Pv:Nat→St→Hp→Prop)(h0:Pv 0 σ H)
  (hs:∀i σ H,i<n→Pv i σ H→g (.int (lo+i)) σ H fun σ2 H2=>tb { D with nx:=Pv (i+1),ct:=Pv (i+1),bk:=D.nx } σ2 H2) (hd:∀ σ H,Pv n σ H→D.nx σ H):ForW (Itr lo n) g tb D σ H:=for_range Pv h0 hs hd
theorem rd_izip {K:PySem.W.Frag}{ta:TA}{σ:St}{H:Hp}{R:It→Hp→Prop}(h:ta σ H fun vs H1=>∃a b,vs = [.ref a,.ref b]∧(∃xs,SqT K H1 a xs)∧(∃ys,SqT K H1 b ys)∧R (Itz K a b) H1):iZip K ta σ H R:=h
theorem subT_of {T n:String}(h1:T ∈ ["NoneType","bool","int","str","list","tuple","dict"])(h2:n ∈ ["int","bool","str","tuple","list","dict"]):subT T n=some (isB T n):=subT_tab T h1 n h2
noncomputable def tyN:PyData→String
 | .none=>"NoneType"
 | .bool _=>"bool"
 | .int _=>"int"
 | .str _=>"str"
 | .list _=>"list"
 | .tuple _=>"tuple"
 | .dict _=>"dict"
theorem tyN_in (d:PyData):tyN d ∈ ["NoneType","bool","int","str","list","tuple","dict"]:=by cases d <;> simp[tyN]
theorem Dt.tyn {K:PySem.W.Frag}{N:List Addr}{H:Hp}{v:V}{d:PyData}(h:Dt K N H v d):TyS K H v (tyN d):=by
 cases h with
 | non=>exact .non
 | bl b=>exact .bl b
 | int i=>exact .int i
 | str x=>exact .str x
 | tup h n r=>exact .tup h
 | lst h n r=>exact .lst h
 | dk0 h n=>exact .dk h
 | dk1 h n r=>exact .dk h
noncomputable def isTupD:PyData→Bool
 | .tuple _=>true
 | _=>false
noncomputable def isIntD:PyData→Bool
 | .int _=>true
 | .bool _=>true
 | _=>false
noncomputable def isBoolD:PyData→Bool
 | .bool _=>true
 | _=>false
noncomputable def isStrD:PyData→Bool
 | .str _=>true
 | _=>false
noncomputable def isListD:PyData→Bool
 | .list _=>true
 | _=>false
section
variable {K:PySem.W.Frag}{N:List Addr}{H:Hp}{x:V}{d:PyData}{Q:VK}
theorem rd_isiTup (hd:Dt K N H x d)(h:Q (.bl (isTupD d)) H):rIsi K [x,.ty "tuple"] H Q:=by
 refine rd_isi hd.tyn (subT_of (tyN_in d) (by simp)) ?_
 have e:isB (tyN d) "tuple" = isTupD d:=by cases d <;> (dsimp only[tyN,isTupD,isIntD,isBoolD,isStrD,isListD];decide)
 rw[e];exact h
theorem rd_isiInt (hd:Dt K N H x d)(h:Q (.bl (isIntD d)) H):rIsi K [x,.ty "int"] H Q:=by
 refine rd_isi hd.tyn (subT_of (tyN_in d) (by simp)) ?_
 have e:isB (tyN d) "int" = isIntD d:=by cases d <;> (dsimp only[tyN,isTupD,isIntD,isBoolD,isStrD,isListD];decide)
 rw[e];exact h
theorem rd_isiBool (hd:Dt K N H x d)(h:Q (.bl (isBoolD d)) H):rIsi K [x,.ty "bool"] H Q:=by
 refine rd_isi hd.tyn (subT_of (tyN_in d) (by simp)) ?_
 have e:isB (tyN d) "bool" = isBoolD d:=by cases d <;> (dsimp only[tyN,isTupD,isIntD,isBoolD,isStrD,isListD];decide)
 rw[e];exact h
theorem rd_isiStr (hd:Dt K N H x d)(h:Q (.bl (isStrD d)) H):rIsi K [x,.ty "str"] H Q:=by
 refine rd_isi hd.tyn (subT_of (tyN_in d) (by simp)) ?_
 have e:isB (tyN d) "str" = isStrD d:=by cases d <;> (dsimp only[tyN,isTupD,isIntD,isBoolD,isStrD,isListD];decide)
 rw[e];exact h
end
theorem rd_iteT {i:Decidable (true=true)}{A B:Prop}(h:A):@ite Prop (true=true) i A B:=by rw[if_pos rfl];exact h
theorem rd_iteF {i:Decidable (false=true)}{A B:Prop}(h:B):@ite Prop (false=true) i A B:=by rw[if_neg Bool.false_ne_true];exact h
theorem rd_ite2 {c:Bool}{i:Decidable (c=true)}{A B:Prop}(h1:c=true→A)(h2:c=false→B):@ite Prop (c=true) i A B:=by
 cases c with
 | true=>rw[if_pos rfl];exact h1 rfl
 | false=>rw[if_neg Bool.false_ne_true];exact h2 rfl
theorem Same.upd2 {H H':Hp}{p:Addr}{o:HO}(s:Same H H')(h:H p=none):Same H (L2.upd H' p o):=fun b u e=>by rw[upd_ne (ne_of_none e h)];exact s b u e
theorem Ext.upd2 {N:List Addr}{H H':Hp}{p:Addr}{o:HO}(s:Ext N H H')(h:H p=none):Ext N H (L2.upd H' p o):=fun b u e n=>by rw[upd_ne (ne_of_none e h)];exact s b u e n
theorem DtAll.at {K:PySem.W.Frag}{N:List Addr}{H:Hp}{vs:List V}{ds:List PyData}{i:Nat}(r:DtAll K N H vs ds)(h:i<ds.length):∃v d,vs[i]? = some v∧ds[i]? = some d∧Dt K N H v d:=by
 have e:ds[i]? = some ds[i]:=by simp[h]
 obtain⟨v,h1,h2⟩:=r.getD e
 exact⟨v,ds[i],h1,e,h2⟩
theorem cutV_tail (xs:List V):cutV xs (some 1) none=xs.drop 1:=by
 unfold cutV
 have e:HT.sIx xs.length 0 (some 1)=min 1 xs.length:=HT.sIx_nat _ _ 1
 rw[e,HT.sIx_none]
 cases xs with
 | nil=>simp
 | cons x r=>rw[List.length_cons,Nat.min_eq_left (by omega)];simp
section
variable {X:Cx}{K:PySem.W.Frag}
theorem ix_listK (h:X.K=K):IxR X (rIxL K):=h ▸ ix_list
theorem ix_tupK (h:X.K=K):IxR X (rIxT K):=h ▸ ix_tup
theorem op_catGK (h:X.K=K):OpR X (binaryOp .Add) (rCatG K):=h ▸ op_catG
theorem pg_tupK {es:List Expr}{k:Nat}{t:TGs}{n:Nat}{pos:Pos}(hK:X.K=K)(hc:X.calm=true)(h:PGs X es t)
  (hn:(assignEach es X.env).length=n:=by rfl) (hst:(assignEach es X.env).findIdx? (·.1)=none:=by rfl):PG X (.Tuple es k pos) (gTup K n t):=hK ▸ pg_tup hc h hn hst
end
end L2
namespace L2
open PySem
structure StOk (K:PySem.W.Frag) (H:Hp) (st:Addr):Prop where
 ex:∃(c:Addr) (cs:List Int) (p q r:Int),H st=some (.lst [.ref c,.int p,.int q,.int r])∧H c=some (.lst (cs.map V.int))∧c≠st∧1≤cs.length∧cs.length≤63∧0≤p∧0≤q∧0≤r∧r<2147483647
theorem sz {n:Nat}(h:n≤1000):n≤sizeLine:=Nat.le_trans h (by decide)
end L2
namespace Mt
open PySem
noncomputable def numD:PyData→Bool
 | .int _=>true
 | _=>false
noncomputable def withinD (a b:Int):PyData→Bool
 | .int i=>decide (a≤i) && decide (i≤b)
 | _=>false
theorem numD_int {d:PyData}(h:numD d=true):∃a,d = .int a:=by
 cases d with
 | int a=>exact⟨a,rfl⟩
 | _=>cases h
theorem p9:(10:Int) ^ (9:Int).toNat=1000000000:=by decide
theorem p6:(10:Int) ^ (6:Int).toNat=1000000:=by decide
end Mt
namespace Mt
open PySem L2
structure Itm (w k:Nat) (d:PyData):Prop where
 sh:d.showable=true
 lv:d.leavesShort 50=true
 wt:d.weight≤w
 dp:d.depth≤k
 cl:d.canLay0=true
theorem Itm.nd {w k:Nat}{d:PyData}(h:Itm w k d):d.hasDict=false:=PyData.hasDict_of_canLay _ h.cl
theorem Itm.mono {w w' k k':Nat}{d:PyData}(h:Itm w k d)(h1:w≤w')(h2:k≤k'):Itm w' k' d:=⟨h.sh,h.lv,Nat.le_trans h.wt h1,Nat.le_trans h.dp h2,h.cl⟩
theorem Itm.shw {w k:Nat}{d:PyData}(h:Itm w k d)(hw:w≤200000)(hk:k≤30):Shw d:=by
 refine⟨h.sh,Nat.le_trans h.dp hk,?_,.inl h.nd⟩
 have e:=PyData.shown_le 50 (by decide) d h.lv
 have e2:=h.wt
 rw[sizeLine_eq]
 have e3:(50+2) * d.weight≤52 * 200000:=Nat.mul_le_mul_left 52 (Nat.le_trans e2 hw)
 omega
theorem itm_none:Itm 0 0 .none:=⟨rfl,rfl,Nat.le_refl _,Nat.le_refl _,rfl⟩
theorem itm_bool (b:Bool):Itm 0 0 (.bool b):=⟨rfl,rfl,Nat.le_refl _,Nat.le_refl _,rfl⟩
theorem log2_le {n:Nat}(h:n<10 ^ 41):n.log2<140:=by
 by_cases h0:n=0
 ·subst h0;decide
 ·exact(Nat.log2_lt h0).mpr (Nat.lt_of_lt_of_le h (by decide))
theorem itm_int {i:Int}(h:i.natAbs<10 ^ 41):Itm 140 0 (.int i):=by
 have hl:=log2_le h
 refine⟨?_,?_,?_,Nat.le_refl _,rfl⟩
 ·simp only[PyData.showable,decide_eq_true_eq];omega
 ·have e:=int_text_length_le10 (k:=41) (by decide) h
  have e':(PyData.shown (.int i)).length=(toString i).length:=ofString_length _
  simp only[PyData.leavesShort,decide_eq_true_eq,e'];omega
 ·simp only[PyData.weight]
  split <;> omega
noncomputable def cpsOk (x:Str):Prop:=(x.cps.toList.all fun c=>decide (c<1114112))=true
theorem cps_lv {x:Str}(h:cpsOk x):(x.cps.toList.all fun c=>decide (c<16 ^ 8))=true:=by
 unfold cpsOk at h
 rw[List.all_eq_true]at h ⊢
 intro c hc
 have:=h c hc
 rw[decide_eq_true_eq]at this ⊢
 exact Nat.lt_trans this (by decide)
theorem cps_ok {x:Str}(h:cpsOk x):(PyData.str x).canLay0=true:=by
 rw[PyData.canLay0.eq_4]
 unfold PyData.strOk
 rw[← Array.all_toList]
 exact h
theorem itm_str {x:Str}(h:cpsOk x)(hl:x.length≤140):Itm 140 0 (.str x):=⟨rfl,cps_lv h,hl,Nat.le_refl _,cps_ok h⟩
theorem all_showable {w k:Nat}:∀ {ds:List PyData},(∀d∈ds,Itm w k d)→PyData.showableAll ds=true
 | [],_=>rfl
 | d :: r,h=>by
  simp only[PyData.showableAll,Bool.and_eq_true]
  exact⟨(h d (by simp)).sh,all_showable fun e he=>h e (List.mem_cons_of_mem _ he)⟩
theorem all_leaves {w k:Nat}:∀ {ds:List PyData},(∀d∈ds,Itm w k d)→PyData.leavesShortAll 50 ds=true
 | [],_=>rfl
 | d :: r,h=>by
  simp only[PyData.leavesShortAll,Bool.and_eq_true]
  exact⟨(h d (by simp)).lv,all_leaves fun e he=>h e (List.mem_cons_of_mem _ he)⟩
theorem all_weight {w k:Nat}:∀ {ds:List PyData},(∀d∈ds,Itm w k d)→PyData.weightAll ds≤ds.length * (w+1)
 | [],_=>by simp[PyData.weightAll]
 | d :: r,h=>by
  have h1:=(h d (by simp)).wt
  have h2:=all_weight (ds:=r) fun e he=>h e (List.mem_cons_of_mem _ he)
  simp only[PyData.weightAll,List.length_cons,Nat.add_mul,Nat.one_mul]
  omega
theorem all_depth {w k:Nat}:∀ {ds:List PyData},(∀d∈ds,Itm w k d)→PyData.depthAll ds≤k
 | [],_=>by simp[PyData.depthAll]
 | d :: r,h=>by
  simp only[PyData.depthAll]
  exact Nat.max_le.mpr ⟨(h d (by simp)).dp,all_depth fun e he=>h e (List.mem_cons_of_mem _ he)⟩
theorem all_nodict {w k:Nat}:∀ {ds:List PyData},(∀d∈ds,Itm w k d)→PyData.canLayAll0 ds=true
 | [],_=>rfl
 | d :: r,h=>by
  simp only[PyData.canLayAll0,Bool.and_eq_true]
  exact⟨(h d (by simp)).cl,all_nodict fun e he=>h e (List.mem_cons_of_mem _ he)⟩
theorem itm_tuple {w k n:Nat}{ds:List PyData}(h:∀d∈ds,Itm w k d)(hn:ds.length≤n):Itm (n * (w+1)) (k+1) (.tuple ds) :=
 ⟨all_showable h,all_leaves h,Nat.le_trans (all_weight h) (Nat.mul_le_mul_right _ hn),Nat.succ_le_succ (all_depth h),all_nodict h⟩
theorem itm_list {w k n:Nat}{ds:List PyData}(h:∀d∈ds,Itm w k d)(hn:ds.length≤n):Itm (n * (w+1)) (k+1) (.list ds) :=
 ⟨all_showable h,all_leaves h,Nat.le_trans (all_weight h) (Nat.mul_le_mul_right _ hn),Nat.succ_le_succ (all_depth h),all_nodict h⟩
theorem shw_dict0:Shw (.dict []):=⟨rfl,by decide,by decide +kernel,.inr rfl⟩
noncomputable def pr (p:Int×Int):PyData:=.tuple [.int p.1,.int p.2]
noncomputable def okP:Int→Int→List (Int×Int)→Prop
 | _,_,[]=>True
 | l,f,(a,b) :: r=>l<a∧a≤1000000000∧f≤b∧b≤1000000∧okP a b r
structure HOK (hs:List (Int×Int)):Prop where
 len1:1≤hs.length
 len2:hs.length≤60
 ok:okP (-1) 0 hs
 zero:∃a r,hs=(a,0) :: r
end Mt
namespace L2
open PySem
theorem sub_not {N N':List Addr}(h:∀b∈N',b∈N) {a:Addr}(n:a∉N):a∉N':=fun z=>n (h a z)
mutual
theorem Dt.weaken {K:PySem.W.Frag}{N N':List Addr}{H:Hp}(h:∀b∈N',b∈N):∀ {v:V}{d:PyData},Dt K N H v d→Dt K N' H v d
 | _,_,.non=>.non
 | _,_,.bl b=>.bl b
 | _,_,.int i=>.int i
 | _,_,.str x=>.str x
 | _,_,.tup q n r=>.tup q (sub_not h n) (DtAll.weaken h r)
 | _,_,.lst q n r=>.lst q (sub_not h n) (DtAll.weaken h r)
 | _,_,.dk0 q n=>.dk0 q (sub_not h n)
 | _,_,.dk1 q n r=>.dk1 q (sub_not h n) (Dt.weaken h r)
theorem DtAll.weaken {K:PySem.W.Frag}{N N':List Addr}{H:Hp}(h:∀b∈N',b∈N):∀ {vs:List V}{ds:List PyData},DtAll K N H vs ds→DtAll K N' H vs ds
 | _,_,.nil=>.nil
 | _,_,.cons q r=>.cons (Dt.weaken h q) (DtAll.weaken h r)
end
theorem rd_seqK {t u:TS}{D:Ends}{σ:St}{H:Hp}(P:St→Hp→Prop)(hu:∀ σ' H',P σ' H'→u D σ' H')(h:(∀ σ' H',P σ' H'→u D σ' H')→t { D with nx:=u D } σ H):tSeq t u D σ H:=h hu
theorem cps_ofString (s:String):Mt.cpsOk (Str.ofString s):=by
 unfold Mt.cpsOk
 rw[Str.ofString_eq_toList]
 simp only[List.toList_toArray,List.all_map,List.all_eq_true]
 intro c _
 have:c.toNat<1114112:=by
  have:=c.valid
  rcases this with h |h
  ·exact Nat.lt_of_lt_of_le h (by decide)
  ·exact Nat.lt_of_lt_of_le h.2 (by decide)
 simp only[Function.comp,decide_eq_true_eq]
 exact this
noncomputable def tTupA (t:TA):TE:=fun σ H Q=>t σ H fun xs H1=>xs.length≤sizeLine∧∀p H',H1 p=none→Same H1 H'→H' p=some (.tup xs)→Q (.ref p) H'
noncomputable def tLstA (t:TA):TE:=fun σ H Q=>t σ H fun xs H1=>xs.length≤sizeLine∧∀p H',H1 p=none→Same H1 H'→H' p=some (.lst xs)→Q (.ref p) H'
noncomputable def tDNewA:TE:=fun _ H Q=>∀p H',H p=none→Same H H'→H' p=some (.dK [])→Q (.ref p) H'
noncomputable def rCatA:R2:=fun x y H Q=>∃l b xs zs,x = .ref l∧y = .ref b∧H l=some (.lst xs)∧H b=some (.lst zs)∧xs.length+zs.length≤sizeLine∧∀p H',H p=none→Same H H'→H' p=some (.lst (xs ++ zs))→Q (.ref p) H'
noncomputable def rListA (K:PySem.W.Frag):TR:=fun xs H Q=>∃p ys,xs = [.ref p]∧(SqL K H p ys∨SqT K H p ys)∧∀l H',H l=none→Same H H'→H' l=some (.lst ys)→Q (.ref l) H'
noncomputable def rTupleA (K:PySem.W.Frag):TR:=fun xs H Q=>∃p ys,xs = [.ref p]∧(SqL K H p ys∨SqT K H p ys)∧∀l H',(l=p∨H l=none)→Same H H'→SqT K H' l ys→Q (.ref l) H'
section
open PyProof.Rows
variable {X:Cx}{es:List Expr}{t:TA}{pos:Pos}{K:PySem.W.Frag}
theorem pe_tupA {x1}(h:PA X es t):PE X (.Tuple es x1 pos) (tTupA t):=by
 intro pins s σ H Q I hq
 refine wpAny_Tuple_spliced (thn (h pos pins s σ H _ I hq) fun us s1 ⟨xs,H1,I1,r,z,q⟩=>⟨by rw[← r.length];exact z,?_⟩)
 have hf:H1 s1.heap.objs.size=none:=I1.hok.fresh (Nat.le_refl _)
 exact⟨.ref s1.heap.objs.size,upd H1 s1.heap.objs.size (.tup xs),I1.laid (t':=s1.toks) (fun b u e=>Heap.get?_push_of_some _ e) (Nat.le_refl _) ⟨z,us,r,⟨_,Heap.get?_push_size _ rfl,rfl,_,rfl⟩⟩,rfl,q _ _ hf (Same.upd hf) upd_same⟩
theorem pe_lstA (h:PA X es t):PE X (.List es pos) (tLstA t):=by
 intro pins s σ H Q I hq
 refine wpAny_List_spliced (thn (h pos pins s σ H _ I hq) fun us s1 ⟨xs,H1,I1,r,z,q⟩=>⟨by rw[← r.length];exact z,?_⟩)
 have hf:H1 s1.heap.objs.size=none:=I1.hok.fresh (Nat.le_refl _)
 exact⟨.ref s1.heap.objs.size,upd H1 s1.heap.objs.size (.lst xs),I1.laid (t':=s1.toks) (fun b u e=>Heap.get?_push_of_some _ e) (Nat.le_refl _) ⟨z,us,0,r,Heap.get?_push_size _ rfl⟩,rfl,q _ _ hf (Same.upd hf) upd_same⟩
theorem pe_dnewA:PE X (.Dict [] [] pos) tDNewA:=fun pins s σ H Q I h=>pe_dnewK pins s σ H Q I fun p hp=>h p _ hp (Same.upd hp) upd_same
theorem op_catA:OpR X (binaryOp .Add) rCatA:=fun pins s σ H x y v u Q I rx ry ⟨l,b,xs,zs,h1,h2,h3,h4,h5,h6⟩=>op_cat pins s σ H x y v u Q I rx ry ⟨l,b,xs,zs,h1,h2,h3,h4,h5,fun p hp=>h6 p _ hp (Same.upd hp) upd_same⟩
theorem cn_listA (hK:X.K=K):CallR X (.type "list") (rListA K):=fun pins s σ H xs us Q I r ⟨p,ys,h1,h2,h3⟩=>cn_list pins s σ H xs us Q I r ⟨p,ys,h1,by rw[hK];exact h2,fun l hl=>h3 l _ hl (Same.upd hl) upd_same⟩
theorem cn_tupleA (hK:X.K=K):CallR X (.type "tuple") (rTupleA K):=fun pins s σ H xs us Q I r ⟨p,ys,h1,h2,h3⟩=>cn_tuple pins s σ H xs us Q I r ⟨p,ys,h1,by
 rw[hK]
 rcases h2 with h2 |h2
 ·exact .inl ⟨h2,fun l hl=>h3 l _ (.inr hl) (Same.upd hl) (SqT.of upd_same)⟩
 ·exact .inr ⟨h2,h3 p H (.inl rfl) (Same.refl H) h2⟩⟩
end
section
variable {σ:St}{H:Hp}{Q:VK}{K:PySem.W.Frag}{ta:TA}{p q:Addr}{xs ys:List V}
theorem rd_tupA (h:ta σ H fun xs H1=>xs.length≤sizeLine∧∀p H',H1 p=none→Same H1 H'→H' p=some (.tup xs)→Q (.ref p) H'):tTupA ta σ H Q:=h
theorem rd_lstA (h:ta σ H fun xs H1=>xs.length≤sizeLine∧∀p H',H1 p=none→Same H1 H'→H' p=some (.lst xs)→Q (.ref p) H'):tLstA ta σ H Q:=h
theorem rd_dnewA (h:∀p H',H p=none→Same H H'→H' p=some (.dK [])→Q (.ref p) H'):tDNewA σ H Q:=h
theorem rd_catA (h1:H p=some (.lst xs))(h2:H q=some (.lst ys))(hz:xs.length+ys.length≤sizeLine)(h:∀r H',H r=none→Same H H'→H' r=some (.lst (xs ++ ys))→Q (.ref r) H'):rCatA (.ref p) (.ref q) H Q:=⟨p,q,xs,ys,rfl,rfl,h1,h2,hz,h⟩
theorem rd_listAT (hq:SqT K H p xs)(h:∀l H',H l=none→Same H H'→H' l=some (.lst xs)→Q (.ref l) H'):rListA K [.ref p] H Q:=⟨p,xs,rfl,.inr hq,h⟩
theorem rd_tupleAL (hq:SqL K H p xs)(h:∀l H',(l=p∨H l=none)→Same H H'→SqT K H' l xs→Q (.ref l) H'):rTupleA K [.ref p] H Q:=⟨p,xs,rfl,.inl hq,h⟩
end
theorem cutD_mem {ds:List PyData}{lo hi:Option Int}{d:PyData}(h:d∈cutD ds lo hi):d∈ds:=List.mem_of_mem_drop (List.mem_of_mem_take h)
theorem cutD_len {ds:List PyData}{lo hi:Option Int}:(cutD ds lo hi).length≤ds.length:=by
 unfold cutD
 rw[List.length_take,List.length_drop];omega
structure Trk (K:PySem.W.Frag) (N:List Addr) (H:Hp) (st:Addr):Prop where
 so:StOk K H st
 mem:st∈N
 tr:∀b∈N,H b≠none
mutual
theorem Dt.fresh {K:PySem.W.Frag}{N:List Addr}{H:Hp}{p:Addr}(h:H p=none)(k:K.lookup p=none):∀ {v:V}{d:PyData},Dt K N H v d→Dt K (p :: N) H v d
 | _,_,.non=>.non
 | _,_,.bl b=>.bl b
 | _,_,.int i=>.int i
 | _,_,.str x=>.str x
 | _,_,.tup q n r=>.tup q (by
   rw[List.mem_cons,not_or]
   refine⟨?_,n⟩
   rintro rfl
   rcases q with (q | ⟨o,q⟩) | ⟨o,its,m,q,_⟩
   ·rw[h]at q;cases q
   ·rw[h]at q;cases q
   ·rw[k]at q;cases q) (DtAll.fresh h k r)
 | _,_,.lst q n r=>.lst q (by
   rw[List.mem_cons,not_or]
   refine⟨?_,n⟩
   rintro rfl
   rcases q with (q | ⟨o,q⟩) | ⟨o,its,m,q,_⟩
   ·rw[h]at q;cases q
   ·rw[h]at q;cases q
   ·rw[k]at q;cases q) (DtAll.fresh h k r)
 | _,_,.dk0 q n=>.dk0 q (by
   rw[List.mem_cons,not_or]
   refine⟨?_,n⟩
   rintro rfl
   rw[h]at q;cases q)
 | _,_,.dk1 q n r=>.dk1 q (by
   rw[List.mem_cons,not_or]
   refine⟨?_,n⟩
   rintro rfl
   rw[h]at q;cases q) (Dt.fresh h k r)
theorem DtAll.fresh {K:PySem.W.Frag}{N:List Addr}{H:Hp}{p:Addr}(h:H p=none)(k:K.lookup p=none):∀ {vs:List V}{ds:List PyData},DtAll K N H vs ds→DtAll K (p :: N) H vs ds
 | _,_,.nil=>.nil
 | _,_,.cons q r=>.cons (Dt.fresh h k q) (DtAll.fresh h k r)
end
theorem Ext.mono {N N':List Addr}{H H':Hp}(e:Ext N H H')(h:∀b∈N,b∈N'):Ext N' H H':=fun b u q n=>e b u q fun z=>n (h b z)
theorem Ext.up {N:List Addr}{st:Addr}{H H':Hp}(e:Ext [st] H H')(h:st∈N):Ext N H H':=e.mono fun b hb=>by
 have:b=st:=by simpa using hb
 rw[this];exact h
theorem StOk.acc {K:PySem.W.Frag}{H:Hp}{st acc:Addr}{vs:List V}{o:HO}(S:StOk K H st)(n:acc≠st)(ha:H acc=some (.lst vs))(hr:∀v∈vs,∃q,v = .ref q):StOk K (upd H acc o) st:=by
 obtain⟨c,cs,p,q,r,h1,h2,h3,h4,h5⟩:=S.ex
 refine⟨c,cs,p,q,r,by rw[upd_ne (Ne.symm n)];exact h1,?_,h3,h4,h5⟩
 have ncf:c≠acc:=fun z=>by
  subst z
  rw[ha]at h2
  have e:vs=cs.map V.int:=by injection h2 with h2;injection h2
  cases cs with
  | nil=>simp at h4
  | cons i cs =>
   obtain⟨q,hq⟩:=hr (.int i) (by rw[e];simp)
   cases hq
 rw[upd_ne ncf];exact h2
end L2
namespace L2
open PySem PySem.Spec PyProof.Rows
noncomputable def notStar:Expr→Bool
 | .Starred ..=>false
 | _=>true
noncomputable def noStars:List Expr→Bool
 | []=>true
 | e :: r=>notStar e && noStars r
theorem star_ne {e:Expr}{r:List Expr}{env:Env}(h:notStar e=true):starEach (e :: r) env=(false,eval e env) :: starEach r env:=by
 cases e <;> first |rfl |cases h
theorem stars_any {pos:Pos}{env:Env}:∀ {es:List Expr},noStars es=true→(backTo pos (starEach es env)).any (·.1)=false
 | [],_=>rfl
 | e :: r,h=>by
  simp only[noStars,Bool.and_eq_true]at h
  rw[star_ne h.1]
  show (false || (backTo pos (starEach r env)).any (·.1))=false
  rw[stars_any h.2];rfl
section
variable {X:Cx}{e:Expr}{es:List Expr}{te:TE}{t:TA}{pos p:Pos}{CX:CXT}{k:Nat}{f:Addr}{fd:FuncData}{ps:List Str}{sp:Sp}{dvs:List V}{ds:List Value}{E:XK}{x:Str}{id Ty:String}{r:List V→Hp→VK→Prop}
theorem paN (ha:PE X e te)(hr:PA X es t)(h:notStar e=true:=by rfl):PA X (e :: es) (tCons te t):=pa_cons ha hr (star_ne h)
theorem peN_call (F:FnOk X.prog X.w X.K X.mg X.base CX k f fd ps sp)(hr:Room k X.A)(hg:Gl X x)(hm:X.mg x=some (.ref f))(hk:PySem.W.keepIn X.K (.ref f)=true)(hb:Binds X.K fd ps ds)(hd:Vals dvs ds)(hx:Passes CX X E)
  (ha:PA X (e :: es) t) (hdb:(x == ("__debug__":Str))=false:=by decide) (h1:notStar e=true:=by rfl) (h2:noStars es=true:=by rfl):PE X (.Call (.Name x p) (e :: es) [] pos) (tCall sp dvs E t) :=
 pe_call F hr hg hm hk hb hd hx ha hdb (star_ne h1) (stars_any h2)
theorem peN_callB (hc:CallR X (.builtin id) r)(hg:Gl X x)(hm:X.mg x=none)(hv:bootBuiltins x=some (.builtin id))(ha:PA X (e :: es) t)(hn:x ≠ "__name__":=by decide)(hdb:(x == ("__debug__":Str))=false:=by decide)
  (h1:notStar e=true:=by rfl) (h2:noStars es=true:=by rfl):PE X (.Call (.Name x p) (e :: es) [] pos) (tCB r t):=pe_callB hc hg hm hv ha hn hdb (star_ne h1) (stars_any h2)
theorem peN_callTy (hc:CallR X (.type Ty) r)(hg:Gl X x)(hm:X.mg x=none)(hv:bootBuiltins x=some (.type Ty))(ha:PA X (e :: es) t)(hn:x ≠ "__name__":=by decide)(hdb:(x == ("__debug__":Str))=false:=by decide)
  (h1:notStar e=true:=by rfl) (h2:noStars es=true:=by rfl):PE X (.Call (.Name x p) (e :: es) [] pos) (tCB r t):=pe_callTy hc hg hm hv ha hn hdb (star_ne h1) (stars_any h2)
end
structure PAs (X:Cx) (es:List Expr) (t:TA):Prop where
 run:PA X es t
section
variable {X:Cx}{e o:Expr}{es:List Expr}{te to:TE}{t:TA}{pos p apos cpos:Pos}{CX:CXT}{k:Nat}{f:Addr}{fd:FuncData}{ps:List Str}{sp:Sp}{dvs:List V}{ds:List Value}{E:XK}{x name:Str}{id Ty T:String}{r:List V→Hp→VK→Prop}{rm:V→List V→Hp→VK→Prop}
theorem qa_nil:PAs X [] tNil:=⟨pa_nil⟩
theorem qa (ha:PE X e te)(hr:PAs X es t)(h:notStar e=true:=by rfl):PAs X (e :: es) (tCons te t):=⟨paN ha hr.run h⟩
theorem qe_tup {x1}(h:PAs X es t):PE X (.Tuple es x1 pos) (tTup t):=pe_tup h.run
theorem qe_lst (h:PAs X es t):PE X (.List es pos) (tLst t):=pe_lst h.run
theorem qe_tupA {x1}(h:PAs X es t):PE X (.Tuple es x1 pos) (tTupA t):=pe_tupA h.run
theorem qe_lstA (h:PAs X es t):PE X (.List es pos) (tLstA t):=pe_lstA h.run
theorem qe_call (F:FnOk X.prog X.w X.K X.mg X.base CX k f fd ps sp)(hr:Room k X.A)(hg:Gl X x)(hm:X.mg x=some (.ref f))(hk:PySem.W.keepIn X.K (.ref f)=true)(hb:Binds X.K fd ps ds)(hd:Vals dvs ds)(hx:Passes CX X E)
  (ha:PAs X (e :: es) t) (hdb:(x == ("__debug__":Str))=false:=by decide) (h1:notStar e=true:=by rfl) (h2:noStars es=true:=by rfl):PE X (.Call (.Name x p) (e :: es) [] pos) (tCall sp dvs E t):=peN_call F hr hg hm hk hb hd hx ha.run hdb h1 h2
theorem qe_callB (hc:CallR X (.builtin id) r)(hg:Gl X x)(hm:X.mg x=none)(hv:bootBuiltins x=some (.builtin id))(ha:PAs X (e :: es) t)(hn:x ≠ "__name__":=by decide)(hdb:(x == ("__debug__":Str))=false:=by decide)
  (h1:notStar e=true:=by rfl) (h2:noStars es=true:=by rfl):PE X (.Call (.Name x p) (e :: es) [] pos) (tCB r t):=peN_callB hc hg hm hv ha.run hn hdb h1 h2
theorem qe_callTy (hc:CallR X (.type Ty) r)(hg:Gl X x)(hm:X.mg x=none)(hv:bootBuiltins x=some (.type Ty))(ha:PAs X (e :: es) t)(hn:x ≠ "__name__":=by decide)(hdb:(x == ("__debug__":Str))=false:=by decide)
  (h1:notStar e=true:=by rfl) (h2:noStars es=true:=by rfl):PE X (.Call (.Name x p) (e :: es) [] pos) (tCB r t):=peN_callTy hc hg hm hv ha.run hn hdb h1 h2
variable {tg a b:Expr}{ta:TA}
theorem qi_range1 (hg:Gl X "range")(hm:X.mg "range" = none)(ha:PAs X [a] ta)(h1:notStar a=true):PI X tg (.Call (.Name "range" p) [a] [] pos) (iRng1 ta):=pi_range1 hg hm ha.run (star_ne h1)
theorem qi_zip {es:List Expr}{k:Nat}{ps:Pos}(hg:Gl X "zip")(hm:X.mg "zip" = none)(ha:PAs X [a,b] ta)(h1:notStar a=true)(h2:notStar b=true):PI X (.Tuple es k ps) (.Call (.Name "zip" p) [a,b] [] pos) (iZip X.K ta) :=
 pi_zip hg hm ha.run (by rw[star_ne h1,star_ne h2];rfl) (by rw[star_ne h2];rfl) (by decide +kernel)
end
structure PSw (X:Cx) (st:Stmt) (t:TS):Prop where
 run:PS X st t
structure PSsw (X:Cx) (sts:List Stmt) (t:TS):Prop where
 run:PSs X sts t
section
variable {X:Cx}{st:Stmt}{rest body a b:List Stmt}{t u tb:TS}{e tg c iter elt target:Expr}{es ifs:List Expr}{te:TE}{tc tt:TT}{g:TG}{ta:TA}{wi:TI}{pos pos' spos:Pos}{i:Nat}{x:Str}
theorem qss_nil:PSsw X [] tNext:=⟨pss_nil⟩
theorem qss_one (h:PSw X st t):PSsw X [st] t:=⟨pss_one h.run⟩
theorem qss_cons (h1:PSw X st t)(h2:PSsw X rest u):PSsw X (st :: rest) (tSeq t u):=⟨pss_cons h1.run h2.run⟩
theorem qs_ret (he:PE X e te):PSw X (.Return (some e) pos) (tRet te):=⟨ps_ret he⟩
theorem qs_if (hc:PT X c tc)(ha:PSsw X a t)(hb:PSsw X b u):PSw X (.If c a b pos) (tIfS tc t u):=⟨ps_if hc ha.run hb.run⟩
theorem qs_expr (he:PE X e te)(hs:swapsWith e none pos.line X.env=pure false:=by rfl):PSw X (.Expr e pos) (tDrop te):=⟨ps_expr he hs⟩
theorem qs_set (hN:X.N.Nodup)(hi:X.N[i]? = some x)(hx:Loc X.env.scope x)(he:PE X e te)(hs:swapsWith e (some (.Name x pos')) pos.line X.env=pure false:=by rfl)(hf:X.fn x=true∨X.env.scope.names.lookup x=some .local:=by first |exact .inl rfl |exact .inr rfl) :
  PSw X (.Assign [.Name x pos'] e pos) (tAsg te (gName i)):=⟨ps_set hN hi hx he hs hf⟩
theorem qs_setLA (hN:X.N.Nodup)(hi:X.N[i]? = some x)(hx:Loc X.env.scope x)(h:PAs X es ta)(hf:X.fn x=true∨X.env.scope.names.lookup x=some .local) :
  PSw X (.Assign [.Name x pos'] (.List es spos) pos) (tAsg (tLstA ta) (gName i)):=⟨ps_set hN hi hx (pe_lstA h.run) rfl hf⟩
theorem qs_asg (he:PE X e te)(hg:PG X tg g)(hs:swapsWithSole [tg] e pos.line X.env=pure false:=by rfl)(hw:swappedStores [tg] e X.env=pure none:=by rfl)(h1:(assignEach [tg] X.env).map (·.2) = [assign tg X.env]:=by rfl):PSw X (.Assign [tg] e pos) (tAsg te g):=⟨ps_asg he hg hs hw h1⟩
theorem qs_for (hp:PassesOwn (model X.prog X.w) X.A X.env X.xe)(hc:X.calm=true)(hi:PI X tg iter wi)(hg:PG X tg g)(hb:PSsw X body tb)(hs:∀x,foldedSetIterable iter X.env x=pure x):PSw X (.For tg iter body [] pos) (tFor wi g tb):=⟨ps_for hp hc hi hg hb.run hs⟩
theorem qs_setComp {sc:Scope}{cl:List (Str×Addr)}{NC:List Str}{fr:List (Option Nat)}(hN:X.N.Nodup)(hi':X.N[i]? = some x)(hx:Loc X.env.scope x)(B:Blk X sc cl NC fr)(hc:X.calm=true)(hi:PI X target iter wi)(hg:∀fp s H,PG (cxC X sc cl NC fp s H) target g)(ht:∀fp s H,PF (cxC X sc cl NC fp s H) ifs tt)(he:∀fp s H,PE (cxC X sc cl NC fp s H) elt te)
  (hsw:swapsWith (.ListComp elt [⟨target,iter,ifs,0⟩] sc pos) (some (.Name x pos')) spos.line X.env=pure true) (hs:∀x,foldedSetIterable iter X.env x=pure x) (hf:X.fn x=true∨X.env.scope.names.lookup x=some .local) :
  PSw X (.Assign [.Name x pos'] (.ListComp elt [⟨target,iter,ifs,0⟩] sc pos) spos) (tAsg (tComp X.K fr wi g tt te) (gName i)):=⟨ps_setComp hN hi' hx B hc hi hg ht he hsw hs hf⟩
end
end L2
namespace L2
open PySem
theorem exW {X:Cx}{sts:List Stmt}{P:TS→Prop}(h:∃t,PSsw X sts t∧P t):∃t,PSs X sts t∧P t:=let ⟨t,h1,h2⟩:=h; ⟨t,h1.run,h2⟩
end L2
namespace HT
open PySem PyProof.Rows
section
open PySem.SeqAt
open PySem.AutoSeq1 (wpAny_loadPart')
open PySem.MeetsSeq PySem.MeetsSeq2 PySem.MeetsSeq3
end
section
variable {prog:Program}{w:World}{A:Around}{E:Value→Shared→Prop}{s:Shared}
end
end HT
namespace L2
open PySem PySem.Spec PyProof.Rows
section
variable {X:Cx}
end
section
variable {H:Hp}{Q:VK}{K:PySem.W.Frag}{p q:Addr}{ns ms:List Int}
end
theorem Inv.nk {X:Cx}{pins:List (Addr×Obj)}{σ:St}{H:Hp}{s:Shared}(I:Inv X pins σ H s):X.K.lookup s.heap.objs.size=none:=by
 cases q:X.K.lookup s.heap.objs.size with
 | none=>rfl
 | some o=>exact absurd (Heap.lt_size (I.kIn _ o q)) (Nat.lt_irrefl _)
end L2
namespace L2
theorem rd_iteG {c A B:Prop}{i:Decidable c}(h:@ite Prop c i A B):@ite Prop c i A B:=h
end L2
namespace Mt
open PySem L2
mutual
noncomputable def tupOnly:PyData→Bool
 | .none=>true
 | .int _=>true
 | .str _=>true
 | .tuple es=>tupOnlyAll es
 | _=>false
noncomputable def tupOnlyAll:List PyData→Bool
 | []=>true
 | e :: es=>tupOnly e && tupOnlyAll es
end
noncomputable def isNoneD:PyData→Bool
 | .none=>true
 | _=>false
noncomputable def intEq (j:Int):PyData→Bool
 | .int i=>decide (i=j)
 | _=>false
noncomputable def strEq (t:Str):PyData→Bool
 | .str u=>decide (u=t)
 | _=>false
noncomputable def subs:PyData→Option (List PyData)
 | .tuple ds=>some ds
 | _=>none
mutual
noncomputable def alikeD:PyData→PyData→Bool
 | .none,d=>isNoneD d
 | .int j,d=>intEq j d
 | .str t,d=>strEq t d
 | .tuple es,d=>match subs d with
  | some ds=>alikeAll es ds
  | none=>false
 | _,_=>false
noncomputable def alikeAll:List PyData→List PyData→Bool
 | [],ds=>ds.isEmpty
 | e :: es,ds=>match ds with
  | []=>false
  | d :: ds=>alikeD e d && alikeAll es ds
end
end Mt
namespace L2
open PySem PySem.Spec PyProof.Rows
noncomputable def Aloft (N:Addr→Prop)(h:Heap)(e:Addr)(C:Value)(dx:Option Addr)(fl:Value):Prop :=
 ∃oe vs,h.get? e=some oe∧oe.cls=C∧oe.dict=dx∧oe.data = .fields vs∧1<vs.size ∧
  (vs[1]? = some .none∧fl = .none∨∃T oT ts,vs[1]? = some (.ref T)∧N T∧T≠e∧h.get? T=some oT∧oT.data = .fields ts∧ts[3]? = some fl)
theorem dict_mapF (o:Obj)(f:Array Value→Array Value):(o.mapFields f).dict=o.dict:=by
 obtain⟨c,d,dt,sl⟩:=o
 cases dt <;> rfl
noncomputable def Stn (N:Addr→Prop)(fs:List Addr)(e:Addr)(h h':Heap):Prop :=
 ∀b o,b≠e→¬ N b→h.get? b=some o→(∃sl,h'.get? b=some { o with slots:=sl })∧(b∉fs→h'.get? b=some o)
theorem Stn.refl {N:Addr→Prop}{fs:List Addr}{e:Addr}{h:Heap}:Stn N fs e h h:=fun b o _ _ q=>⟨⟨o.slots,q⟩,fun _=>q⟩
theorem Stn.trans {N:Addr→Prop}{fs:List Addr}{e:Addr}{h h1 h2:Heap}(a:Stn N fs e h h1)(b:Stn N fs e h1 h2):Stn N fs e h h2:=fun c o n1 n2 q=>by
 obtain⟨⟨sl,q1⟩,k1⟩:=a c o n1 n2 q
 obtain⟨⟨sl2,q2⟩,_⟩:=b c _ n1 n2 q1
 exact⟨⟨sl2,q2⟩,fun hc=>(b c o n1 n2 (k1 hc)).2 hc⟩
section
variable {M:Model}{A:Around}{E:Value→Shared→Prop}{s:Shared}{N:Addr→Prop}{base:Heap}{env:Env}{outer:List Env}{L e:Addr}{C:Value}{dx:Option Addr}
theorem stn_turn {T:Addr}{f:Obj→Obj}{h:Heap}(hN:N T):Stn N fs e h (h.update T f):=fun b o n1 n2 q=>by
 have:T≠b:=fun z=>n2 (z ▸ hN)
 exact⟨⟨o.slots,(Heap.get?_update_other _ _ this).trans q⟩,fun _=>(Heap.get?_update_other _ _ this).trans q⟩
theorem mark_on {head:Value}{hadNext:Bool}{oe:Obj}{vs:Array Value}{Q:Unit→Shared→Prop}(hA:A.frames=some (env :: outer))(hF:s.heap.FunFrames base (env :: outer))(hL:env.frame=some L)
  (new:∀b,s.heap.objs.size≤b→N b) (nf:∀b∈frs (env :: outer),b≠e∧¬ N b) (q0:s.heap.get? e=some oe) (q1:oe.cls=C) (q2:oe.dict=dx) (q3:oe.data = .fields vs) (q4:1<vs.size)
  (k:∀h',Aloft N h' e C dx (rawInt L)→Stn N (frs (env :: outer)) e s.heap h'→h'.FunFrames base (env :: outer)→Q () { s with heap:=h' }) :
  wpAny M A (do setField (.ref e) 1 (← EntryCells.newEntry head (← frameOf env) .none (rawInt L) .none (← entryPlaceOf L hadNext))) Q E s:=by
 refine wpAny_bind (wpAny_frameOf_fun hA hF hL fun g x=>?_)
 refine wpAny_bind (wpAny_entryPlaceOf fun pl p=>?_)
 have k1:g.get? e=some oe:=(x.2.1 e fun z=>(nf e z).1 rfl).trans q0
 have z1:g.objs.size=s.heap.objs.size:=x.1
 unfold EntryCells.newEntry newFields
 refine wpAny_bind (wpAny_newObj_type ?_ (p.sizeOk5 _ _ _ _ _))
 generalize hob:({ cls:=.type "traceback",dict:=none,data:=.fields ([head,.ref L,.none,rawInt L,.none] ++ (if pl.isEmpty then List.replicate 6 Value.none else pl)).toArray }:Obj)=ob
 have k2:=Heap.get?_push_of_some (h:=g) ob k1
 have eT:g.objs.size≠e:=Nat.ne_of_gt (Heap.lt_size k1)
 have obf:ob.isFreed=false:=by rw[← hob];rfl
 have t2:(g.push ob).get? g.objs.size=some ob:=Heap.get?_push_size g obf
 refine wpAny_setField k2 q3 q4 (k _ ?_ ?_ ?_)
 ·have d3:=Obj.data_mapFields q3 (·.setIfInBounds 1 (Value.ref g.objs.size))
  refine⟨_,_,Heap.get?_update_self _ k2 (Obj.isFreed_of_fields d3),(Obj.cls_mapFields _ _).trans q1,(dict_mapF _ _).trans q2,d3,by simpa using q4,.inr ⟨g.objs.size,ob,_,by simp[q4],new _ (by omega),eT,(Heap.get?_update_other _ _ (Ne.symm eT)).trans t2,by rw[← hob],?_⟩⟩
  first | (simp;done) | (rcases p with rfl | ⟨_,_,_,_,_,_,_,rfl⟩ <;> simp)
 ·intro b o n1 n2 q
  have nT:g.objs.size≠b:=by rw[z1];exact Nat.ne_of_gt (Heap.lt_size q)
  obtain⟨sl,r⟩:=x.2.2 b o q
  exact⟨⟨sl,(Heap.get?_update_other _ _ (Ne.symm n1)).trans (Heap.get?_push_of_some _ r)⟩,fun nb=>(Heap.get?_update_other _ _ (Ne.symm n1)).trans (Heap.get?_push_of_some _ ((x.2.1 b nb).trans q))⟩
 ·have hg:=hF.of_slotsOnly x
  refine hg.of_keeps fun b o q nd=>?_
  by_cases hb:b=e
  ·subst hb
   rw[k1]at q;cases q
   exact absurd q3 (nd vs)
  ·exact⟨o,(Heap.get?_update_other _ _ (Ne.symm hb)).trans (Heap.get?_push_of_some _ q),rfl⟩
theorem frames_turn {T:Addr}{oT:Obj}{ts:Array Value}{f:Obj→Obj}{h:Heap}(q:h.get? T=some oT)(hd:oT.data = .fields ts)(hF:h.FunFrames base l):(h.update T f).FunFrames base l :=
 hF.of_keeps fun b o r nd=>by
  have:T≠b:=fun z=>by subst z;rw[q]at r;cases r;exact nd ts hd
  exact⟨o,(Heap.get?_update_other _ _ this).trans r,rfl⟩
theorem land {l:List Env}{fl:Value}{Q:Unit→Shared→Prop}(hF:s.heap.FunFrames base l)(a:Aloft N s.heap e C dx fl)
  (k:∀h',Aloft N h' e C dx .none→Stn N fs e s.heap h'→h'.FunFrames base l→Q () { s with heap:=h' }):wpAny M A (setFlight (.ref e) none) Q E s:=by
 obtain⟨oe,vs,q0,q1,q2,q3,q4,r⟩:=a
 unfold setFlight
 rcases r with ⟨r,_⟩ | ⟨T,oT,ts,r1,r2,r3,r4,r5,r6⟩
 ·refine wpAny_bind (wpAny_field q0 q3 r ?_)
  rw[if_neg (by decide)]
  exact wpAny_pure (k s.heap ⟨oe,vs,q0,q1,q2,q3,q4,.inl ⟨r,rfl⟩⟩ Stn.refl hF)
 ·refine wpAny_bind (wpAny_field q0 q3 r1 ?_)
  rw[if_pos (by simp)]
  have h3:3<ts.size:=(Array.getElem?_eq_some_iff.mp r6).1
  refine wpAny_setField r4 r5 h3 (k _ ⟨oe,vs,(Heap.get?_update_other _ _ r3).trans q0,q1,q2,q3,q4,.inr ⟨T,_,_,r1,r2,r3,Heap.get?_update_self _ r4 (Obj.isFreed_of_fields (Obj.data_mapFields r5 _)),Obj.data_mapFields r5 _,by simp[h3]⟩⟩ (stn_turn r2) (frames_turn r4 r5 hF))
theorem note_on {Q:Unit→Shared→Prop}(hA:A.frames=some (env :: outer))(hF:s.heap.FunFrames base (env :: outer))(hL:env.frame=some L)
  (new:∀b,s.heap.objs.size≤b→N b) (nf:∀b∈frs (env :: outer),b≠e∧¬ N b) (a:Aloft N s.heap e C dx .none)
  (k:∀h',Aloft N h' e C dx (rawInt L)→Stn N (frs (env :: outer)) e s.heap h'→h'.FunFrames base (env :: outer)→Q () { s with heap:=h' }):wpAny M A (noteFrame (.ref e) env) Q E s:=by
 obtain⟨oe,vs,q0,q1,q2,q3,q4,r⟩:=a
 unfold noteFrame
 simp only[hL]
 rcases r with ⟨r,_⟩ | ⟨T,oT,ts,r1,r2,r3,r4,r5,r6⟩
 ·refine wpAny_bind (wpAny_field q0 q3 r ?_)
  rw[if_neg (by decide)]
  exact mark_on hA hF hL new nf q0 q1 q2 q3 q4 k
 ·refine wpAny_bind (wpAny_field q0 q3 r1 ?_)
  rw[if_pos (by simp)]
  refine wpAny_bind (wpAny_field r4 r5 r6 ?_)
  rw[if_neg (by simp[rawInt])]
  have h3:3<ts.size:=(Array.getElem?_eq_some_iff.mp r6).1
  refine wpAny_bind (wpAny_setField r4 r5 h3 ?_)
  refine mark_on (s:={ s with heap:=s.heap.update T (Obj.mapFields (·.setIfInBounds 3 Value.none)) }) hA (frames_turn r4 r5 hF) hL (fun b z=>new b ?_) nf ((Heap.get?_update_other _ _ r3).trans q0) q1 q2 q3 q4 fun h' a1 a2 a3=>k h' a1 ((stn_turn r2).trans a2) a3
  simpa using z
theorem leave_on {Q:Unit→Shared→Prop}(hA:A.frames=some (env :: outer))(hF:s.heap.FunFrames base (env :: outer))(hL:env.frame=some L)
  (new:∀b,s.heap.objs.size≤b→N b) (nf:∀b∈frs (env :: outer),b≠e∧¬ N b) (a:Aloft N s.heap e C dx .none)
  (k:∀h',Aloft N h' e C dx .none→Stn N (frs (env :: outer)) e s.heap h'→Q () { s with heap:=h' }):wpAny M A (leaving env (.ref e)) Q E s:=by
 unfold leaving
 refine wpAny_bind (note_on hA hF hL new nf a fun h1 a1 a2 a3=>?_)
 exact land (s:={ s with heap:=h1 }) a3 a1 fun h2 b1 b2 _=>k h2 b1 (a2.trans b2)
end
noncomputable def Since (h₀:Heap)(H:Hp)(b:Addr):Prop:=h₀.get? b=none∧H b=none
noncomputable def CX1 (P:Program)(w:World):CXT:=fun outer H s E e s' =>
 ∃(a:Addr) (C:Value) (dx:Option Addr) (H':Hp),e = .ref a∧s'.os=s.os∧AllBare s'.gens∧Un (frs outer) [] H H' s.heap s'.heap∧HOk P w H' s'.heap∧Since s.heap H' a∧Aloft (Since s.heap H') s'.heap a C dx .none∧E C dx H'
theorem Aloft.mono {N N':Addr→Prop}{h:Heap}{e:Addr}{C:Value}{dx:Option Addr}{fl:Value}(a:Aloft N h e C dx fl)(k:∀b,N b→N' b):Aloft N' h e C dx fl:=by
 obtain⟨oe,vs,q0,q1,q2,q3,q4,r⟩:=a
 refine⟨oe,vs,q0,q1,q2,q3,q4,?_⟩
 rcases r with r | ⟨T,oT,ts,r1,r2,r⟩
 ·exact .inl r
 ·exact .inr ⟨T,oT,ts,r1,k _ r2,r⟩
theorem since_of {P:Program}{w:World}{H H':Hp}{h h':Heap}{fs:List Addr}(u:Un fs [] H H' h h')(hok:HOk P w H' h'):∀b,h'.objs.size≤b→Since h H' b:=fun b z=>by
 refine⟨?_,hok.fresh z⟩
 cases q:h.get? b with
 | none=>rfl
 | some o =>
  obtain⟨o',q'⟩:=u.there b o q (by simp)
  exact absurd (Nat.lt_of_lt_of_le (Heap.lt_size q') z) (Nat.lt_irrefl _)
theorem hok_stn {P:Program}{w:World}{H:Hp}{h h':Heap}{N:Addr→Prop}{fs:List Addr}{e:Addr}(hok:HOk P w H h)(st:Stn N fs e h h')(hN:∀b,N b→H b=none)(he:H e=none)(hf:∀b∈fs,H b=none):HOk P w H h':=fun a o q =>
 (hok a o q).stay (fun b u hb r=>by
  have nb:H b≠none:=by
   rcases hb with rfl |hb
   ·rw[q];simp
   ·rw[hb];simp
  exact(st b u (fun z=>nb (z ▸ he)) (fun z=>nb (hN b z)) r).2 fun z=>nb (hf b z)) (fun _ q=>q) fun _ _ q=>q
section
variable {P:Program}{w:World}{X:Cx}{pins:List (Addr×Obj)}{σ:St}{H H':Hp}{s s':Shared}{e:Addr}{C:Value}{dx:Option Addr}
theorem Inv.stn {h':Heap}(I:Inv X pins σ H s)(st:Stn N (frs X.stack) e s.heap h')(hN:∀b,N b→H b=none∧s₁.heap.get? b=none)(he:H e=none∧s₁.heap.get? e=none)
  (I₁:Inv X pins σ H₁ s₁) (un:Un (frs X.stack) [] H₁ H s₁.heap s.heap):Inv X pins σ H { s with heap:=h' }:=by
 have k:∀b o,s₁.heap.get? b=some o→∀o',s.heap.get? b=some o'→(∃sl,h'.get? b=some { o' with slots:=sl })∧(b∉frs X.stack→h'.get? b=some o'):=fun b o q o' q' =>
  st b o' (fun z=>by rw[z,he.2]at q;cases q) (fun z=>by rw[(hN b z).2]at q;cases q) q'
 have hu:Un (frs X.stack) [] H₁ H s₁.heap h':=by
  refine⟨fun b o q n hb hx=>?_,fun b o q n hb hx=>?_,un.free,fun b o q hx=>?_,un.tups,un.frzs,un.tbls⟩
  ·exact(k b o q o (un.keep b o q n hb hx)).2 hb
  ·obtain⟨sl,r⟩:=un.slot b o q n hb hx
   exact(k b o q _ r).1
  ·obtain⟨o',r⟩:=un.there b o q hx
   obtain⟨sl,r2⟩:=(k b o q o' r).1
   exact⟨_,r2⟩
 have ok:HOk X.prog X.w H h':=hok_stn I.hok st (fun b z=>(hN b z).1) he.1 I.stkFree
 obtain⟨hh,g,d,t,os⟩:=s
 have e1:os=s₁.os:=I.os.trans I₁.os.symm
 subst e1
 have fin:=Inv.call (s:=s₁) (h':=h') (g':=g) (t':=t) (d':=d) (ch:=[]) I₁ hu ok I.bare (fun b z=>absurd z (by simp))
 exact fin
theorem Inv.cx1 (I:Inv X pins σ H s)(h:Un (frs X.stack) [] H H' s.heap s'.heap)(ho:s'.os=s.os)(hb:AllBare s'.gens)(hk:HOk X.prog X.w H' s'.heap):Inv X pins σ H' s':=by
 obtain⟨hh,g,d,t,os'⟩:=s'
 obtain rfl:os'=s.os:=ho
 exact I.call (h':=hh) (g':=g) (d':=d) (t':=t) (ch:=[]) h hk hb (fun b z=>absurd z (by simp))
theorem Inv.nfr (I:Inv X pins σ H s)(he:s.heap.get? e=none):∀b∈frs X.stack,b≠e∧¬ Since s.heap H' b:=fun b hb=>by
 obtain⟨_,o,q,_⟩:=I.stack.mem hb
 exact⟨fun z=>(by rw[z,he]at q;cases q),fun z=>(by rw[z.1]at q;cases q)⟩
end
theorem pass1 {P:Program}{w:World}{K:PySem.W.Frag}{mg:Str→Option Value}{base:Heap}{N:List Str}{qual:Str}{scope:Scope}{f:Addr}{cd:Value}{A:Around}{outer:List Env}{s₀:Shared}{H₀:Hp}{E:XK} :
  Passes (CX1 P w) (cxOf (CX1 P w) P w K mg base N qual scope f cd A outer s₀ H₀ E) E:=by
 intro pins σ H s e s' I h
 obtain⟨a,C,dx,H',rfl,o1,b1,un,hok,na,al,q⟩:=h
 have J:=I.cx1 un o1 b1 hok
 refine leave_on (N:=Since s.heap H') (base:=base) (outer:=outer) (L:=s₀.heap.objs.size) I.ok.frames J.stack rfl (since_of un hok) (I.nfr na.1) al fun h' al' st=>?_
 have J2:Inv (cxOf (CX1 P w) P w K mg base N qual scope f cd A outer s₀ H₀ E) pins σ H' { s' with heap:=h' }:=J.stn (s₁:=s) (H₁:=H) st (fun b z=>⟨z.2,z.1⟩) ⟨na.2,na.1⟩ I un
 have old:∀b,s.heap.get? b=none→s₀.heap.get? b=none:=fun b z=>by
  cases r:s₀.heap.get? b with
  | none=>rfl
  | some o =>
   obtain⟨o',r'⟩:=I.base.there b o r (by show b∉([]:List Addr);simp)
   rw[z]at r';cases r'
 exact⟨a,C,dx,H',rfl,J2.os,J2.bare,J2.base,J2.hok,⟨old a na.1,na.2⟩,al'.mono fun b z=>⟨old b z.1,z.2⟩,q⟩
noncomputable def Px (X:Cx)(XR:St→XK):Prop:=∀(pins:List (Addr×Obj)) (σ:St)(H:Hp)(s:Shared)(e:Value)(s':Shared),Inv X pins σ H s→CX1 X.prog X.w X.stack H s (XR σ) e s'→X.xe e s'
theorem px1 {P:Program}{w:World}{K:PySem.W.Frag}{mg:Str→Option Value}{base:Heap}{N:List Str}{qual:Str}{scope:Scope}{f:Addr}{cd:Value}{A:Around}{outer:List Env}{s₀:Shared}{H₀:Hp}{E:XK} :
  Px (cxOf (CX1 P w) P w K mg base N qual scope f cd A outer s₀ H₀ E) (fun _=>E):=fun pins σ H s e s' I h=>pass1 pins σ H s e s' I h
noncomputable def tCallX (sp:Sp)(dvs:List V)(XR:St→XK)(t:TA):TE:=fun σ H Q=>t σ H fun vs H1=>sp (vs ++ dvs) H1 Q (XR σ)
section
variable {X:Cx}{e:Expr}{es:List Expr}{t:TA}{pos p:Pos}{k:Nat}{f:Addr}{fd:FuncData}{ps:List Str}{sp:Sp}{dvs:List V}{ds:List Value}{XR:St→XK}{x:Str}
theorem run_fnX {pins:List (Addr×Obj)}{σ:St}{H:Hp}{s:Shared}{Q:VK}{us:List Value}{vs:List V}(F:FnOk X.prog X.w X.K X.mg X.base (CX1 X.prog X.w) k f fd ps sp)(hr:Room k X.A)(hb:Binds X.K fd ps ds)(hd:Vals dvs ds)(hx:Px X XR)
  (I:Inv X pins σ H s) (r:Vals vs us) (h:sp (vs ++ dvs) H Q (XR σ)):wpAny (model X.prog X.w) X.A (call (.ref f) us) (EP X pins σ Q) X.xe s:=by
 have r2:Vals (vs ++ dvs) (us ++ ds):=r.append hd
 have hl:(us ++ ds).length=ps.length:=by rw[← r2.length];exact F.len _ _ _ _ h
 refine wpAny_call (codeAny_mono (F.run X.A X.stack s H ⟨us,[]⟩ (us ++ ds) (vs ++ dvs) Q (XR σ) hr I.env0 (hb s us I.kIn hl) r2 h) fun r s' hq=>?_)
 cases r with
 | error e=>exact hx pins σ H s e s' I hq
 | ok fl =>
  cases fl with
  | ret u=>exact I.after hq
  | next=>exact False.elim hq
  | brk=>exact False.elim hq
  | cont=>exact False.elim hq
theorem qe_callX (F:FnOk X.prog X.w X.K X.mg X.base (CX1 X.prog X.w) k f fd ps sp)(hr:Room k X.A)(hg:Gl X x)(hm:X.mg x=some (.ref f))(hk:PySem.W.keepIn X.K (.ref f)=true)(hb:Binds X.K fd ps ds)(hd:Vals dvs ds)(hx:Px X XR)
  (ha:PAs X (e :: es) t) (hdb:(x == ("__debug__":Str))=false:=by decide) (h1:notStar e=true:=by rfl) (h2:noStars es=true:=by rfl):PE X (.Call (.Name x p) (e :: es) [] pos) (tCallX sp dvs XR t):=by
 intro pins s σ H Q I h
 refine wpAny_Call_Name_kw (ld_glob I hg hm ?_ hdb)
 refine PySem.W.callWith_K (h₀:=X.base) I.ok.mod.kin hk (thn (ha.run pos pins s σ H _ I h) fun us s1 ⟨vs,H1,I1,r,q⟩=>⟨I1.kIn,?_⟩) (star_ne h1) (stars_any h2)
 exact run_fnX F hr hb hd hx I1 r q
end
theorem Fun.okX {P:Program}{w:World}{K:PySem.W.Frag}{mg:Str→Option Value}{base:Heap}{x qual:Str}{st:Stmt}{f:Addr}{fd:FuncData}{N ps:List Str}{k:Nat}{sp:Sp}(F:Fun K x qual st f fd)(S:FnScope N ps (defScope st))(len:∀vs H Q E,sp vs H Q E→vs.length=ps.length)
  (hbody:∀(cdv:Value) (A:Around) (outer:List Env) (s:Shared) (H:Hp) (vs:List V) (Q:VK) (E:XK),Room k (A.deeper (envOfC qual (defScope st) s.heap.objs.size f cdv))→sp vs H Q E →
   ∃t,PSs (cxOf (CX1 P w) P w K mg base N qual (defScope st) f cdv A outer s H E) (defBody st) t∧t { nx:=fun _ H'=>Q .non H',rt:=Q } (start N vs) H):FnOk P w K mg base (CX1 P w) (k+1) f fd ps sp:=by
 obtain⟨oc,od,kV,doc,pm,an,cdv,ct,osl,rfl,lk,hcd⟩:=F.ex
 exact fn_of lk hcd S len fun A outer s H vs Q E hr hsp=>hbody cdv A outer s H vs Q E hr hsp
noncomputable def Cx.tr (X:Cx)(xe':Value→Shared→Prop)(pn':List (Addr×Obj)):Cx:={ X with xe:=xe',pn:=X.pn ++ pn' }
noncomputable def Cx.su (X:Cx)(e:Addr):Cx:={ X with A:=X.A.mark (some (.ref e)),calm:=false,xe:=fun _ _=>False }
section
variable {X:Cx}{pins pins' pn':List (Addr×Obj)}{σ:St}{H:Hp}{s:Shared}{xe':Value→Shared→Prop}{e:Addr}
theorem Cx.Ok.tr (ok:X.Ok):(X.tr xe' pn').Ok:=⟨ok.mod,ok.kind,ok.glob,ok.blt,ok.above,ok.inj,ok.has,ok.cab,ok.hd,ok.frames,ok.stk,ok.exf,ok.bs,ok.bsz,ok.noex,ok.exfs,ok.funs,ok.frf⟩
theorem Cx.Ok.su (ok:X.Ok):(X.su e).Ok:=⟨ok.mod,ok.kind,ok.glob,ok.blt,ok.above,ok.inj,ok.has,ok.cab,fun z=>(by cases z),ok.frames,ok.stk,ok.exf,ok.bs,ok.bsz,ok.noex,ok.exfs,ok.funs,ok.frf⟩
theorem Inv.tr (I:Inv X pins σ H s):Inv (X.tr xe' pins) [] σ H s:=⟨I.ok.tr,I.os,I.bare,I.base,I.loc,I.cell,I.free,I.freeC,fun p hp=>I.pin p (by simpa [Cx.tr]using hp),I.hok,I.len⟩
theorem Inv.untr (ok:X.Ok)(I:Inv (X.tr xe' pins) pins' σ H s):Inv X pins σ H s:=⟨ok,I.os,I.bare,I.base,I.loc,I.cell,I.free,I.freeC,fun p hp=>I.pin p (List.mem_append_left _ hp),I.hok,I.len⟩
theorem Inv.su (I:Inv X pins σ H s):Inv (X.su e) pins σ H s:=⟨I.ok.su,I.os,I.bare,I.base,I.loc,I.cell,I.free,I.freeC,I.pin,I.hok,I.len⟩
theorem Inv.unsu (ok:X.Ok)(I:Inv (X.su e) pins σ H s):Inv X pins σ H s:=⟨ok,I.os,I.bare,I.base,I.loc,I.cell,I.free,I.freeC,I.pin,I.hok,I.len⟩
theorem Inv.gone {h':Heap}{m:Str→Option Value}{v:Option Value}{i:Nat}{x:Str}{t':Nat}(I:Inv X pins σ H s)(hN:X.N.Nodup)(hi:X.N[i]? = some x)(hn:s.heap.Ns X.env.locals m)(hm:∀(i:Nat)(y:Str)(v:V),X.N[i]? = some y→σ[i]? = some (some v)→Vis X.env.scope y→∃u,RelV v u∧Look X.env s.heap m y u)
  (hn':h'.Ns X.env.locals (fun y=>if y=x then v else m y)) (sb:Heap.SameBut X.env.locals s.heap h'):Inv X pins (σ.set i none) H { s with heap:=h',toks:=t' }:=by
 have hL:∃o,s.heap.get? X.env.locals=some o∧H X.env.locals=none:=by
  obtain⟨o,_,_,ho,_⟩:=id hn
  exact⟨o,ho,I.free⟩
 have old:∀b o,X.s₀.heap.get? b=some o→b≠X.env.locals:=fun b o z=>Nat.ne_of_lt (Nat.lt_of_lt_of_le (Heap.lt_size z) I.ok.above)
 refine⟨I.ok,I.os,I.bare,⟨fun b o z n hb hx=>(sb.2 b (old b o z)).trans (I.base.keep b o z n hb hx),fun b o z n hb hx=>?_,I.base.free,fun b o z hx=>?_,I.base.tups,I.base.frzs,I.base.tbls⟩,⟨_,hn',fun j y v' e1 e2 e3=>?_⟩,fun y c z=>?_,I.free,I.freeC,fun p hp=>?_,fun b ob z=>?_,by simpa using I.len⟩
 ·obtain⟨sl,q⟩:=I.base.slot b o z n hb hx
  exact⟨sl,(sb.2 b (old b o z)).trans q⟩
 ·obtain⟨o',q⟩:=I.base.there b o z hx
  exact⟨o',(sb.2 b (old b o z)).trans q⟩
 ·by_cases hj:j=i
  ·subst hj
   have hlt:j<σ.length:=by rw[I.len];exact(List.getElem?_eq_some_iff.mp hi).1
   rw[List.getElem?_set_self hlt]at e2
   cases e2
  ·rw[List.getElem?_set_ne (Ne.symm hj)]at e2
   obtain⟨u,r,l⟩:=hm j y v' e1 e2 e3
   refine⟨u,r,?_⟩
   rcases l with ⟨k,q⟩ | ⟨k,c,q,z⟩
   ·have:y≠x:=fun z=>hj (nodup_ix hN e1 (z ▸ hi))
    exact .inl ⟨k,by simp[this,q]⟩
   ·exact .inr ⟨k,c,q,z.sameBut sb (I.cne y c q)⟩
 ·obtain⟨w',q⟩:=I.cell y c z
  exact⟨w',q.sameBut sb (I.cne y c z)⟩
 ·obtain⟨q,n,ne,nf,d⟩:=I.pin p hp
  exact⟨(sb.2 p.1 ne).trans q,n,ne,nf,d⟩
 ·refine(I.hok b ob z).stay (fun c w' hc q=>(sb.2 c ?_).trans q) (fun _ q=>q) fun _ _ q=>q
  rintro rfl
  rcases hc with rfl |hc
  ·rw[I.free]at z;cases z
  ·rw[I.free]at hc;cases hc
end
noncomputable def ExcIs (a:Addr)(C:Value)(dx:Option Addr)(h:Heap):Prop:=∃oe vs,h.get? a=some oe∧oe.cls=C∧oe.dict=dx∧oe.data = .fields vs
theorem ExcIs.ok {P:Program}{w:World}{H:Hp}{h:Heap}{a:Addr}{C:Value}{dx:Option Addr}(x:ExcIs a C dx h):ObjOk P w H h a (.ext (ExcIs a C dx)):=by
 obtain⟨oe,vs,q,r⟩:=id x
 refine⟨x,⟨oe,q⟩,fun h1 h2 ⟨oe',vs',q',r'⟩ k=>⟨oe',vs',k _ q',r'⟩⟩
noncomputable def Ends.un (D:Ends)(i:Nat):Ends:={ nx:=fun σ2 H2=>D.nx (σ2.set i none) H2,rt:=D.rt,bk:=fun σ2 H2=>D.bk (σ2.set i none) H2,ct:=fun σ2 H2=>D.ct (σ2.set i none) H2 }
noncomputable def tTry (K:PySem.W.Frag)(B:Addr)(i:Nat)(tb:(St→XK)→TS)(ts:TS):TS:=fun D σ H =>
 tb (fun σ' C dx H'=>PySem.W.exmOne K C (.ref B)=some true∧∀a,H' a=none→ts (D.un i) (σ'.set i (some (.ref a))) (upd H' a (.ext (ExcIs a C dx)))) D σ H
theorem looks_cls {M:Model}{h:Heap}{e:Addr}{oe:Obj}(q:h.get? e=some oe):PySem.W.Looks M h (typeOf (.ref e)) oe.cls:=by
 intro A Q E s k z
 unfold typeOf
 exact wpAny_bind (wpAny_loadPart (k _ _ q) (wpAny_pure z))
theorem aloft_is {N:Addr→Prop}{h:Heap}{e:Addr}{C:Value}{dx:Option Addr}{fl:Value}(a:Aloft N h e C dx fl):ExcIs e C dx h:=by
 obtain⟨oe,vs,q0,q1,q2,q3,_⟩:=a
 exact⟨oe,vs,q0,q1,q2,q3⟩
theorem Inv.trackE {X:Cx}{pins:List (Addr×Obj)}{σ:St}{H:Hp}{s:Shared}{a:Addr}{o:HO}(I:Inv X pins σ H s)(hn:H a=none)(n0:X.s₀.heap.get? a=none)(n1:a≠X.env.locals)(n2:∀x c,X.env.cells.lookup x=some c→c≠a)(n3:∀p∈X.pn ++ pins,p.1≠a)
  (new:ObjOk X.prog X.w (upd H a o) s.heap a o):Inv X pins σ (upd H a o) s:=by
 have ne:∀b u,H b=some u→b≠a:=fun b u q z=>by rw[z,hn]at q;cases q
 refine⟨I.ok,I.os,I.bare,⟨I.base.keep,I.base.slot,fun b u q n hx=>?_,I.base.there,fun b xs q=>?_,fun b u xs q=>?_,fun b ps q=>?_⟩,I.loc,I.cell,?_,fun y c q=>?_,fun p hp=>?_,fun b u q=>?_,I.len⟩
 ·rw[upd_ne (fun z=>by rw[z,n0]at q;cases q)];exact I.base.free b u q n hx
 ·rw[upd_ne (ne _ _ (I.base.tups b xs q))];exact I.base.tups b xs q
 ·rw[upd_ne (ne _ _ (I.base.frzs b u xs q))];exact I.base.frzs b u xs q
 ·obtain⟨m,r⟩:=I.base.tbls b ps q
  exact⟨m,by rw[upd_ne (ne _ _ r)];exact r⟩
 ·rw[upd_ne (Ne.symm n1)];exact I.free
 ·rw[upd_ne (n2 y c q)];exact I.freeC y c q
 ·obtain⟨q,n,r⟩:=I.pin p hp
  exact⟨q,by rw[upd_ne (n3 p hp)];exact n,r⟩
 ·by_cases hb:b=a
  ·subst hb;rw[upd_same]at q;cases q;exact new
  ·rw[upd_ne hb]at q
   exact(I.hok b u q).stay (fun c v _ r=>r) (fun c r=>by rw[upd_ne (ne _ _ r)];exact r) fun c xs r=>by rw[upd_ne (ne _ _ r)];exact r
section
variable {X:Cx}{b₀:Stmt}{body suite:List Stmt}{c x:Str}{p hp pos:Pos}{B:Addr}{i:Nat}{tb:(St→XK)→TS}{ts:TS}
theorem ps_try (hN:X.N.Nodup)(hi:X.N[i]? = some x)(hx:X.env.scope.names.lookup x=some .local)(hg:Gl X c)(hm:X.mg c=some (.ref B))(hst:X.stack=X.env :: X.outer)(hfr:X.env.frame=some X.env.locals)(hex:X.ex = [])
  (hb:∀(xe':Value→Shared→Prop) (pn':List (Addr×Obj)) (XR:St→XK),Px (X.tr xe' pn') XR→PSs (X.tr xe' pn') body (tb XR)) (hs:∀e:Addr,PSs (X.su e) (b₀ :: suite) ts) (hdb:(c == ("__debug__":Str))=false) :
  PS X (.Try body [.ExceptHandler (some (.Name c p)) (some x) (b₀ :: suite) hp] [] [] pos) (tTry X.K B i tb ts):=by
 intro pins s σ H D I h
 refine wpAny_Try_except ?_
 refine wpAny_mono (hb _ pins _ ?_ [] s σ H D I.tr h) (fun f s1 q=>?_) (fun e s1 q=>q)
 ·intro pins' σ1 H1 s1 ev s2 I1 hq
  obtain⟨a,C,dx,H2,rfl,o1,b1,un,hok,na,al,hm1,hk⟩:=hq
  have J:=I1.cx1 un o1 b1 hok
  have un':Un (frs X.stack) [] H1 H2 s1.heap s2.heap:=un
  show wpAny (model X.prog X.w) X.A (noteFrame (.ref a) X.env) (fun _ s₂=>wpAny (model X.prog X.w) X.A (setFlight (.ref a) none) (fun _ s₃=>wpAny (model X.prog X.w) X.A (handleBy (.ref a) X.env [.ExceptHandler (some (.Name c p)) (some x) (b₀ :: suite) hp]) (SP X pins D) X.xe s₃) X.xe s₂) X.xe s2
  have Jst:s2.heap.FunFrames X.base (X.env :: X.outer):=by rw[← hst];exact J.stack
  have nf:∀b∈frs (X.env :: X.outer),b≠a∧¬ Since s1.heap H2 b:=by rw[← hst];exact I1.nfr na.1
  refine note_on (N:=Since s1.heap H2) (base:=X.base) (outer:=X.outer) (L:=X.env.locals) (by rw[← hst];exact I.ok.frames) Jst hfr (since_of un hok) nf al fun h3 al3 st3 ff3=>?_
  refine land (s:={ s2 with heap:=h3 }) (fs:=frs (X.env :: X.outer)) ff3 al3 fun h4 al4 st4 ff4=>?_
  have st34:=st3.trans st4
  -- the state ahead of the handler
  have mk:∀ {h5:Heap}{t5:Nat},Stn (Since s1.heap H2) (frs (X.env :: X.outer)) a s2.heap h5→Inv (X.tr (X.tr X.xe []).xe pins) pins' σ1 H2 { s2 with heap:=h5,toks:=t5 }:=fun {h5 t5} st=>by
   have st':Stn (Since s1.heap H2) (frs X.stack) a s2.heap h5:=by rw[hst];exact st
   have z:=J.stn (s₁:=s1) (H₁:=H1) (N:=Since s1.heap H2) st' (fun b z=>⟨z.2,z.1⟩) ⟨na.2,na.1⟩ I1 un
   have z2:=z.tok t5
   exact⟨I.ok.tr,z2.os,z2.bare,z2.base,z2.loc,z2.cell,z2.free,z2.freeC,z2.pin,z2.hok,z2.len⟩
  have I4:Inv X pins σ1 H2 { s2 with heap:=h4 }:=(mk (t5:=s2.toks) st34).untr I.ok
  refine wpAny_handleBy_cons (codeAny_handlers_test ?_) (by intro q;cases q)
  refine ld_glob (I4.su (e:=a)) hg hm ?_ hdb
  obtain⟨oe,vs,q0,q1,q2,q3,_⟩:=id al4
  refine(PySem.W.exm_one (K:=X.K) I4.kIn (by rw[← q1];exact looks_cls q0) hm1).here ?_
  show codeAny _ _ _ _ _
  refine codeAny_handlers_suite_as ?_
  refine land (s:={ s2 with heap:=h4 }) (fs:=frs (X.env :: X.outer)) ff4 al4 fun h5 al5 st5 ff5=>?_
  have I5:Inv X pins σ1 H2 { s2 with heap:=h5 }:=(mk (t5:=s2.toks) (st34.trans st5)).untr I.ok
  have n1:a≠X.env.locals:=fun z=>by
   obtain⟨m,⟨o,_,_,ho,_⟩,_⟩:=I1.loc
   have ho':s1.heap.get? X.env.locals=some o:=ho
   rw[← z,na.1]at ho';cases ho'
  have I6:Inv X pins σ1 (upd H2 a (.ext (ExcIs a C dx))) { s2 with heap:=h5 }:=by
   refine I5.trackE na.2 ?_ n1 (fun y e hc z=>?_) (fun q hq z=>?_) (aloft_is al5).ok
   ·cases r:X.s₀.heap.get? a with
    | none=>rfl
    | some o =>
     obtain⟨o',r'⟩:=I1.base.there a o r (by show a∉X.ex;rw[hex];simp)
     rw[na.1]at r';cases r'
   ·obtain⟨v,o,ho,_⟩:=I1.cell y e hc
    rw[z,na.1]at ho;cases ho
   ·have r:=(I1.pin q (List.mem_append_left _ hq)).1
    rw[z,na.1]at r;cases r
  refine store_ok (X:=X.su a) (s:={ s2 with heap:=h5 }) (I6.su (e:=a)) hN hi (.inl hx) (v:=.ref a) rfl (fun s7 I7=>?_) (.inr hx)
  refine wpAny_mono (hs a pins s7 _ _ (D.un i) I7 (hk a na.2)) (fun f s8 q8=>?_) (fun _ _ z=>z.elim)
  have fin:∀ {σ8:St}{H8:Hp}{Q:Unit→Shared→Prop},Inv (X.su a) pins σ8 H8 s8→(∀s9,Inv X pins (σ8.set i none) H8 s9→Q () s9)→wpAny (model X.prog X.w) X.A (do bindName X.env x .none;unbindBehindTheSuite X.env x hp) Q X.xe s8:=fun {σ8 H8 Q} I8 k=>by
   obtain⟨m,hn,hl⟩:=id I8.loc
   refine wpAny_nameGoes_keeps hx hn (by rw[I.ok.kind];rfl) fun h' v hn' sb=>k _ ?_
   exact(I8.unsu I.ok).gone hN hi hn hl hn' sb
  cases f with
  | next=>obtain⟨σ8,H8,I8,q⟩:=q8;exact fin I8 fun s9 I9=>⟨_,_,I9,q⟩
  | brk=>obtain⟨σ8,H8,I8,q⟩:=q8;exact fin I8 fun s9 I9=>⟨_,_,I9,q⟩
  | cont=>obtain⟨σ8,H8,I8,q⟩:=q8;exact fin I8 fun s9 I9=>⟨_,_,I9,q⟩
  | ret u=>obtain⟨v,σ8,H8,I8,r,q⟩:=q8;exact fin I8 fun s9 I9=>⟨v,_,_,I9,r,q⟩
 ·cases f with
  | next =>
   obtain⟨σ',H',I',q⟩:=q
   exact wpAny_execs_nil ⟨σ',H',I'.untr I.ok,q⟩
  | brk=>obtain⟨σ',H',I',q⟩:=q;exact⟨σ',H',I'.untr I.ok,q⟩
  | cont=>obtain⟨σ',H',I',q⟩:=q;exact⟨σ',H',I'.untr I.ok,q⟩
  | ret u=>obtain⟨v,σ',H',I',r,q⟩:=q;exact⟨v,σ',H',I'.untr I.ok,r,q⟩
end
noncomputable abbrev bmV:List Value:=[.type "ValueError",.type "Exception",.type "BaseException",.type "object"]
noncomputable def xcIn (K:PySem.W.Frag)(C:Addr)(init:Option Value):Bool:=match K.lookup C with
 | some ⟨.type "type",_,.cls cd,sl⟩=>(match cd.mro,sl.toList with
  | .ref C' :: bm,[_,_,_,_,some (.builtin n),_]=>C' == C && (n == "ValueError.__new__" && (!cd.hasDel && (cd.hasDict && (PySem.W.tailIn K bmV bm && (PySem.W.nsOkIn K cd.ns && PySem.W.nsIn K cd.ns "__init__" == some init)))))
  | _,_=>false)
 | _=>false
structure XAt (h:Heap) (C:Addr) (init:Option Value):Prop where
 out:∃nm q N bs bm sn sub ab col dd k0 k1 k2 k3 k5 mN,h.get? C=some (excClassObj nm q C N bs bm true sn sub ab col dd k0 k1 k2 k3 k5 "ValueError.__new__")∧h.Ns N mN∧mN "__init__" = init∧OwnTail h bmV bm
theorem ns_of_in {K:PySem.W.Frag}{h:Heap}{N:Addr}{mg:Str→Option Value}{n:Str}{r:Option Value}(X:K.In h)(G:h.Ns N mg)(e:PySem.W.nsIn K N n=some r):mg n=r:=by
 obtain⟨o,es,ep,ho,hd,_,hf⟩:=G
 unfold PySem.W.nsIn at e
 split at e
 ·rename_i c d es' n' sl q
  have z:=X _ _ q
  rw[ho]at z
  cases z
  cases hd
  rw[← hf]
  unfold nsFind findBy
  rw[← Array.find?_toList]
  split at e
  ·rename_i he
   rw[he]
   cases e
   rfl
  ·rename_i he
   rw[he]
   split at e
   ·cases e
   ·cases e
    rfl
 ·cases e
theorem xc_at {K:PySem.W.Frag}{h:Heap}{C:Addr}{init:Option Value}(X:K.In h)(q:xcIn K C init=true):XAt h C init:=by
 unfold xcIn at q
 split at q
 ·rename_i dd cd sl ho
  split at q
  ·rename_i C' bm k0 k1 k2 k3 n k5 hm hs
   simp only[Bool.and_eq_true,beq_iff_eq,Bool.not_eq_true']at q
   obtain⟨rfl,rfl,d,hd',t,o,i⟩:=q
   obtain⟨nm,bs,mro,ns,qn,hd,sn,sub,ab,col,del⟩:=cd
   dsimp only at hm d o i hd'
   subst hm d hd'
   obtain⟨l⟩:=sl
   simp only at hs
   subst hs
   have G:h.Ns ns (h.nsMap ns):=.of_isNs (PySem.W.isNs_of_in X o)
   exact⟨_,_,_,_,_,_,_,_,_,_,_,_,_,_,_,_,X _ _ ho,G,ns_of_in X G i,PySem.W.tail_of_in X t⟩
  ·cases q
 ·cases q
section
variable {M:Model}{A:Around}{E:Value→Shared→Prop}{s:Shared}{env:Env}{C:Addr}{init:Option Value}
theorem raise_made {x:Sem Value}{Q:Flow→Shared→Prop}(hh:A.handled=none)
  (h:wpAny M A x (fun v s₁=>∃e oe vs,v = .ref e∧XAt s₁.heap C init∧s₁.heap.get? e=some oe∧oe.cls = .ref C∧oe.data = .fields vs∧vs[1]? = some .none∧E (.ref e) s₁) E s) :
  wpAny M A (raiseStmt env (some x) none) Q E s:=by
 unfold raiseStmt
 refine wpAny_bind (wpAny_mono h (fun v s₁ h₁=>?_) fun _ _ x=>x)
 obtain⟨e,oe,vs,rfl,⟨nm,q,N,bs,bm,sn,sub,ab,col,dd,k0,k1,k2,k3,k5,mN,hC,_,_,T⟩,he,hc,hd,h1,hE⟩:=h₁
 have hbm:(Value.ref C :: bm).contains (.type "BaseException")=true:=by rw[List.contains_cons,T.hasType (X:="BaseException") (b:=true) (by decide +kernel),Bool.or_true]
 obtain⟨hp,g,d,tk,os⟩:=s₁
 obtain⟨oc,od,odt,osl⟩:=oe
 dsimp only at hc hd
 subst hc hd
 have hfld:∀ {Q':Value→Shared→Prop}{A':Around},Q' .none ⟨hp,g,d,tk,os⟩→wpAny M A' (field (.ref e) 1) Q' E ⟨hp,g,d,tk,os⟩:=fun z=>wpAny_field (s:=⟨hp,g,d,tk,os⟩) he rfl h1 z
 repeat (first |with_reducible refine wpAny_loadPart_at he ?_ |with_reducible refine wpAny_loadPart_at hC ?_ | (with_reducible refine wpAny_isSubtype_exc hC ?_;rw[hbm]) |with_reducible refine hfld ?_ |wp_step)
 exact wpAny_raiseNew_none hh hE
end
theorem XAt.keeps {h h':Heap}{C:Addr}{init:Option Value}(x:XAt h C init)(k:∀b o,h.get? b=some o→h'.get? b=some o):XAt h' C init:=by
 obtain⟨nm,q,N,bs,bm,sn,sub,ab,col,dd,k0,k1,k2,k3,k5,mN,hC,hN,hi,T⟩:=x.out
 exact⟨nm,q,N,bs,bm,sn,sub,ab,col,dd,k0,k1,k2,k3,k5,mN,k _ _ hC,hN.keeps k,hi,T.keeps k⟩
theorem ObjOk.there {P:Program}{w:World}{H:Hp}{h:Heap}{a:Addr}{o:HO}(x:ObjOk P w H h a o):∃ob,h.get? a=some ob:=by
 induction o with
 | lst xs=>obtain⟨_,_,_,_,e⟩:=x;exact⟨_,e⟩
 | tup xs=>obtain⟨_,_,_,ob,e,_⟩:=x;exact⟨_,e⟩
 | dK kvs=>obtain⟨_,_,_,_,o,_,_,e,_⟩:=x;exact⟨_,e⟩
 | dT kvs=>obtain⟨_,_,_,_,o,_,_,e,_⟩:=x;exact⟨_,e⟩
 | set S n=>obtain⟨o,_,_,_,e,_⟩:=x;exact⟨_,e⟩
 | ins C dx fs=>obtain⟨_,_,_,e,_⟩:=x;exact⟨_,e⟩
 | own y=>exact x
 | xd fs=>obtain⟨_,⟨_,_,_,e,_⟩,_⟩:=x;exact⟨_,e⟩
 | rng lo hi=>obtain⟨_,_,_,e⟩:=x;exact⟨_,e⟩
 | frz ob u ih=>exact⟨ob,x.1⟩
 | tbl ps=>exact⟨_,x⟩
 | met f y=>exact⟨_,x⟩
 | ext φ=>exact x.2.1
theorem HOk.none {P:Program}{w:World}{H:Hp}{h:Heap}{a:Addr}(x:HOk P w H h)(e:h.get? a=none):H a=none:=by
 cases r:H a with
 | none=>rfl
 | some o =>
  obtain⟨ob,q⟩:=(x a o r).there
  rw[e]at q;cases q
noncomputable def tRaise0 (C:Addr)(XR:St→XK):TS:=fun _ σ H=>XR σ (.ref C) none H
section
variable {X:Cx}{C:Addr}{XR:St→XK}{x:Str}{np cpos pos:Pos}
end
end L2
namespace L2
open PySem PySem.Spec PyProof.Rows PySem.W
theorem slot_wget:Slot "wrapper_descriptor" "__get__" "wrapper_descriptor.__get__":=.of (owner:="wrapper_descriptor") (n:="__get__") (by rw [typeLookup_type,builtinLookup_eq_fast]; kernel_rfl) (by decide +kernel) (by decide +kernel) (by decide +kernel)
  (by first | exact .inl (by decide +kernel) | exact .inr (by decide +kernel)) (by rw [isSubtype_type]; kernel_rfl)
theorem entry_wget:entryFor table "wrapper_descriptor.__get__" = some Builtin.«wrapper_descriptor.__get__»:=entryFor_of_tree (by kernel_rfl)
theorem args_wget (a b c:Value):argsOk "wrapper_descriptor.__get__" ⟨[a,b,c],[]⟩:=by unfold argsOk;kernel_rfl
theorem type_vinit:typeOf (.builtin "ValueError.__init__")=pure (.type "wrapper_descriptor"):=by kernel_rfl
section
variable {prog:Program}{w:World}{A:Around}{E:Value→Shared→Prop}{h:Heap}{g:Array GenState}{d:Drawn}{t:Nat}{os:OsState}
theorem run_wget {x C:Addr}{Q:Fin→Shared→Prop}(hi:Looks (model prog w) h (isInstance (.ref x) (.type "ValueError")) true)
  (hq:Q (.done (.ret (.ref h.objs.size))) ⟨h.push { cls:=.type "method-wrapper",data:=.fields #[.builtin "ValueError.__init__",.ref x] },g,d,t,os⟩) :
  wpAny (model prog w) A (Builtin.«wrapper_descriptor.__get__» ⟨[.builtin "ValueError.__init__",.ref x,.ref C],[]⟩) Q E ⟨h,g,d,t,os⟩:=by
 unfold Builtin.«wrapper_descriptor.__get__»
 refine wpAny_bind (wpAny_of_eq (a:=(.builtin "ValueError.__init__",some (.ref x),some (.ref C))) rfl ?_)
 dsimp only
 refine wpAny_bind ?_
 refine wpAny_bind (wpAny_of_eq (a:=(("__init__":Str),Value.type "ValueError")) (by kernel_rfl) ?_)
 dsimp only
 refine wpAny_bind (hi.here ?_)
 rw[if_neg (by decide)]
 refine wpAny_pure ?_
 exact wpAny_bind (wpAny_newObj_type (wpAny_pure hq))
theorem xs_ga {so D x C:Addr}{l₀ l:List Value}{K:Frag}{tk:Tok}{Q:Fin→Shared→Prop}
  (hso:h.get? so=some { cls:=.type "super",dict:=none,data:=.fields #[.ref D,.ref x,.ref C],slots:=#[] }) (hno:Looks (model prog w) h (opaqueClassAbove (.ref C)) none)
  (hC:Looks (model prog w) h (mroOf (.ref C)) l₀) (hl:(l₀.dropWhile (· != .ref D)).drop 1=l) (X:K.In h) (hf:alongIn K "__init__" l=some (some (.builtin "ValueError.__init__")))
  (hxC:x≠C) (hi:Looks (model prog w) h (isInstance (.ref x) (.type "ValueError")) true)
  (hq:Q (.done (.ret (.ref h.objs.size))) ⟨h.push { cls:=.type "method-wrapper",data:=.fields #[.builtin "ValueError.__init__",.ref x] },g,d,t,os⟩) :
  wpAny (model prog w) A (Builtin.«super.__getattribute__» ⟨[.ref so,.str "__init__" tk],[]⟩) Q E ⟨h,g,d,t,os⟩:=by
 have lk:=slot_wget.lookup
 have ne:(Value.ref x == Value.ref C)=false:=by simp[hxC]
 have dt:({ cls:=.type "super",dict:=none,data:=.fields #[.ref D,.ref x,.ref C],slots:=#[] }:Obj).data = .fields #[.ref D,.ref x,.ref C]:=rfl
 have z0:(#[.ref D,.ref x,.ref C]:Array Value)[0]? = some (.ref D):=rfl
 have z1:(#[.ref D,.ref x,.ref C]:Array Value)[1]? = some (.ref x):=rfl
 have z2:(#[.ref D,.ref x,.ref C]:Array Value)[2]? = some (.ref C):=rfl
 have tv:(⟨h,g,d,t,os⟩:Shared).TypeIs (.builtin "ValueError.__init__") "wrapper_descriptor":=type_vinit
 have nc:(("__init__":Str) == ("__class__":Str))=false:=by decide +kernel
 unfold Builtin.«super.__getattribute__»
 repeat (first
  | (with_reducible refine wpAny_field hso dt z0 ?_) | (with_reducible refine wpAny_field hso dt z1 ?_) | (with_reducible refine wpAny_field hso dt z2 ?_)
  | (with_reducible refine ks_wpAny_notOpaque hno ?_)
  | (with_reducible refine Looks.at hC ?_;rw[hl])
  | (refine ks_forIn_along X (fun _ _=>rfl) rfl ?_ hf)
  | (with_reducible refine wpAny_of_eq type_vinit ?_)
  | (with_reducible refine wpAny_call_entry slot_wget tv entry_wget ?_ (args_wget _ _ _))
  | (with_reducible refine run_wget hi ?_)
  | (with_reducible refine⟨_,rfl,?_⟩)
  | (simp only[nc,ne,Bool.or_false,Bool.false_eq_true,if_false])
  | wp_step
  | dsimp only)
 all_goals exact hq
theorem xs_getm {so D x C:Addr}{l₀ l:List Value}{K:Frag}{pl:Sem Bool}{Q:Value×List Value→Shared→Prop}
  (hso:h.get? so=some { cls:=.type "super",dict:=none,data:=.fields #[.ref D,.ref x,.ref C],slots:=#[] }) (hno:Looks (model prog w) h (opaqueClassAbove (.ref C)) none)
  (hC:Looks (model prog w) h (mroOf (.ref C)) l₀) (hl:(l₀.dropWhile (· != .ref D)).drop 1=l) (X:K.In h) (hf:alongIn K "__init__" l=some (some (.builtin "ValueError.__init__")))
  (hxC:x≠C) (hi:Looks (model prog w) h (isInstance (.ref x) (.type "ValueError")) true)
  (hq:Q (.ref h.objs.size,[]) ⟨h.push { cls:=.type "method-wrapper",data:=.fields #[.builtin "ValueError.__init__",.ref x] },g,d,t+1,os⟩) :
  wpAny (model prog w) A (getMethod (.ref so) "__init__" pl) Q E ⟨h,g,d,t,os⟩:=by
 have lk:=F.ks_slot_super_ga.lookup
 have ty:∀t',(⟨h,g,d,t',os⟩:Shared).TypeIs (.ref so) "super":=fun _=>⟨_,hso,rfl⟩
 unfold getMethod
 refine wpAny_bind (wpAny_specialOf (ty _) lk ?_)
 show wpAny _ _ (if (Manifest.canonical "super.__getattribute__" != "object.__getattribute__")=true then _ else _) _ _ _
 rw[if_pos F.ks_canon_super_ga]
 unfold getAttr getAttrBy
 refine wpAny_bind (wpAny_bind (wpAny_mkText (wpAny_holding (wpAny_bind (wpAny_typeOf (ty _) (wpAny_bind (wpAny_of_eq lk ?_)))))))
 show wpAny _ _ (getAttrByItsOwn (.ref so) (.str "__init__" t) (.type "super") (.builtin "super.__getattribute__") true false) _ _ _
 unfold getAttrByItsOwn hookBefore callGetattribute boundAndCalled
 refine wpAny_bind (wpAny_of_eq (a:=none) rfl ?_)
 refine wpAny_bind (wpAny_attempt (wpAny_holding ?_))
 refine wpAny_bind (wpAny_of_eq (F.ks_slot_super_ga.bind _) ?_)
 refine wpAny_mono (E:=fun _ _=>False) (wpAny_call_entry F.ks_slot_super_ga (ty _) F.ks_entry_super_ga (xs_ga (Q:=fun fin s'=>∃v,fin = .done (.ret v)∧(v = .ref h.objs.size∧s' = ⟨h.push { cls:=.type "method-wrapper",data:=.fields #[.builtin "ValueError.__init__",.ref x] },g,d,t+1,os⟩)) hso hno hC hl X hf hxC hi ⟨_,rfl,rfl,rfl⟩) (F.ks_gaArgs_super _ _)) (fun v s' hv=>?_) fun _ _ z=>z.elim
 obtain⟨rfl,rfl⟩:=hv
 exact wpAny_pure (wpAny_pure hq)
end
section
variable {prog:Program}{w:World}{A:Around}{E:Value→Shared→Prop}{h:Heap}{g:Array GenState}{d:Drawn}{t:Nat}{os:OsState}
theorem check_vi {M:Model}{nm q:Str}{C N:Addr}{bs bm:List Value}{hdct:Bool}{sn:List Str}{sub:List Value}{ab:Bool}{col:Option Bool}{dd:Option Addr}{k0 k1 k2 k3 k5:Option Value}{newId:String}{x:Addr}{oe:Obj}{a:Str}{tk:Tok}{Q:Unit→Shared→Prop}
  (hC:h.get? C=some (excClassObj nm q C N bs bm hdct sn sub ab col dd k0 k1 k2 k3 k5 newId)) (he:h.get? x=some oe) (hc:oe.cls = .ref C) (hq:Q () ⟨h,g,d,t,os⟩) :
  wpAny M A (checkBoundCall "ValueError.__init__" ⟨[.ref x,.str a tk],[]⟩) Q E ⟨h,g,d,t,os⟩:=by
 have F:=PySem.F.excBase_ValueError
 have hshort:=F.noStar
 simp only[checkBoundCall,F.initKind,F.initRow]
 rw[if_pos (by decide)]
 repeat (first | (with_reducible refine wpAny_loadPart_at he ?_;rw[hc]) |with_reducible refine wpAny_loadPart_at hC ?_ |wp_step)
 exact hq
theorem fld_at {M:Model}{e:Addr}{o:Obj}{vs:Array Value}{i:Nat}{v:Value}{Q:Value→Shared→Prop}(ho:h.get? e=some o)(hd:o.data = .fields vs)(hi:vs[i]? = some v)(hq:Q v ⟨h,g,d,t,os⟩):wpAny M A (field (.ref e) i) Q E ⟨h,g,d,t,os⟩:=wpAny_field ho hd hi hq
theorem sfl_at {M:Model}{e:Addr}{o:Obj}{vs:Array Value}{i:Nat}{v:Value}{Q:Unit→Shared→Prop}(ho:h.get? e=some o)(hd:o.data = .fields vs)(hi:i<vs.size)(hq:Q () ⟨h.update e (Obj.mapFields (·.setIfInBounds i v)),g,d,t,os⟩):wpAny M A (setField (.ref e) i v) Q E ⟨h,g,d,t,os⟩:=wpAny_setField (s:=⟨h,g,d,t,os⟩) ho hd hi hq
theorem xs_run {mw x t0:Addr}{a:Str}{tk:Tok}{oe:Obj}{vs:Array Value}{Q:Value→Shared→Prop}(hmw:h.get? mw=some { cls:=.type "method-wrapper",data:=.fields #[.builtin "ValueError.__init__",.ref x] })
  {C:Addr}{init:Option Value}(xa:XAt h C init) (hc:oe.cls = .ref C) (hx:h.get? x=some oe) (hd:oe.data = .fields vs) (h0:vs[0]? = some (.ref t0))
  (hq:∀h' T,h.objs.size≤T→h'.get? x=some (oe.mapFields (·.setIfInBounds 0 (.ref T)))→(∀b o,b≠x→h.get? b=some o→h'.get? b=some o)→Q .none ⟨h',g,d,t,os⟩) :
  wpAny (model prog w) A (call (.ref mw) [.str a tk]) Q E ⟨h,g,d,t,os⟩:=by
 refine wpAny_call (codeAny_of_tree ?_)
 show wpAny _ _ (callAny (.ref mw) _) _ _ _
 unfold callAny
 refine wpAny_bind (wpAny_load hmw ?_)
 dsimp only
 rw[if_pos (by decide)]
 simp only[show (#[Value.builtin "ValueError.__init__",Value.ref x]:Array Value)[0]? = some (.builtin "ValueError.__init__")from rfl,show (#[Value.builtin "ValueError.__init__",Value.ref x]:Array Value)[1]? = some (.ref x)from rfl]
 rw[if_pos (by decide)]
 obtain⟨nm,qn,N,bs,bm,sn,sub,ab,col,dd,k0,k1,k2,k3,k5,mN,hC,_,_,_⟩:=xa.out
 refine wpAny_bind (check_vi hC hx hc ?_)
 refine wpAny_pure ?_
 refine⟨Code.quiet_builtin _ (by decide +kernel),codeAny_builtin PySem.F.excBase_ValueError.initEntry ?_⟩
 have h1:=Heap.get?_push_of_some { cls:=Value.type "tuple",data:=Data.seq #[Value.str a tk] } hx
 have z0:0<vs.size:=(Array.getElem?_eq_some_iff.mp h0).1
 unfold Builtin.«BaseException.__init__» Builtin.BaseException.bexcPut
 repeat (first | (with_reducible refine fld_at h1 hd h0 ?_) | (with_reducible refine sfl_at h1 hd z0 ?_) |wp_step)
 exact hq _ h.objs.size (Nat.le_refl _) (Heap.get?_update_self _ h1 (Obj.isFreed_of_fields (Obj.data_mapFields hd _))) fun b o nb q=>(Heap.get?_update_other _ _ (Ne.symm nb)).trans (Heap.get?_push_of_some _ q)
end
open Builtin Builtin.ObjectAttr
section
variable {prog:Program}{w:World}{A:Around}{E:Value→Shared→Prop}{h:Heap}{g:Array GenState}{d:Drawn}{t:Nat}{os:OsState}
variable {x C LE:Addr}{o:Obj}{name:Str}{v:Value}{vs:Array Value}
structure StoreAt (M:Model) (h:Heap) (C LE:Addr) (name:Str):Prop where
 mro:Looks M h (mroOf (.ref C)) (.ref C :: .ref LE :: bmV)
 no:Looks M h (typeLookup (.ref C) name) none
 sa:Looks M h (typeLookup (.ref C) "__setattr__") (some (.builtin "object.__setattr__"))
 ob:Looks M h (isSubtype (.ref C) (.type "object")) true
 at_:∃init,XAt h C init
end
structure XK1 (K:Frag) (C LE:Addr) (fld:Str):Prop where
 mro:(clsIn K C).map (·.mro)=some (.ref C :: .ref LE :: bmV)
 no:findIn K (.ref C) fld=some none
 sa:findIn K (.ref C) "__setattr__" = some (some (.builtin "object.__setattr__"))
 ini:alongIn K "__init__" (.ref LE :: bmV)=some (some (.builtin "ValueError.__init__"))
 opq:nsIn K cStatics "thirdparty.any" = some none
theorem XK1.subs {K:Frag}{C LE:Addr}{fld:Str}{M:Model}{h:Heap}{b:Value}(x:XK1 K C LE fld)(X:K.In h)(hb:(Value.ref C :: .ref LE :: bmV).contains b=true):Looks M h (isSubtype (.ref C) b) true:=by
 obtain⟨cd,e,z⟩:=Option.map_eq_some_iff.mp x.mro
 refine looks_mroIn X ?_
 unfold mroIn
 rw[e]
 show (if cd.mro.isEmpty=true then none else some (cd.mro.contains b))=some true
 rw[z,hb];rfl
theorem XK1.mroL {K:Frag}{C LE:Addr}{fld:Str}{M:Model}{h:Heap}(x:XK1 K C LE fld)(X:K.In h):Looks M h (mroOf (.ref C)) (.ref C :: .ref LE :: bmV):=by
 obtain⟨cd,e,z⟩:=Option.map_eq_some_iff.mp x.mro
 rw[← z]
 exact(looks_clsIn X e).andThen .now
section
variable {prog:Program}{w:World}{A:Around}{E:Value→Shared→Prop}{s:Shared}
theorem callWith_mw {pos:Pos}{env:Env}{mw:Addr}{fn x:Value}{msg:Str}{kd:Nat}{p4:Pos}{Q:Value→Shared→Prop}(hmw:s.heap.get? mw=some { cls:=.type "method-wrapper",data:=.fields #[fn,x] })
  (k:∀tk,wpAny (model prog w) A (call (.ref mw) [.str msg tk]) Q E { s with toks:=s.toks+1 }) :
  wpAny (model prog w) A (callWith pos (.ref mw) [] (backTo pos (starEach [.Constant (.str msg) kd p4] env)) []) Q E s:=by
 unfold callWith
 refine wpAny_bind (wpAny_holding (wpAny_mono (Q:=fun (a:Args) s₁=>∃tk,a = ⟨[.str msg tk],[]⟩∧s₁ = { s with toks:=s.toks+1 }) ?_ (fun a s₁ ⟨tk,ha,hs⟩=>wpAny_bind (wpAny_standAt ?_)) fun _ _ z=>z))
 ·show wpAny (model prog w) A (evalArgs (.ref mw) true ((false,eval (.Constant (.str msg) kd p4) env) :: []) []) _ _ _
  refine Calls.evalArgs_plain (Calls.spliced_cons (Calls.Constant_str (k:=kd) (pos:=p4) ?_))
  exact Calls.spliced_nil ⟨_,rfl,rfl⟩
 ·subst ha hs
  simp only[stars_any (es:=[.Constant (.str msg) kd p4]) rfl,List.any_nil,Bool.or_false]
  refine wpAny_bind (m:=keeperOf (.ref mw)) ?_
  unfold keeperOf
  refine wpAny_bind (wpAny_load hmw ?_)
  dsimp only
  rw[if_pos (by decide)]
  refine wpAny_pure ?_
  rw[if_pos (by decide)]
  exact wpAny_bind (wpAny_mono (k tk) (fun r s₂ z=>wpAny_bind (wpAny_holding (wpAny_point (wpAny_pure z)))) fun _ _ z=>z)
end
structure ISc (sc:Scope) (par:Str):Prop where
 su:sc.names.lookup ("super":Str)=some .globalImplicit
 cl:sc.names.lookup ("__class__":Str)=some .free
 se:sc.names.lookup ("self":Str)=some .local
 pa:sc.names.lookup par=some .local
 nc:∀x∈sc.names,x.2 ≠ .cell
 co:sc.isCoroutine=false
 ge:sc.isGenerator=false
 ki:sc.kind = .function
 ns:(("self":Str) == par)=false
 db:(par == ("__debug__":Str))=false
section
variable {prog:Program}{w:World}{A:Around}{R:Result→Shared→Prop}{h:Heap}{g:Array GenState}{d:Drawn}{t:Nat}{os:OsState}
variable {K:Frag}{mg:Str→Option Value}{base:Heap}{f C LE e cda cc:Addr}{fld par nm qual msg file:Str}{ps:Arguments}{body:List Stmt}{sc:Scope}{kV doc pm ct oc ccl cl u:Value}{an od cdd cld:Option Addr}{osl ccs csl:Array (Option Value)}{cvs vs:Array Value}{tf:Tok}{init:Option Value}{oe:Obj}{t0:Addr}{ar:Arg}
 {a1 a2 a3 a4 a5 a6 b1 b2 b3 b4:Pos}{kd:Nat}{pl:Env→Sem Bool}
end
section
variable {prog:Program}{w:World}{A:Around}{E:Value→Shared→Prop}{h:Heap}{g:Array GenState}{d:Drawn}{t:Nat}{os:OsState}{C fI:Addr}{oI:Obj}{u:Value}
end
structure XIni (prog:Program) (K:Frag) (C LE fI:Addr) (fld:Str):Prop where
 x1:XK1 K C LE fld
 xc:xcIn K C (some (.ref fI))=true
 kp:keepIn K (.ref C)=true
 su:nsIn K mainGlobals "super" = some none
 top:(prog.main.scope.names.lookup ("super":Str)).isSome=false
 ex:∃(nm qual par msg file:Str) (ps:Arguments) (body:List Stmt) (sc:Scope) (kV doc pm ct ccl cl:Value) (an od cdd cld:Option Addr) (osl ccs csl:Array (Option Value)) (cvs:Array Value) (tf:Tok) (ar:Arg) (cda cc:Addr)
  (a1 a2 a3 a4 a5 a6 b1 b2 b3 b4:Pos) (kd:Nat) (pl:Env→Sem Bool),
  K.lookup fI=some ⟨.type "function",od,.func (ksFn nm qual ps body sc .none kV doc pm an (.ref cda) ct cc),osl⟩∧codeIn K (.ref cda) qual=true∧K.lookup cda=some ⟨ccl,cdd,.fields cvs,ccs⟩∧cvs[2]? = some (.str file tf)∧((prog.main.file:Str) == file)=true ∧
  K.lookup cc=some ⟨cl,cld,.cell (some (.ref C)),csl⟩∧ISc sc par∧(ps.posonlyargs ++ ps.args).head? = some ar∧ar.arg = "self"∧(∀e u:Value,bindArgs (ksFn nm qual ps body sc .none kV doc pm an (.ref cda) ct cc) ⟨[e,u],[]⟩ = pure [(("self":Str),e),(par,u)]) ∧
  body = [.Expr (.Call (.Attribute (.Call (.Name "super" a1) [] [] a2) "__init__" a3) [.Constant (.str msg) kd a4] [] a5) a6,.Assign [.Attribute (.Name "self" b1) fld b2] (.Name par b3) b4] ∧
  ∀env,eval (.Call (.Attribute (.Call (.Name "super" a1) [] [] a2) "__init__" a3) [.Constant (.str msg) kd a4] [] a5) env=(do
   let ov ← attributeBase (.Call (.Name "super" a1) [] [] a2) "__init__" env (eval (.Call (.Name "super" a1) [] [] a2) env)
   standAt a3.atName
   let (f,first) ← holding [ov] (getMethod ov "__init__" (pl env))
   callWith a5 f first (backTo a5 (starEach [.Constant (.str msg) kd a4] env)) [])
section
variable {X:Cx}{C LE fI:Addr}{fld x:Str}{XR:St→XK}{np cpos pos:Pos}{e:Expr}{t:TA}
end
section
variable {prog:Program}{w:World}{A:Around}{E:Value→Shared→Prop}{h:Heap}{g:Array GenState}{d:Drawn}{t:Nat}{os:OsState}{a C LE dx:Addr}{o:Obj}{vs:Array Value}{name:Str}{v:Value}{mA:Str→Option Value}
structure GetAt (M:Model) (h:Heap) (C:Addr):Prop where
 ga:Looks M h (typeLookup (.ref C) "__getattribute__") (some (.builtin "BaseException.__getattribute__"))
 gn:Looks M h (typeLookup (.ref C) "__getattr__") none
 be:Looks M h (isSubtype (.ref C) (.type "BaseException")) true
 ob:Looks M h (isSubtype (.ref C) (.type "object")) true
 kc:Looks M h (typeLookup (.ref C) "__class__") (some (.builtin "object.__class__"))
theorem xa_chk {M:Model}{n:Value}{Q:Unit→Shared→Prop}(G:GetAt M h C)(hx:h.get? a=some o)(hc:o.cls = .ref C)(hq:Q () ⟨h,g,d,t,os⟩):wpAny M A (checkBuiltinCall "BaseException.__getattribute__" ⟨[.ref a,n],[]⟩) Q E ⟨h,g,d,t,os⟩:=by
 have kd:builtinKind "BaseException.__getattribute__" = some .slot:=by decide +kernel
 have sp:splitId "BaseException.__getattribute__" = some ("BaseException","__getattribute__"):=by decide +kernel
 have be:=G.be
 simp only[checkBuiltinCall,kd,sp]
 refine wpAny_bind ?_
 unfold isInstance
 repeat (first | (with_reducible refine wpAny_loadPart_at hx ?_;rw[hc]) | (with_reducible refine Looks.at be ?_) |wp_step)
 exact hq
theorem xa_by {tk:Tok}{fill expr:Bool}{Q:Value→Shared→Prop}(hv:handedOut v=pure v)(G:GetAt (model prog w) h C)(hx:h.get? a=some o)(hc:o.cls = .ref C)
  (hq:∀A',codeAny (model prog w) A' (.call (.builtin "BaseException.__getattribute__") ⟨[.ref a,.str name tk],[]⟩) (fun r s'=>r = .ok (.ret v)∧Q v s') ⟨h,g,d,t,os⟩) :
  wpAny (model prog w) A (getAttrBy (.ref a) (.str name tk) fill expr) Q E ⟨h,g,d,t,os⟩:=by
 have FB:=PySem.F.attr_ValueError
 have f3:=FB.ga.bind (.ref a)
 have z0:(expr && onTheHeap (Value.builtin "BaseException.__getattribute__"))=false:=by cases expr <;> rfl
 have z2:(Value.builtin "BaseException.__getattribute__" == Value.builtin "object.__getattribute__")=false:=by decide +kernel
 have z1:(onTheHeap (Value.ref C) && Value.builtin "BaseException.__getattribute__" == Value.builtin "object.__getattribute__")=false:=by rw[z2];rfl
 have ga:=G.ga
 have gn:=G.gn
 repeat (any_goals (first |assumption | (with_reducible refine wpAny_loadPart_at hx ?_;rw[hc]) | (with_reducible refine Looks.at ga ?_) | (with_reducible refine Looks.at gn ?_) |wp_step))
 refine codeAny_mono (hq _) fun r s' ⟨z,q⟩=>?_
 subst z
 show wpAny _ _ (handedOut v) _ _ _
 rw[hv]
 exact wpAny_pure q
theorem xa_ce {tk:Tok}{Q:Fin→Shared→Prop}(G:GetAt (model prog w) h C)(hx:h.get? a=some o)(hc:o.cls = .ref C)(hd:o.data = .fields vs)
  (hq:Q (.done (.ret (.ref C))) ⟨h,g,d,t,os⟩):wpAny (model prog w) A (Builtin.«object.__getattribute__» ⟨[.ref a,.str "__class__" tk],[]⟩) Q E ⟨h,g,d,t,os⟩:=by
 have ty:(⟨h,g,d,t,os⟩:Shared).TypeIs (.builtin "object.__class__") "getset_descriptor":=PySem.F.typeOf_object_class
 have f5:=PySem.F.typeOf_object_class
 have f6:=PySem.F.slot_gs_get.lookup
 have f7:=PySem.F.slot_gs_set.lookup
 have kc:=G.kc
 repeat (any_goals (first |assumption | (with_reducible refine wpAny_loadPart_at hx ?_;rw[hc]) | (with_reducible refine Looks.at kc ?_) |wp_step))
 have ow:(".".intercalate ("object.__class__".cutAt '.').dropLast) = "object":=by kernel_rfl
 have ob:=G.ob
 rw[← ow]at ob
 refine codeAny_call_builtin PySem.F.slot_gs_get.plain PySem.F.entry_gs_get (PySem.F.slot_gs_get.check _ _ _ _ _ _ _ _ ty (PySem.F.args_gs_get _ _ _) ?_)
 repeat (any_goals (first |assumption | (with_reducible refine wpAny_loadPart_at hx ?_;rw[hc]) | (with_reducible refine Looks.at ob ?_) |wp_step))
 refine⟨Code.quiet_builtin _ (by decide +kernel),codeAny_builtin PySem.F.entry_object_class ?_⟩
 unfold Builtin.«object.__class__»
 repeat (any_goals (first |assumption | (with_reducible refine wpAny_loadPart_at hx ?_;rw[hc]) |wp_step))
theorem xa_cls {Q:Option Value→Shared→Prop}(G:GetAt (model prog w) h C)(hx:h.get? a=some o)(hc:o.cls = .ref C)(hd:o.data = .fields vs)(hq:Q (some (.ref C)) ⟨h,g,d,t+1,os⟩) :
  wpAny (model prog w) A (getAttr? (.ref a) "__class__") Q E ⟨h,g,d,t,os⟩:=by
 unfold getAttr? getAttrBy?
 refine wpAny_bind (wpAny_mkText (wpAny_bind (wpAny_attempt ?_)))
 refine xa_by (v:=.ref C) rfl G hx hc fun A'=>?_
 exact codeAny_call_builtin PySem.F.attr_ValueError.ga.plain PySem.F.entry_bexc_ga (xa_chk G hx hc (xa_ce G hx hc hd ⟨rfl,wpAny_pure hq⟩))
end
structure XG (K:Frag) (C:Addr):Prop where
 cl:∃cd,clsIn K C=some cd
 ga:findIn K (.ref C) "__getattribute__" = some (some (.builtin "BaseException.__getattribute__"))
 gn:findIn K (.ref C) "__getattr__" = some none
 kc:findIn K (.ref C) "__class__" = some (some (.builtin "object.__class__"))
 be:mroIn K C (.type "BaseException")=some true
 ob:mroIn K C (.type "object")=some true
theorem XG.at_ {K:Frag}{C:Addr}{M:Model}{h:Heap}(x:XG K C)(X:K.In h):GetAt M h C:=⟨looks_findIn X x.ga,looks_findIn X x.gn,looks_mroIn X x.be,looks_mroIn X x.ob,looks_findIn X x.kc⟩
theorem kitx_exc {K:Frag}{a C:Addr}{dx:Option Addr}(x:XG K C):KitX K (.ref a) (.ref C) (ExcIs a (.ref C) dx) where
 ty:=fun M h X ⟨oe,vs,q,c,_⟩=>by rw[← c];exact looks_cls q
 it:=fun M h X _=>by
  obtain⟨cd,e⟩:=x.cl
  unfold clsIn at e
  split at e
  ·rename_i ho
   intro A' Q' E' s' k q
   unfold isType loadHead
   exact wpAny_bind (wpAny_loadPart (k _ _ (X _ _ ho)) (wpAny_pure q))
  ·cases e
 ne:=fun h tp dd its n sl X htp=>by
  obtain⟨cd,e⟩:=x.cl
  refine Bool.eq_false_iff.mpr fun q=>?_
  have z:C=tp:=Value.ref.inj (beq_iff_eq.mp q)
  subst z
  unfold clsIn at e
  split at e
  ·rename_i ho
   have z:=(X _ _ ho).symm.trans htp
   cases z
  ·cases e
 ca:=fun {_ _ _ _ _ s} X ⟨oe,vs,q,c,_,f⟩ k=>by
  obtain⟨h,g,d,t,os⟩:=s
  exact xa_cls (x.at_ X) q c f k
inductive TyX (K:Frag) (H:Hp):V→Value→Prop
 | std {x:V}{T:String}(h:TyS K H x T):TyX K H x (.type T)
 | exc {a C:Addr}{dx:Option Addr}(h:H a=some (.ext (ExcIs a (.ref C) dx))) (g:XG K C):TyX K H (.ref a) (.ref C)
noncomputable def cV:V→Option Value
 | .ty n=>some (.type n)
 | .ref C=>some (.ref C)
 | _=>none
noncomputable def rIsiX (K:Frag):List V→Hp→VK→Prop:=fun xs H Q=>∃x c tv cv b,xs = [x,c]∧TyX K H x tv∧cV c=some cv∧kitOne K tv cv=some b∧Q (.bl b) H
section
variable {X:Cx}
theorem cn_isiX:CallR X (.builtin "isinstance") (rIsiX X.K):=by
 intro pins s σ H xs us Q I r h
 obtain⟨x,c,tv,cv,b,rfl,ty,hc,e,q⟩:=h
 obtain⟨u,w,rfl,ru,rw_⟩:=vals2 r
 obtain rfl:w=cv:=by
  cases c with
  | ty n=>cases hc;exact rw_
  | ref C=>cases hc;exact rw_
  | _=>cases hc
 have fin:∀tk,EP X pins σ Q (.bool b) { s with toks:=tk }:=fun tk=>⟨.bl b,H,I.tok tk,rfl,q⟩
 cases ty with
 | std ty =>
  cases ty with
  | non=>cases ru;exact kia_one kitx_none I.kIn True.intro e (fun z=>nomatch z) fin
  | bl y=>cases ru;exact kia_one kitx_bool I.kIn True.intro e (fun z=>nomatch z) fin
  | int i=>obtain⟨t,rfl⟩:=ru;exact kia_one kitx_int I.kIn True.intro e (fun z=>nomatch z) fin
  | str y=>obtain⟨t,rfl⟩:=ru;exact kia_one kitx_str I.kIn True.intro e (fun z=>nomatch z) fin
  | lst hq =>
   cases ru
   obtain⟨its,_,⟨o,nn,e1,e2,_⟩,_⟩:=I.list hq
   exact kia_one kitx_list I.kIn ⟨o,e1,e2⟩ e (fun z=>nomatch z) fin
  | tup hq =>
   cases ru
   obtain⟨its,_,⟨o,e1,e2,_⟩,_⟩:=I.tuple hq
   exact kia_one kitx_tuple I.kIn ⟨o,e1,e2⟩ e (fun z=>nomatch z) fin
  | @dk a kvs hq =>
   cases ru
   obtain⟨_,_,vs,_,o,es,ep,h1,h2,_⟩:=(show ObjOk X.prog X.w H s.heap a (.dK kvs)from I.hok a _ hq)
   exact kia_one kitx_dict I.kIn ⟨o,h1,h2.1⟩ e (fun z=>nomatch z) fin
 | @exc a C dx hq g =>
  cases ru
  have z:ExcIs a (.ref C) dx s.heap:=(I.hok a _ hq).1
  exact kia_one (kitx_exc g) I.kIn z e (fun z=>nomatch z) fin
variable {e:Expr}{ta:TE}{f:Str}{pos:Pos}
end
noncomputable def xgIn (K:Frag)(C:Addr):Bool:=(clsIn K C).isSome && (findIn K (.ref C) "__getattribute__" == some (some (.builtin "BaseException.__getattribute__")) && (findIn K (.ref C) "__getattr__" == some none && (findIn K (.ref C) "__class__" == some (some (.builtin "object.__class__")) && (mroIn K C (.type "BaseException") == some true && mroIn K C (.type "object") == some true))))
theorem xg_of {K:Frag}{C:Addr}(h:xgIn K C=true):XG K C:=by
 unfold xgIn at h
 simp only[Bool.and_eq_true,beq_iff_eq]at h
 obtain⟨a,b,c,d,e,f⟩:=h
 exact⟨Option.isSome_iff_exists.mp a,b,c,d,e,f⟩
noncomputable def xk1In (K:Frag)(C LE:Addr)(fld:Str):Bool:=(clsIn K C).map (·.mro) == some (.ref C :: .ref LE :: bmV) && (findIn K (.ref C) fld == some none && (findIn K (.ref C) "__setattr__" == some (some (.builtin "object.__setattr__")) && (alongIn K "__init__" (.ref LE :: bmV) == some (some (.builtin "ValueError.__init__")) && nsIn K cStatics "thirdparty.any" == some none)))
theorem xk1_of {K:Frag}{C LE:Addr}{fld:Str}(h:xk1In K C LE fld=true):XK1 K C LE fld:=by
 unfold xk1In at h
 simp only[Bool.and_eq_true,beq_iff_eq]at h
 obtain⟨a,b,c,d,e⟩:=h
 exact⟨a,b,c,d,e⟩
structure IBody (st:Stmt) (fld par:Str):Prop where
 sc:ISc (defScope st) par
 se:∃ar,((defArgs st).posonlyargs ++ (defArgs st).args).head? = some ar∧ar.arg = "self"
 bd:∀(nm qual:Str) (kV doc pm:Value) (an:Option Addr) (cda:Value) (ct:Value) (cc:Addr) (e u:Value),bindArgs (ksFn nm qual (defArgs st) (defBody st) (defScope st) .none kV doc pm an cda ct cc) ⟨[e,u],[]⟩ = pure [(("self":Str),e),(par,u)]
 tx:∃(msg:Str) (a1 a2 a3 a4 a5 a6 b1 b2 b3 b4:Pos) (kd:Nat) (pl:Env→Sem Bool),defBody st = [.Expr (.Call (.Attribute (.Call (.Name "super" a1) [] [] a2) "__init__" a3) [.Constant (.str msg) kd a4] [] a5) a6,.Assign [.Attribute (.Name "self" b1) fld b2] (.Name par b3) b4] ∧
  ∀env,eval (.Call (.Attribute (.Call (.Name "super" a1) [] [] a2) "__init__" a3) [.Constant (.str msg) kd a4] [] a5) env=(do
   let ov ← attributeBase (.Call (.Name "super" a1) [] [] a2) "__init__" env (eval (.Call (.Name "super" a1) [] [] a2) env)
   standAt a3.atName
   let (f,first) ← holding [ov] (getMethod ov "__init__" (pl env))
   callWith a5 f first (backTo a5 (starEach [.Constant (.str msg) kd a4] env)) [])
theorem px0 {X:Cx}:Px X (fun _=>E0):=fun _ _ _ _ _ _ _ h=>by
 obtain⟨a,C,dx,H',_,_,_,_,_,_,_,q⟩:=h
 exact q.elim
section
variable {X:Cx}{b₀:Stmt}{body suite:List Stmt}{c x:Str}{p hp pos:Pos}{B:Addr}{i:Nat}{tb:(St→XK)→TS}{ts:TS}
theorem qs_try (hN:X.N.Nodup)(hi:X.N[i]? = some x)(hx:X.env.scope.names.lookup x=some .local)(hg:Gl X c)(hm:X.mg c=some (.ref B))(hst:X.stack=X.env :: X.outer)(hfr:X.env.frame=some X.env.locals)(hex:X.ex = [])
  (hb:∀(xe':Value→Shared→Prop) (pn':List (Addr×Obj)) (XR:St→XK),Px (X.tr xe' pn') XR→PSsw (X.tr xe' pn') body (tb XR)) (hs:∀e:Addr,PSsw (X.su e) (b₀ :: suite) ts) (hdb:(c == ("__debug__":Str))=false) :
  PSw X (.Try body [.ExceptHandler (some (.Name c p)) (some x) (b₀ :: suite) hp] [] [] pos) (tTry X.K B i tb ts):=⟨ps_try hN hi hx hg hm hst hfr hex (fun xe' pn' XR h=>(hb xe' pn' XR h).run) (fun e=>(hs e).run) hdb⟩
end
section
variable {σ:St}{H:Hp}{D:Ends}{Q:VK}
theorem rd_callX {sp:Sp}{dvs:List V}{XR:St→XK}{t:TA}(h:t σ H fun vs H1=>sp (vs ++ dvs) H1 Q (XR σ)):tCallX sp dvs XR t σ H Q:=h
theorem rd_raise0 {C:Addr}{XR:St→XK}(h:XR σ (.ref C) none H):tRaise0 C XR D σ H:=h
theorem rd_try {K:Frag}{B:Addr}{i:Nat}{tb:(St→XK)→TS}{ts:TS}
  (h:tb (fun σ' C dx H'=>exmOne K C (.ref B)=some true∧∀a,H' a=none→ts (D.un i) (σ'.set i (some (.ref a))) (upd H' a (.ext (ExcIs a C dx)))) D σ H):tTry K B i tb ts D σ H:=h
theorem rd_unx {i:Nat}(h:D.nx (σ.set i none) H):(D.un i).nx σ H:=h
theorem rd_isiX {K:Frag}{x c:V}{tv cv:Value}{b:Bool}(ty:TyX K H x tv)(hc:cV c=some cv)(e:kitOne K tv cv=some b)(h:Q (.bl b) H):rIsiX K [x,c] H Q:=⟨x,c,tv,cv,b,rfl,ty,hc,e,h⟩
end
structure ISc0 (sc:Scope):Prop where
 su:sc.names.lookup ("super":Str)=some .globalImplicit
 cl:sc.names.lookup ("__class__":Str)=some .free
 se:sc.names.lookup ("self":Str)=some .local
 nc:∀x∈sc.names,x.2 ≠ .cell
 co:sc.isCoroutine=false
 ge:sc.isGenerator=false
 ki:sc.kind = .function
section
variable {prog:Program}{w:World}{A:Around}{R:Result→Shared→Prop}{h:Heap}{g:Array GenState}{d:Drawn}{t:Nat}{os:OsState}
variable {K:Frag}{mg:Str→Option Value}{base:Heap}{f C LE e cda cc:Addr}{fld nm qual msg file:Str}{ps:Arguments}{body:List Stmt}{sc:Scope}{kV doc pm ct oc ccl cl:Value}{an od cdd cld:Option Addr}{osl ccs csl:Array (Option Value)}{cvs vs:Array Value}{tf:Tok}{init:Option Value}{oe:Obj}{t0:Addr}{ar:Arg}
 {a1 a2 a3 a4 a5 a6:Pos}{kd:Nat}{pl:Env→Sem Bool}
theorem xs_init0 (B:Mod K mg base)(kb:∀b o,base.get? b=some o→h.get? b=some o)(nb:base.get? e=none)(x1:XK1 K C LE fld)(q:xcIn K C init=true)(hroom:A.depth<recursionLimit)
  (lk:K.lookup f=some ⟨oc,od,.func (ksFn nm qual ps body sc .none kV doc pm an (.ref cda) ct cc),osl⟩) (hcd:codeIn K (.ref cda) qual=true) (hcode:K.lookup cda=some ⟨ccl,cdd,.fields cvs,ccs⟩) (hvs:cvs[2]? = some (.str file tf)) (hfile:((prog.main.file:Str) == file)=true)
  (hcell:K.lookup cc=some ⟨cl,cld,.cell (some (.ref C)),csl⟩) (hsu:mg "super" = none) (htop:(prog.main.scope.names.lookup ("super":Str)).isSome=false) (hboot:bootBuiltins "super" = some (.type "super"))
  (S:ISc0 sc) (hp:(ps.posonlyargs ++ ps.args).head? = some ar) (har:ar.arg = "self") (hbind:bindArgs (ksFn nm qual ps body sc .none kV doc pm an (.ref cda) ct cc) ⟨[.ref e],[]⟩ = pure [(("self":Str),.ref e)])
  (hb:body = [.Expr (.Call (.Attribute (.Call (.Name "super" a1) [] [] a2) "__init__" a3) [.Constant (.str msg) kd a4] [] a5) a6])
  (hev:∀env,eval (.Call (.Attribute (.Call (.Name "super" a1) [] [] a2) "__init__" a3) [.Constant (.str msg) kd a4] [] a5) env=(do
   let ov ← attributeBase (.Call (.Name "super" a1) [] [] a2) "__init__" env (eval (.Call (.Name "super" a1) [] [] a2) env)
   standAt a3.atName
   let (f,first) ← holding [ov] (getMethod ov "__init__" (pl env))
   callWith a5 f first (backTo a5 (starEach [.Constant (.str msg) kd a4] env)) []))
  (he:h.get? e=some oe) (hec:oe.cls = .ref C) (hed:oe.dict=none) (hef:oe.data = .fields vs) (h0:vs[0]? = some (.ref t0))
  (hq:∀h' t' T,h'.get? e=some { cls:=.ref C,dict:=none,data:=.fields (vs.setIfInBounds 0 (.ref T)),slots:=oe.slots }→(∀b o,b≠e→h.get? b=some o→h'.get? b=some o)→R (.ok (.ret .none)) ⟨h',g,d,t',os⟩) :
  codeAny (model prog w) A (.call (.ref f) ⟨[.ref e],[]⟩) R ⟨h,g,d,t,os⟩:=by
 have X:K.In h:=B.kin.keeps kb
 refine ks_codeAny_call_defAt (s:=⟨h,g,d,t,os⟩) (binds:=[(("self":Str),.ref e)]) hroom (X _ _ lk) rfl (B.nolimit.keeps kb) (codeRec_of X hcd) rfl (.of_eq hbind) S.nc (fun y hy=>?_) (fun h₀ hn k0=>?_) S.co S.ge S.ki
 ·simp only[List.mem_cons,List.mem_nil_iff,or_false]at hy
  subst hy
  exact S.se
 have kb0:∀b o,base.get? b=some o→h₀.get? b=some o:=fun b o z=>k0 _ _ (kb _ _ z)
 have X0:K.In h₀:=B.kin.keeps kb0
 have e0:=k0 _ _ he
 have ms:(fun x=>([("self",.ref e)]:List (Str×Value)).reverse.lookup x) ("self":Str)=some (.ref e):=rfl
 obtain⟨mb,hb1,hb2⟩:=B.blt
 obtain⟨nmC,qnC,NC,bsC,bmC,snC,subC,abC,colC,ddC,k0C,k1C,k2C,k3C,k5C,mNC,hC,_,_,_⟩:=(xc_at X0 q).out
 have nfe:∀c,oe.data ≠ .cls c:=fun c z=>by rw[hef]at z;cases z
 have neC:e≠C:=fun z=>by
  subst z
  rw[e0]at hC;cases hC
  cases hef
 subst hb
 dsimp only
 generalize hE:(fun (e:Value) (s':Shared)=>wpAny (model prog w) _ (leaving _ e) (fun _ s''=>R (Except.error e) s'') (fun e' s''=>R (Except.error e') s'') s')=EX
 refine ks_wpAt_execs_cons ?_
 refine ks_wpAt_Expr_any ?_ (by show (sc.kind == .module && _)=false;rw[S.ki];rfl) rfl
 refine ks_wpAt_MethodCall ?_ (hev _)
 refine ks_wpAt_super_base (env:=ksEnv qual sc h.objs.size f (.ref cda) cc) (file:=file) (tf:=tf) S.su S.cl (by decide +kernel) rfl (X0 _ _ lk) rfl hp rfl (X0 _ _ hcode) rfl hvs hfile htop ?_
 refine ks_loadName_global S.ki S.su (Calls.loadGlobal_builtin (B.glob.keeps kb0) hsu (hb1.keeps kb0) ((hb2 _ (by decide +kernel)).trans hboot) ⟨rfl,?_⟩)
 refine wpAny_loadName_free S.ki S.cl rfl ⟨_,X0 _ _ hcell,rfl⟩ ?_
 rw[har]
 refine wpAny_loadName_local S.ki S.se hn ms ?_
 refine ks_wpAny_isType_cls hC rfl ⟨rfl,?_⟩
 refine ks_wpAny_call_super hC rfl e0 hec nfe (x1.subs X0 (by simp)) (fun h1 hso k1=>?_)
 have kb1:∀b o,base.get? b=some o→h1.get? b=some o:=fun b o z=>k1 _ _ (kb0 _ _ z)
 have X1:K.In h1:=B.kin.keeps kb1
 have e1:=k1 _ _ e0
 have inst:Looks (model prog w) h1 (isInstance (.ref e) (.type "ValueError")) true:=by
  unfold isInstance
  refine(looks_cls e1).andThen ?_
  rw[hec]
  exact x1.subs X1 (by simp[bmV])
 refine xs_getm (l:=.ref LE :: bmV) hso (looks_opaque X1 x1.opq) (x1.mroL X1) (by simp[List.dropWhile]) X1 x1.ini neC inst ?_
 generalize hmo:({ cls:=.type "method-wrapper",data:=.fields #[.builtin "ValueError.__init__",.ref e] }:Obj)=mo
 have m2:(h1.push mo).get? h1.objs.size=some mo:=Heap.get?_push_size _ (by rw[← hmo];rfl)
 have k2:∀b o,h.get? b=some o→(h1.push mo).get? b=some o:=fun b o z=>Heap.get?_push_of_some _ (k1 _ _ (k0 _ _ z))
 have e2:=k2 _ _ he
 have X2:K.In (h1.push mo):=B.kin.keeps fun b o z=>Heap.get?_push_of_some _ (kb1 _ _ z)
 refine callWith_mw (mw:=h1.objs.size) (fn:=.builtin "ValueError.__init__") (x:=.ref e) (by rw[hmo];exact m2) fun tk=>?_
 refine xs_run (by rw[hmo];exact m2) (xc_at X2 q) hec e2 hef h0 fun h3 T zT z1 z2=>?_
 have dm:=Obj.data_mapFields hef (·.setIfInBounds 0 (Value.ref T))
 refine wpAt_of_wpAny (wpAny_execs_nil ?_)
 have y2':h3.get? e=some { cls:=.ref C,dict:=none,data:=.fields (vs.setIfInBounds 0 (.ref T)),slots:=oe.slots }:=by
  rw[z1]
  obtain⟨oc',od',odt',osl'⟩:=oe
  dsimp only at hec hed hef
  subst hec hed hef
  rfl
 exact hq h3 _ T y2' fun b o nb' z=>z2 _ _ nb' (k2 _ _ z)
end
section
variable {prog:Program}{w:World}{A:Around}{E:Value→Shared→Prop}{h:Heap}{g:Array GenState}{d:Drawn}{t:Nat}{os:OsState}{C fI:Addr}{oI:Obj}
theorem xs_tcall0 {Q:Fin→Shared→Prop}(xa:XAt h C (some (.ref fI)))(hf:h.get? fI=some oI)(hfc:oI.cls = .type "function")
  (hq:∀h' e,Heap.MadeExcOf h h' e (.ref C) []→wpAny (model prog w) A (call (.ref fI) [.ref e]) (fun r s'=>r = .none∧Q (.done (.ret (.ref e))) s') E ⟨h',g,d,t,os⟩) :
  wpAny (model prog w) A (Builtin.«type.__call__» ⟨[.ref C],[]⟩) Q E ⟨h,g,d,t,os⟩:=by
 obtain⟨nm,qn,N,bs,bm,sn,sub,ab,col,dd,k0,k1,k2,k3,k5,mN,hC,hN,hi,T⟩:=xa.out
 have F:=PySem.F.excBase_ValueError
 repeat (first |with_reducible refine wpAny_loadPart_at hC ?_ |with_reducible refine wpAny_madeBy_exc hC ?_ |wp_step)
 refine codeAny_call_builtin_code (Code.quiet_builtin _ F.quiet) (wpAny_check_new_subU F (by decide +kernel) T hC ?_)
 refine codeAny_exc_new_subU (rest:=[]) F (by decide +kernel) F T hC ?_ (by show 0≤sizeLine;exact Nat.zero_le _)
 show wpAny _ _ _ _ _ _
 generalize hh:(h.push { cls:=.type "tuple",data:=.seq ([]:List Value).toArray }).push { cls:=.ref C,data:=.fields #[.ref h.objs.size,.none,.none,.none,.bool false,.none] } = h2
 have up:∀b o,h.get? b=some o→h2.get? b=some o:=fun b o z=>by rw[← hh];exact Heap.get?_push_of_some _ (Heap.get?_push_of_some _ z)
 have ge:h2.get? (h.objs.size+1)=some { cls:=.ref C,data:=.fields #[.ref h.objs.size,.none,.none,.none,.bool false,.none] }:=by rw[← hh];heap_get
 have gt:h2.get? h.objs.size=some { cls:=.type "tuple",data:=.seq ([]:List Value).toArray }:=by rw[← hh];exact Heap.get?_push_of_some _ (Heap.get?_push_at rfl rfl)
 have cC:(Value.ref C :: bm).contains (.ref C)=true:=by simp
 have C2:=up _ _ hC
 unfold isInstance
 repeat (first |with_reducible refine wpAny_loadPart_at ge ?_ | (with_reducible refine wpAny_isSubtype_exc C2 ?_;rw[cC]) |wp_step)
 show wpAny _ _ (typeLookup (.ref C) _) _ _ _
 refine wpAny_typeLookup_tail C2 (hN.keeps up) (T.keeps up) F.mroIs F.init.lookup ?_
 rw[hi]
 refine wpAny_holding (wpAny_bind ?_)
 unfold bindSpecial
 refine wpAny_bind (wpAny_typeOf (T:="function") ⟨_,up _ _ hf,hfc⟩ ?_)
 rw[if_pos (by decide)]
 refine wpAny_pure (wpAny_bind (wpAny_mono (hq h2 (h.objs.size+1) ⟨up,Heap.get?_none_of_le (Nat.le_succ _),h.objs.size,ge,Heap.get?_none_of_le (Nat.le_refl _),gt⟩) (fun r s' z=>?_) fun _ _ z=>z))
 obtain⟨rfl,z⟩:=z
 wp_walk
 exact z
theorem xs_call0 {Q:Value→Shared→Prop}(xa:XAt h C (some (.ref fI)))(hf:h.get? fI=some oI)(hfc:oI.cls = .type "function")
  (hq:∀h' e,Heap.MadeExcOf h h' e (.ref C) []→wpAny (model prog w) (A.under (.builtin "type.__call__" ⟨[.ref C],[]⟩)) (call (.ref fI) [.ref e]) (fun r s'=>r = .none∧Q (.ref e) s') E ⟨h',g,d,t,os⟩) :
  wpAny (model prog w) A (call (.ref C) []) Q E ⟨h,g,d,t,os⟩:=by
 obtain⟨nm,qn,N,bs,bm,sn,sub,ab,col,dd,k0,k1,k2,k3,k5,mN,hC,_,_,_⟩:=xa.out
 have f1:=tc_lookup
 have f2:=tc_bind (.ref C)
 have ty:(⟨h,g,d,t,os⟩:Shared).TypeIs (.ref C) "type":=⟨_,hC,rfl⟩
 refine wpAny_call (codeAny_of_tree ?_)
 show wpAny _ _ (callAny (.ref C) _) _ _ _
 repeat (any_goals (first |assumption |with_reducible refine wpAny_loadPart_at hC ?_ |wp_step))
 refine⟨rfl,?_⟩
 exact codeAny_call_builtin_at (Code.quiet_builtin _ (by decide +kernel)) entry_typeCall (wpAny_check_type_call_sub hC (xs_tcall0 xa hf hfc fun h' e me=>hq h' e me))
end
structure XIni0 (prog:Program) (K:Frag) (C LE fI:Addr) (fld:Str):Prop where
 x1:XK1 K C LE fld
 xc:xcIn K C (some (.ref fI))=true
 kp:keepIn K (.ref C)=true
 su:nsIn K mainGlobals "super" = some none
 top:(prog.main.scope.names.lookup ("super":Str)).isSome=false
 ex:∃(nm qual msg file:Str) (ps:Arguments) (body:List Stmt) (sc:Scope) (kV doc pm ct ccl cl:Value) (an od cdd cld:Option Addr) (osl ccs csl:Array (Option Value)) (cvs:Array Value) (tf:Tok) (ar:Arg) (cda cc:Addr)
  (a1 a2 a3 a4 a5 a6:Pos) (kd:Nat) (pl:Env→Sem Bool),
  K.lookup fI=some ⟨.type "function",od,.func (ksFn nm qual ps body sc .none kV doc pm an (.ref cda) ct cc),osl⟩∧codeIn K (.ref cda) qual=true∧K.lookup cda=some ⟨ccl,cdd,.fields cvs,ccs⟩∧cvs[2]? = some (.str file tf)∧((prog.main.file:Str) == file)=true ∧
  K.lookup cc=some ⟨cl,cld,.cell (some (.ref C)),csl⟩∧ISc0 sc∧(ps.posonlyargs ++ ps.args).head? = some ar∧ar.arg = "self"∧(∀e:Value,bindArgs (ksFn nm qual ps body sc .none kV doc pm an (.ref cda) ct cc) ⟨[e],[]⟩ = pure [(("self":Str),e)]) ∧
  body = [.Expr (.Call (.Attribute (.Call (.Name "super" a1) [] [] a2) "__init__" a3) [.Constant (.str msg) kd a4] [] a5) a6] ∧
  ∀env,eval (.Call (.Attribute (.Call (.Name "super" a1) [] [] a2) "__init__" a3) [.Constant (.str msg) kd a4] [] a5) env=(do
   let ov ← attributeBase (.Call (.Name "super" a1) [] [] a2) "__init__" env (eval (.Call (.Name "super" a1) [] [] a2) env)
   standAt a3.atName
   let (f,first) ← holding [ov] (getMethod ov "__init__" (pl env))
   callWith a5 f first (backTo a5 (starEach [.Constant (.str msg) kd a4] env)) [])
section
variable {X:Cx}{C LE fI:Addr}{fld x:Str}{XR:St→XK}{np cpos pos:Pos}
theorem qs_raise0i (hx:Px X XR)(hc:X.calm=true)(hr:Room 2 X.A)(hg:Gl X x)(hm:X.mg x=some (.ref C))(Z:XIni0 X.prog X.K C LE fI fld)(hdb:(x == ("__debug__":Str))=false) :
  PSw X (.Raise (some (.Call (.Name x np) [] [] cpos)) none pos) (tRaise0 C XR):=by
 refine⟨fun pins s σ H D I h=>?_⟩
 rw[arm_exec_Raise]
 simp only[evalOpt,Option.map]
 refine wpAny_bind (wpAny_standAt (raise_made (C:=C) (init:=some (.ref fI)) (I.ok.hd hc) ?_))
 refine wpAny_bind (wpAny_mono (Q:=fun v s₁=>∃e oe vs,v = .ref e∧XAt s₁.heap C (some (.ref fI))∧s₁.heap.get? e=some oe∧oe.cls = .ref C∧oe.data = .fields vs∧vs[1]? = some .none∧X.xe (.ref e) s₁) ?_ (fun v s₃ h₃=>wpAny_bind (wpAny_standAt (wpAny_pure h₃))) fun _ _ z=>z)
 refine wpAny_Call_Name_kw (ld_glob I hg hm ?_ hdb)
 refine PySem.W.callWith_K0 I.kIn Z.kp ?_
 obtain⟨nm,qual,msg,file,ps,body,sc,kV,doc,pm,ct,ccl,cl,an,od,cdd,cld,osl,ccs,csl,cvs,tf,ar,cda,cc,a1,a2,a3,a4,a5,a6,kd,pl,z1,z2,z3,z4,z5,z6,z7,z8,z9,z10,z11,z12⟩:=Z.ex
 obtain⟨hh,g,d,t1,os⟩:=s
 have hk:∀b o,X.base.get? b=some o→hh.get? b=some o:=I.bk
 refine xs_call0 (xc_at I.kIn Z.xc) (I.kIn _ _ z1) rfl fun h1 e1 me=>?_
 obtain⟨tp,q1,q2,q3⟩:=me.there
 have nb:X.base.get? e1=none:=by
  cases zz:X.base.get? e1 with
  | none=>rfl
  | some o=>have:=hk _ _ zz;rw[me.new]at this;cases this
 have hsu:X.mg "super" = none:=mg_none_of I.ok.mod.kin I.ok.mod.glob Z.su
 refine wpAny_call (codeAny_mono (R:=fun r s'=>r = .ok (.ret .none)∧∃e oe vs,Value.ref e1 = .ref e∧XAt s'.heap C (some (.ref fI))∧s'.heap.get? e=some oe∧oe.cls = .ref C∧oe.data = .fields vs∧vs[1]? = some .none∧X.xe (.ref e) s') (xs_init0 (base:=X.base) (fld:=fld) (LE:=LE) (C:=C) I.ok.mod (fun b o z=>me.keeps _ _ (hk _ _ z)) nb Z.x1 Z.xc (hr.make C [] []).depth z1 z2 z3 z4 z5 z6 hsu Z.top (by decide +kernel) z7 z8 z9 (z10 _) z11 z12 q1 rfl rfl rfl rfl fun h2 t2 T y1 y4=>⟨rfl,e1,_,_,rfl,?_,y1,rfl,rfl,rfl,?_⟩) ?_)
 ·exact(xc_at I.kIn Z.xc).keeps fun b o z=>y4 _ _ (fun y=>by rw[y]at z;rw[me.new]at z;cases z) (me.keeps _ _ z)
 ·have kk:∀b o,hh.get? b=some o→h2.get? b=some o:=fun b o z=>y4 _ _ (fun y=>by rw[y,me.new]at z;cases z) (me.keeps _ _ z)
  have hne:H e1=none:=I.hok.none me.new
  exact hx pins σ H ⟨hh,g,d,t1,os⟩ (.ref e1) ⟨h2,g,d,t2,os⟩ I ⟨e1,.ref C,none,H,rfl,rfl,I.bare,Un.kept kk,I.hok.kept kk,⟨me.new,hne⟩,⟨_,_,y1,rfl,rfl,rfl,by simp,.inl ⟨rfl,rfl⟩⟩,h⟩
 ·rintro _ s' ⟨rfl,z⟩
  exact⟨rfl,z⟩
end
structure IBody0 (st:Stmt):Prop where
 sc:ISc0 (defScope st)
 se:∃ar,((defArgs st).posonlyargs ++ (defArgs st).args).head? = some ar∧ar.arg = "self"
 bd:∀(nm qual:Str) (kV doc pm:Value) (an:Option Addr) (cda:Value) (ct:Value) (cc:Addr) (e:Value),bindArgs (ksFn nm qual (defArgs st) (defBody st) (defScope st) .none kV doc pm an cda ct cc) ⟨[e],[]⟩ = pure [(("self":Str),e)]
 tx:∃(msg:Str) (a1 a2 a3 a4 a5 a6:Pos) (kd:Nat) (pl:Env→Sem Bool),defBody st = [.Expr (.Call (.Attribute (.Call (.Name "super" a1) [] [] a2) "__init__" a3) [.Constant (.str msg) kd a4] [] a5) a6] ∧
  ∀env,eval (.Call (.Attribute (.Call (.Name "super" a1) [] [] a2) "__init__" a3) [.Constant (.str msg) kd a4] [] a5) env=(do
   let ov ← attributeBase (.Call (.Name "super" a1) [] [] a2) "__init__" env (eval (.Call (.Name "super" a1) [] [] a2) env)
   standAt a3.atName
   let (f,first) ← holding [ov] (getMethod ov "__init__" (pl env))
   callWith a5 f first (backTo a5 (starEach [.Constant (.str msg) kd a4] env)) [])
theorem xini0_mk {prog:Program}{K:Frag}{C LE fI cda cc:Addr}{fld nm qual file:Str}{st:Stmt}{kV doc pm ct ccl cl:Value}{an od cdd cld:Option Addr}{osl ccs csl:Array (Option Value)}{cvs:Array Value}{tf:Tok}
  (T:IBody0 st) (x1:xk1In K C LE fld=true) (xc:xcIn K C (some (.ref fI))=true) (kp:keepIn K (.ref C)=true) (su:nsIn K mainGlobals "super" = some none) (top:(prog.main.scope.names.lookup ("super":Str)).isSome=false)
  (lk:K.lookup fI=some ⟨.type "function",od,.func (ksFn nm qual (defArgs st) (defBody st) (defScope st) .none kV doc pm an (.ref cda) ct cc),osl⟩) (cd:codeIn K (.ref cda) qual=true) (hcode:K.lookup cda=some ⟨ccl,cdd,.fields cvs,ccs⟩) (hvs:cvs[2]? = some (.str file tf)) (hfile:((prog.main.file:Str) == file)=true)
  (hcell:K.lookup cc=some ⟨cl,cld,.cell (some (.ref C)),csl⟩):XIni0 prog K C LE fI fld:=by
 obtain⟨ar,s1,s2⟩:=T.se
 obtain⟨msg,a1,a2,a3,a4,a5,a6,kd,pl,t1,t2⟩:=T.tx
 exact⟨xk1_of x1,xc,kp,su,top,nm,qual,msg,file,_,_,_,kV,doc,pm,ct,ccl,cl,an,od,cdd,cld,osl,ccs,csl,cvs,tf,ar,cda,cc,a1,a2,a3,a4,a5,a6,kd,pl,lk,cd,hcode,hvs,hfile,hcell,T.sc,s1,s2,T.bd nm qual kV doc pm an (.ref cda) ct cc,t1,t2⟩
end L2
namespace Zt
open PySem PySem.Spec
section
variable {prog:Program}{w:World}{A:Around}{E:Value→Shared→Prop}{s:Shared}
end
end Zt
namespace L2
open PySem PySem.Spec PyProof.Rows
end L2
namespace Mt
open PySem L2
end Mt
namespace Zt
open PySem PySem.Spec
end Zt
namespace L2
open PySem PySem.Spec PyProof.Rows
end L2
namespace L2
open PySem PySem.Spec PyProof.Rows PySem.W
section
variable {X:Cx}{e:Expr}{es:List Expr}{te:TE}{t:TA}{pos p:Pos}{k i:Nat}{f:Addr}{fd:FuncData}{ps:List Str}{sp:Sp}{dvs:List V}{ds:List Value}{XR:St→XK}{x:Str}
variable {tg a b:Expr}{ta:TA}
end
section
variable {σ:St}{H:Hp}{Q:VK}
end
theorem comp_byF {J:It}{H1:Hp}{acc:Addr}{σ0:St}{g:TG}{tt:TT}{te:TE}{Q:VK}(n:Nat)(hn:n<sizeLine)(Pv:Nat→List V→St→Hp→Prop)(h0:Pv 0 [] σ0 (upd H1 acc (.lst [])))
  (hgo:∀i vs σc H,i<n→vs.length≤i→H acc=some (.lst vs)→Pv i vs σc H→J.go i H∧∀x H',J.yld i H x H'→∀(R:St→V→Hp→Prop) (S:St→Hp→Prop),
   (∀ σ2 v H4,H4 acc=some (.lst vs)→Pv (i+1) (vs ++ [v]) σ2 (upd H4 acc (.lst (vs ++ [v])))→R σ2 v H4)→(∀ σ2 H4,H4 acc=some (.lst vs)→Pv (i+1) vs σ2 H4→S σ2 H4) →
   g x σc H' fun σ2 H2=>tt σ2 H2 fun b H3=>if b=true then te σ2 H3 (R σ2) else S σ2 H3)
  (hst:∀vs σc H,vs.length≤n→H acc=some (.lst vs)→Pv n vs σc H→J.stop n H∧Q (.ref acc) H):CompW σ0 J H1 acc g tt te Q:=by
 refine⟨fun i m σc H=>m=n - i∧i≤n∧∃vs,vs.length≤i∧H acc=some (.lst vs)∧Pv i vs σc H,⟨n,by simp,Nat.zero_le _,[],Nat.le_refl _,upd_same,h0⟩,?_⟩
 rintro i m σc H ⟨rfl,hi,vs,hl,ha,hp⟩
 by_cases hlt:i<n
 ·obtain⟨g1,g2⟩:=hgo i vs σc H hlt hl ha hp
  refine .inr ⟨g1,fun σ' H'=>i+1≤n∧∃vs,vs.length≤i+1∧H' acc=some (.lst vs)∧Pv (i+1) vs σ' H',fun σ' H' q=>⟨n - (i+1),by omega,rfl,q⟩,fun x H' y=>?_⟩
  exact g2 x H' y (fun σ2 v H4=>∃xs,H4 acc=some (.lst xs)∧xs.length<sizeLine∧(i+1≤n∧∃vs,vs.length≤i+1∧(upd H4 acc (.lst (xs ++ [v]))) acc=some (.lst vs)∧Pv (i+1) vs σ2 (upd H4 acc (.lst (xs ++ [v])))))
   (fun σ2 H4=>i+1≤n∧∃vs,vs.length≤i+1∧H4 acc=some (.lst vs)∧Pv (i+1) vs σ2 H4)
   (fun σ2 v H4 q1 q2=>⟨vs,q1,by omega,hlt,vs ++ [v],by simp;omega,upd_same,q2⟩) fun σ2 H4 q1 q2=>⟨hlt,vs,by omega,q1,q2⟩
 ·have e:i=n:=by omega
  subst e
  exact .inl (hst vs σc H hl ha hp)
end L2
namespace L2
open PySem PySem.Spec PyProof.Rows
noncomputable def gLst (K:PySem.W.Frag)(n:Nat)(t:TGs):TG:=fun v σ H Q=>∃a xs,v = .ref a∧SqL K H a xs∧xs.length=n∧t xs σ H Q
theorem pg_lst {X:Cx}{es:List Expr}{k:Nat}{pos:Pos}{t:TGs}{n:Nat}(hc:X.calm=true)(h:PGs X es t)
  (hn:(assignEach es X.env).length=n) (hst:(assignEach es X.env).findIdx? (·.1)=none):PG X (.Tuple es k pos) (gLst X.K n t):=by
 intro pins s σ H v u Q I r hw
 obtain⟨a,xs,rfl,hq,hl,hw⟩:=hw
 cases r
 obtain⟨its,rv,pl,hz⟩:=I.list hq
 rw[assign_Tuple]
 refine wpAny_bind (wpAny_standAt ?_)
 unfold unpack
 rw[hst]
 have e:(assignEach es X.env).length=its.toArray.size:=by simp[hn,← hl,rv.length]
 rw[e]
 refine wpAny_bind (wpAny_holding (PySem.W.kun_itemsOf (I.ok.hd hc) pl.isList fun h' hx=>?_))
 have I1:Inv X pins σ H { s with heap:=h' }:=I.kept (t':=s.toks) fun b o e=>hx b o (Nat.ne_of_lt (Heap.lt_size e)) e
 exact h pins _ σ H xs _ Q I1 (by simpa using rv) hw
theorem rd_glst {K:PySem.W.Frag}{n:Nat}{t:TGs}{σ:St}{H:Hp}{a:Addr}{xs:List V}{Q:St→Hp→Prop}(hq:SqL K H a xs)(hl:xs.length=n)(h:t xs σ H Q):gLst K n t (.ref a) σ H Q:=⟨a,xs,rfl,hq,hl,h⟩
section
variable {X:Cx}{a e o:Expr}{es:List Expr}{ta t tk:TA}{p pos apos cpos:Pos}
noncomputable def rInt1:TR:=fun xs H Q=>(∃i,xs = [.int i]∧Q (.int i) H)∨∃k,xs = [.bl k]∧Q (.int (if k then 1 else 0)) H
theorem cn_int:CallR X (.type "int") rInt1:=call_int1
structure PKs (X:Cx) (kws:List Keyword) (t:TA):Prop where
 run:PK X kws t
noncomputable def kg2 {α:Type}:List α→List α→List α
 | [a],[b]=>[a,b]
 | _,_=>[]
theorem kg2_rel {vs:List V}{us:List Value}{zs:List V}{ws:List Value}(h1:Vals vs us)(h2:Vals zs ws):Vals (kg2 vs zs) (kg2 us ws):=by
 cases h1 with
 | nil=>exact .nil
 | cons a r=>cases r with
  | nil=>cases h2 with
   | nil=>exact .nil
   | cons b r2=>cases r2 with
    | nil=>exact .cons a (.cons b .nil)
    | cons _ _=>exact .nil
  | cons _ _=>exact .nil
end
section
variable {σ:St}{H:Hp}{Q:VK}{K:PySem.W.Frag}
theorem rd_intB {k:Bool}(h:Q (.int (if k then 1 else 0)) H):rInt1 [.bl k] H Q:=.inr ⟨k,rfl,h⟩
end
theorem Fun.kbinds {K:PySem.W.Frag}{x qual:Str}{st:Stmt}{f:Addr}{fd:FuncData}{ps ks:List Str}(F:Fun K x qual st f fd)(hp:ps.length=2)
  (h:∀(kV doc pm:Value) (an:Option Addr) (cdv ct u w:Value),bindArgs (PySem.W.fnOf x qual (defArgs st) (defBody st) (defScope st) .none kV doc pm an cdv ct) ⟨[u],ks.zip [w]⟩ = pure (ps.zip [u,w])):KBinds K fd ps ks kg2 kg2:=by
 obtain⟨oc,od,kV,doc,pm,an,cdv,ct,osl,rfl,lk,hcd⟩:=F.ex
 refine⟨fun s us ws _ hl=>?_,kg2_rel⟩
 rw[hp]at hl
 match us,ws,hl with
 | [u],[w],_=>exact .of_eq (h kV doc pm an cdv ct u w)
 | [],_,hl=>simp[kg2]at hl
 | [_],[],hl=>simp[kg2]at hl
 | [_],_ :: _ :: _,hl=>simp[kg2]at hl
 | _ :: _ :: _,_,hl=>simp[kg2]at hl
section
variable {X:Cx}{K:PySem.W.Frag}
theorem on_in:OpR X (compareOp .In) (rIn X.K false):=op_in_seq
theorem on_notIn:OpR X (compareOp .NotIn) (rIn X.K true):=op_notIn_seq
theorem on_notInK (h:X.K=K):OpR X (compareOp .NotIn) (rIn K true):=h ▸ op_notIn_seq
end
section
variable {H:Hp}{Q:VK}{K:PySem.W.Frag}{p:Addr}{xs:List V}{x:V}
theorem rd_inT (hq:SqT K H p xs)(fx:flatV x=true)(fs:xs.all flatV=true)(h:Q (.bl (inV x xs)) H):rIn K false x (.ref p) H Q:=⟨p,xs,rfl,.inr hq,fx,fs,h⟩
theorem rd_notInT (hq:SqT K H p xs)(fx:flatV x=true)(fs:xs.all flatV=true)(h:Q (.bl (!inV x xs)) H):rIn K true x (.ref p) H Q:=⟨p,xs,rfl,.inr hq,fx,fs,h⟩
theorem rd_notInL (hq:SqL K H p xs)(fx:flatV x=true)(fs:xs.all flatV=true)(h:Q (.bl (!inV x xs)) H):rIn K true x (.ref p) H Q:=⟨p,xs,rfl,.inl hq,fx,fs,h⟩
end
theorem flat_ints (ns:List Int):(ns.map V.int).all flatV=true:=by induction ns with
 | nil=>rfl
 | cons n ns ih=>rw[List.map_cons,List.all_cons,ih];rfl
theorem inV_ints (n:Int)(ns:List Int):inV (.int n) (ns.map V.int)=decide (n∈ns):=by
 unfold inV
 induction ns with
 | nil=>simp
 | cons m ns ih =>
  rw[List.map_cons,List.any_cons,ih]
  have e:eqV (.int m) (.int n)=decide (m=n):=by
   show (m == n)=_
   exact(Bool.eq_iff_iff.mpr (by simp))
  rw[e]
  by_cases h:m=n
  ·subst h;simp
  ·have:n≠m:=fun z=>h z.symm
   simp[h,this]
structure Dk (H:Hp) (p c r:Addr) (m:Nat):Prop where
 ex:∃(cs rs:List Int) (n:Int),H p=some (.lst [.ref c,.int n,.ref r])∧H c=some (.lst (cs.map V.int))∧H r=some (.lst (rs.map V.int))∧c≠p∧c≠r∧r≠p∧1≤cs.length∧cs.length≤63∧rs.length=cs.length∧0≤n∧n≤m
theorem Dk.mono {H:Hp}{p c r:Addr}{m m':Nat}(h:Dk H p c r m)(e:m≤m'):Dk H p c r m':=by
 obtain⟨cs,rs,n,a1,a2,a3,a4,a5,a6,a7,a8,a9,a10,a11⟩:=h.ex
 exact⟨cs,rs,n,a1,a2,a3,a4,a5,a6,a7,a8,a9,a10,by omega⟩
theorem Dk.same {H H':Hp}{p c r:Addr}{m:Nat}(h:Dk H p c r m)(e:Same H H'):Dk H' p c r m:=by
 obtain⟨cs,rs,n,a1,a2,a3,a4,a5,a6,a7,a8,a9,a10,a11⟩:=h.ex
 exact⟨cs,rs,n,e _ _ a1,e _ _ a2,e _ _ a3,a4,a5,a6,a7,a8,a9,a10,a11⟩
theorem Dk.new {H:Hp}{p c r:Addr}{m:Nat}(h:Dk H p c r m) {q:Addr}(n:H q=none):q ∉ [p,c,r]:=by
 obtain⟨cs,rs,_,a1,a2,a3,_⟩:=h.ex
 intro z
 simp only[List.mem_cons,List.not_mem_nil,or_false]at z
 rcases z with rfl |rfl |rfl
 ·rw[a1]at n;cases n
 ·rw[a2]at n;cases n
 ·rw[a3]at n;cases n
theorem Dk.upd {H:Hp}{p c r q:Addr}{m:Nat}{o:HO}(h:Dk H p c r m)(n:q ∉ [p,c,r]):Dk (upd H q o) p c r m:=by
 obtain⟨cs,rs,k,a1,a2,a3,a4,a5,a6,a7,a8,a9,a10,a11⟩:=h.ex
 simp only[List.mem_cons,List.not_mem_nil,or_false,not_or]at n
 exact⟨cs,rs,k,by rw[upd_ne (Ne.symm n.1)];exact a1,by rw[upd_ne (Ne.symm n.2.1)];exact a2,by rw[upd_ne (Ne.symm n.2.2)];exact a3,a4,a5,a6,a7,a8,a9,a10,a11⟩
theorem Dk.tr {H:Hp}{p c r:Addr}{m:Nat}(h:Dk H p c r m) {b:Addr}(hb:b ∈ [p,c,r]):H b≠none:=by
 obtain⟨cs,rs,_,a1,a2,a3,_⟩:=h.ex
 simp only[List.mem_cons,List.not_mem_nil,or_false]at hb
 rcases hb with rfl |rfl |rfl
 ·rw[a1];intro z;cases z
 ·rw[a2];intro z;cases z
 ·rw[a3];intro z;cases z
theorem nin_pr {p c r q:Addr}(h:q ∉ [p,c,r]):q ∉ [p,r]:=by
 simp only[List.mem_cons,List.not_mem_nil,or_false,not_or]at h ⊢
 exact⟨h.1,h.2.2⟩
end L2
open PySem L2
namespace Mt
noncomputable def cruleD:List PyData→Bool
 | [a,b]=>withinD 1 7 b && (strEq "held" a || strEq "applied" a)
 | _=>false
noncomputable def ruleD:PyData→Bool
 | .tuple [a]=>strEq "written" a
 | .tuple ds=>cruleD ds
 | _=>false
noncomputable def needD:PyData→Int
 | .tuple [_,.int k]=>k+1
 | _=>1
theorem rule_shape {d:PyData}(h:ruleD d=true):d = .tuple [.str "written"]∨∃w k,d = .tuple [.str w,.int k]∧(w = "held"∨w = "applied")∧1≤k∧k≤7:=by
 unfold ruleD at h
 split at h
 ·rename_i a
  cases a <;> simp[strEq]at h
  subst h;exact .inl rfl
 ·rename_i ds _
  unfold cruleD at h
  split at h
  ·rename_i a b _
   simp only[Bool.and_eq_true,Bool.or_eq_true]at h
   obtain⟨h1,h2⟩:=h
   cases b <;> simp[withinD]at h1
   cases a <;> simp[strEq]at h2
   exact .inr ⟨_,_,rfl,h2,h1.1,h1.2⟩
  ·cases h
 ·cases h
structure AsOk (h:Int) (as:List Int):Prop where
 nd:as.Nodup
 rg:∀a∈as,0≤a∧a<h
end Mt
namespace L2
theorem ixN_nat {n j:Nat}(h:j<n):ixN n (j:Int)=some j:=by
 unfold ixN
 rw[if_pos (by omega),if_pos (by omega)];simp
theorem cutV_take (xs:List V)(n:Nat):cutV xs none (some (n:Int))=xs.take n:=by
 unfold cutV
 have e:HT.sIx xs.length xs.length (some (n:Int))=min n xs.length:=HT.sIx_nat _ _ n
 rw[e,HT.sIx_none,List.drop_zero,Nat.sub_zero]
 rcases Nat.le_total n xs.length with h |h
 ·rw[Nat.min_eq_left h]
 ·rw[Nat.min_eq_right h,List.take_length,List.take_of_length_le h]
end L2
namespace Mt
noncomputable def lstI (xs:List Int):PyData:=.list (xs.map PyData.int)
noncomputable def LsAll (N:List Addr)(H:Hp):List V→List (List Int)→Prop
 | [],[]=>True
 | v :: vs,xs :: xss=>(∃l,v = .ref l∧l∉N∧H l=some (.lst (xs.map V.int)))∧LsAll N H vs xss
 | _,_=>False
theorem LsAll.drop {N:List Addr}{H:Hp}:∀ {vs:List V}{xss:List (List Int)},LsAll N H vs xss→LsAll [] H vs xss
 | [],[],_=>trivial
 | v :: vs,xs :: xss,⟨⟨l,h1,h2,h3⟩,r⟩=>⟨⟨l,h1,by simp,h3⟩,LsAll.drop r⟩
 | [],_ :: _,h=>h.elim
 | _ :: _,[],h=>h.elim
theorem LsAll.app {N:List Addr}{H:Hp}{ws:List V}{yss:List (List Int)}(h2:LsAll N H ws yss):∀ {vs:List V}{xss:List (List Int)},LsAll N H vs xss→LsAll N H (vs ++ ws) (xss ++ yss)
 | [],[],_=>h2
 | v :: vs,xs :: xss,⟨h,r⟩=>⟨h,LsAll.app h2 r⟩
 | [],_ :: _,h=>h.elim
 | _ :: _,[],h=>h.elim
theorem dtInts {K:PySem.W.Frag}{N:List Addr}{H:Hp}:∀xs:List Int,DtAll K N H (xs.map V.int) (xs.map PyData.int)
 | []=>.nil
 | x :: xs=>.cons (.int x) (dtInts xs)
end Mt
namespace L2
mutual
theorem Dt.sub {K:PySem.W.Frag}{N N':List Addr}{H:Hp}(s:∀b∈N',b∈N):∀ {v:V}{d:PyData},Dt K N H v d→Dt K N' H v d
 | _,_,.non=>.non
 | _,_,.bl b=>.bl b
 | _,_,.int i=>.int i
 | _,_,.str x=>.str x
 | _,_,.tup h n r=>.tup h (fun z=>n (s _ z)) (DtAll.sub s r)
 | _,_,.lst h n r=>.lst h (fun z=>n (s _ z)) (DtAll.sub s r)
 | _,_,.dk0 h n=>.dk0 h (fun z=>n (s _ z))
 | _,_,.dk1 h n r=>.dk1 h (fun z=>n (s _ z)) (Dt.sub s r)
theorem DtAll.sub {K:PySem.W.Frag}{N N':List Addr}{H:Hp}(s:∀b∈N',b∈N):∀ {vs:List V}{ds:List PyData},DtAll K N H vs ds→DtAll K N' H vs ds
 | _,_,.nil=>.nil
 | _,_,.cons h r=>.cons (Dt.sub s h) (DtAll.sub s r)
end
theorem Dt.nil {K:PySem.W.Frag}{N:List Addr}{H:Hp}{v:V}{d:PyData}(h:Dt K N H v d):Dt K [] H v d:=h.sub (fun _ z=>by cases z)
end L2
namespace L2
open PySem
theorem eqv_empty (ds:List PyData):PyData.eqv (.list ds) (.list [])=ds.isEmpty:=by cases ds <;> rfl
theorem dtL {K:PySem.W.Frag}{N:List Addr}{H:Hp}{a:Addr}{xs:List Int}(h:H a=some (.lst (xs.map V.int)))(n:a∉N):Dt K N H (.ref a) (Mt.lstI xs):=.lst (SqL.of h) n (Mt.dtInts xs)
theorem canL:∀xs:List Int,PyData.canLayAll0 (xs.map PyData.int)=true
 | []=>rfl
 | x :: xs=>by simp only[List.map_cons,PyData.canLayAll0,PyData.canLay0,canL xs,Bool.true_and]
theorem depthL:∀xs:List Int,PyData.depthAll (xs.map PyData.int)=0
 | []=>rfl
 | x :: xs=>by simp only[List.map_cons,PyData.depthAll,PyData.depth,depthL xs];rfl
theorem shapedL (xs:List Int):SeqAt.shaped (Mt.lstI xs)=true:=by
 unfold SeqAt.shaped Mt.lstI
 simp only[PyData.canLay0,canL,PyData.depth,depthL];rfl
noncomputable def RuT (H:Hp)(t:Addr):Prop:=H t=some (.tup [.str "written"])∨∃w k,H t=some (.tup [.str w,.int k])∧(w = "held"∨w = "applied")∧1≤k∧k≤7
noncomputable def RuAll (N:List Addr)(H:Hp)(vs:List V):Prop:=∀v∈vs,∃t,v = .ref t∧t∉N∧RuT H t
theorem RuT.ext {N:List Addr}{H H':Hp}{t:Addr}(e:Ext N H H')(n:t∉N)(h:RuT H t):RuT H' t:=by
 rcases h with h | ⟨w,k,h,r⟩
 ·exact .inl (e _ _ h n)
 ·exact .inr ⟨w,k,e _ _ h n,r⟩
theorem RuAll.app {N:List Addr}{H:Hp}{vs ws:List V}(h1:RuAll N H vs)(h2:RuAll N H ws):RuAll N H (vs ++ ws):=fun v hv=>by
 rcases List.mem_append.mp hv with h |h
 ·exact h1 v h
 ·exact h2 v h
theorem RuT.dt {K:PySem.W.Frag}{H:Hp}{t:Addr}(h:RuT H t):∃d,Dt K [] H (.ref t) d∧Mt.ruleD d=true∧1≤Mt.needD d∧Mt.needD d≤8∧∃xs,SqT K H t xs∧(xs ++ [.int 0])[1]? = some (.int (Mt.needD d - 1))∧xs.length≤2:=by
 rcases h with h | ⟨w,k,h,hw,k1,k2⟩
 ·exact⟨.tuple [.str "written"],.tup (SqT.of h) (by simp) (.cons (.str _) .nil),rfl,by decide,by decide,_,SqT.of h,rfl,by simp⟩
 ·refine⟨.tuple [.str w,.int k],.tup (SqT.of h) (by simp) (.cons (.str _) (.cons (.int _) .nil)),?_,by show 1≤k+1;omega,by show k+1≤8;omega,_,SqT.of h,by simp[Mt.needD],by simp⟩
  simp only[Mt.ruleD,Mt.cruleD,Mt.withinD,Mt.strEq]
  rcases hw with rfl |rfl <;> simp[k1,k2]
end L2
namespace L2
open PySem PySem.Spec PyProof.Rows PySem.W
noncomputable def rIsiT (K:Frag):List V→Hp→VK→Prop:=fun xs H Q=>∃(x:V)(tp:Addr)(tv:Value)(cs:List Addr)(b:Bool),xs = [x,.ref tp]∧TyX K H x tv∧SqT K H tp (cs.map V.ref)∧kitAny K tv (cs.map Value.ref)=some b∧Q (.bl b) H
theorem refs_vals:∀ {cs:List Addr}{us:List Value},Vals (cs.map V.ref) us→us=cs.map Value.ref
 | [],_,.nil=>rfl
 | c :: cs,u :: us,.cons r t=>by
  have e:u = .ref c:=r
  rw[e,refs_vals t,List.map_cons]
section
variable {X:Cx}
theorem cn_isiT:CallR X (.builtin "isinstance") (rIsiT X.K):=by
 intro pins s σ H xs us Q I r h
 obtain⟨x,tp,tv,cs,b,rfl,ty,hq,e,q⟩:=h
 obtain⟨u,w,rfl,ru,rw_⟩:=vals2 r
 cases rw_
 obtain⟨its,rv,⟨o,e1,e2,n,e3⟩,_⟩:=I.tuple hq
 obtain rfl:=refs_vals rv
 obtain⟨oc,od,odt,osl⟩:=o
 dsimp only at e2 e3
 subst e2 e3
 have fin:∀tk,EP X pins σ Q (.bool b) { s with toks:=tk }:=fun tk=>⟨.bl b,H,I.tok tk,rfl,q⟩
 cases ty with
 | std ty =>
  cases ty with
  | non=>cases ru;exact kia_tup kitx_none I.kIn True.intro e1 e (fun z=>nomatch z) fin
  | bl y=>cases ru;exact kia_tup kitx_bool I.kIn True.intro e1 e (fun z=>nomatch z) fin
  | int i=>obtain⟨t,rfl⟩:=ru;exact kia_tup kitx_int I.kIn True.intro e1 e (fun z=>nomatch z) fin
  | str y=>obtain⟨t,rfl⟩:=ru;exact kia_tup kitx_str I.kIn True.intro e1 e (fun z=>nomatch z) fin
  | lst hq =>
   cases ru
   obtain⟨its,_,⟨o,nn,f1,f2,_⟩,_⟩:=I.list hq
   exact kia_tup kitx_list I.kIn ⟨o,f1,f2⟩ e1 e (fun z=>nomatch z) fin
  | tup hq =>
   cases ru
   obtain⟨its,_,⟨o,f1,f2,_⟩,_⟩:=I.tuple hq
   exact kia_tup kitx_tuple I.kIn ⟨o,f1,f2⟩ e1 e (fun z=>nomatch z) fin
  | @dk a kvs hq =>
   cases ru
   obtain⟨_,_,vs,_,o,es,ep,h1,h2,_⟩:=(show ObjOk X.prog X.w H s.heap a (.dK kvs)from I.hok a _ hq)
   exact kia_tup kitx_dict I.kIn ⟨o,h1,h2.1⟩ e1 e (fun z=>nomatch z) fin
 | @exc a C dx hq g =>
  cases ru
  have z:ExcIs a (.ref C) dx s.heap:=(I.hok a _ hq).1
  exact kia_tup (kitx_exc g) I.kIn z e1 e (fun z=>nomatch z) fin
end
section
variable {X:Cx}{e:Expr}{es:List Expr}{t tk:TA}{pos p:Pos}{k:Nat}{f:Addr}{fd:FuncData}{ps ks:List Str}{sp:Sp}{XR:St→XK}{x:Str}{kws:List Keyword}
end
theorem kitAny0 {K:Frag}{t:Value}:kitAny K t []=some false:=rfl
theorem kitAnyF {K:Frag}{t c:Value}{r:List Value}(h:kitOne K t c=some false)(h2:kitAny K t r=some false):kitAny K t (c :: r)=some false:=by
 unfold kitAny;rw[h];exact h2
theorem rd_isiT {K:Frag}{H:Hp}{Q:VK}{x:V}{tp:Addr}{tv:Value}{cs:List Addr}{b:Bool}(ty:TyX K H x tv)(hq:SqT K H tp (cs.map V.ref))(e:kitAny K tv (cs.map Value.ref)=some b)(h:Q (.bl b) H):rIsiT K [x,.ref tp] H Q:=⟨x,tp,tv,cs,b,rfl,ty,hq,e,h⟩
end L2
namespace L2
open PySem
theorem Ext.up3 {p c r:Addr}{H H':Hp}(e:Ext [p,r] H H'):Ext [p,c,r] H H':=e.mono fun b hb=>by
 simp only[List.mem_cons,List.not_mem_nil,or_false]at hb ⊢
 rcases hb with h |h
 ·exact .inl h
 ·exact .inr (.inr h)
end L2
namespace Mt
open PySem
mutual
noncomputable def tupB:PyData→Bool
 | .none=>true
 | .bool _=>true
 | .int _=>true
 | .str _=>true
 | .tuple es=>tupBAll es
 | _=>false
noncomputable def tupBAll:List PyData→Bool
 | []=>true
 | e :: es=>tupB e && tupBAll es
end
end Mt
namespace Mt
theorem AsOk.take {h:Int}{as:List Int}(o:AsOk h as)(n:Nat):AsOk h (as.take n):=⟨o.nd.sublist (List.take_sublist _ _),fun a ha=>o.rg a (List.mem_of_mem_take ha)⟩
end Mt
namespace L2
open PySem PySem.Spec PyProof.Rows
section
variable {X:Cx}{es:List Expr}{t:TA}{pos p:Pos}{K:PySem.W.Frag}{k v a b tg:Expr}{tk tv:TE}{ta:TA}{x:Str}
noncomputable def rReprD (K:PySem.W.Frag):TR:=fun xs H Q=>∃N x d,xs = [x]∧Dt K N H x d∧(sysModules∈N∨d.hasDict=false∨d = .dict [])∧d.showable=true∧d.depth≤30∧d.shown.length≤sizeLine∧Q (.str d.shown) H
theorem cn_reprD {k:Nat}(hr:Room k X.A):CallR X (.builtin "repr") (rReprD X.K):=fun pins s σ H xs us Q I r ⟨N,x,d,h0,h1,h2,h3,h4,h5,h6⟩=>by
 rcases h2 with h2 |h2 |h2
 ·exact call_reprD (N:=N) hr pins s σ H xs us Q I r ⟨x,d,h0,h1,.inl h2,h3,h4,h5,h6⟩
 ·exact call_reprD (N:=N) hr pins s σ H xs us Q I r ⟨x,d,h0,h1,.inr h2,h3,h4,h5,h6⟩
 ·exact call_repr (N:=N) hr pins s σ H xs us Q I r ⟨x,d,h0,h1,⟨h3,h4,h5,.inr h2⟩,h6⟩
end
section
variable {σ:St}{H:Hp}{Q:VK}{K:PySem.W.Frag}
theorem rd_reprD {N:List Addr}{x:V}{d:PyData}(hd:Dt K N H x d)(hn:sysModules∈N∨d.hasDict=false∨d = .dict [])(h1:d.showable=true)(h2:d.depth≤30)(h3:d.shown.length≤sizeLine)(h:Q (.str d.shown) H):rReprD K [x] H Q:=⟨N,x,d,rfl,hd,hn,h1,h2,h3,h⟩
end
end L2
namespace L2
open PySem
end L2
namespace Mt
open PySem
end Mt
namespace Mt
open PySem L2
theorem rule_seq {K:PySem.W.Frag}{N:List Addr}{H:Hp}{x:V}{d:PyData}(hd:Dt K N H x d)(h:ruleD d=true):∃p xs,x = .ref p∧SqT K H p xs∧(xs ++ [.int 0])[1]? = some (.int (needD d - 1))∧xs.length≤2:=by
 rcases rule_shape h with rfl | ⟨w,n,rfl,hv,h1,h2⟩
 ·cases hd with
  | tup hq hn hr=>cases hr with
   | cons q1 hr=>cases hr;exact⟨_,_,rfl,hq,rfl,by simp⟩
 ·cases hd with
  | tup hq hn hr=>cases hr with
   | cons q1 hr=>cases hr with
    | cons q2 hr=>cases hr;cases q2;exact⟨_,_,rfl,hq,by simp[needD],by simp⟩
end Mt
namespace L2
open PySem Mt
theorem RuT.data {K:PySem.W.Frag}{M:List Addr}{H:Hp}{t:Addr}(h:RuT H t):∃(w:Str)(xs:List V)(ds:List PyData),H t=some (.tup (.str w :: xs))∧DtAll K M H (.str w :: xs) (.str w :: ds)∧xs.length≤1∧(∀d∈PyData.str w :: ds,Itm 140 0 d)∧(w = "written"∨w = "held"∨w = "applied"):=by
 have ws:∀w:Str,(w = "written"∨w = "held"∨w = "applied")→Itm 140 0 (.str w):=by
  rintro w (rfl |rfl |rfl) <;> exact itm_str (by unfold cpsOk;decide +kernel) (by decide +kernel)
 rcases h with h | ⟨w,k,h,hw,k1,k2⟩
 ·refine⟨"written",[],[],h,.cons (.str _) .nil,by simp,fun d hd=>?_,.inl rfl⟩
  simp only[List.mem_cons,List.not_mem_nil,or_false]at hd
  subst hd;exact ws _ (.inl rfl)
 ·refine⟨w,[.int k],[.int k],h,.cons (.str _) (.cons (.int _) .nil),by simp,fun d hd=>?_,.inr hw⟩
  simp only[List.mem_cons,List.not_mem_nil,or_false]at hd
  rcases hd with rfl |rfl
  ·exact ws _ (.inr hw)
  ·exact itm_int (by omega)
end L2
namespace L2
open PySem PySem.Spec PyProof.Rows PySem.W
theorem ints_are:∀ {ns:List Int}{us:List Value},Vals (ns.map V.int) us→IntsAre us ns
 | [],_,.nil=>.nil
 | n :: ns,u :: us,.cons r t=>by
  obtain⟨tk,rfl⟩:=r
  exact .cons n tk (ints_are t)
theorem ints_vals:∀ {ns:List Int}{us:List Value},IntsAre us ns→Vals (ns.map V.int) us
 | _,_,.nil=>.nil
 | _,_,.cons _ _ h=>.cons ⟨_,rfl⟩ (ints_vals h)
noncomputable def rSort (K:Frag):TR:=fun xs H Q=>∃(p:Addr)(ns:List Int),xs = [.ref p]∧SqL K H p (ns.map V.int)∧ns.length<64∧∀(l:Addr)(ns':List Int),H l=none→ns'.Perm ns→ns'.Pairwise (· ≤ ·)→Q (.ref l) (upd H l (.lst (ns'.map V.int)))
section
variable {X:Cx}{e:Expr}{es:List Expr}{te:TE}{t:TA}{p:Pos}
theorem cn_sort:CallR X (.builtin "sorted") (rSort X.K):=by
 intro pins s σ H xs us Q I r h
 obtain⟨p,ns,rfl,hq,hl,q⟩:=h
 obtain⟨u,rfl,ru⟩:=vals1 r
 cases ru
 obtain⟨its,rv,pl,hz⟩:=I.list hq
 have hlen:=rv.length
 rw[List.length_map]at hlen
 refine sorted_ints pl.isList (ints_are rv) (by omega) fun out ns' hI hp hs=>?_
 obtain⟨n,ho⟩:=sortedAll_at s.heap its out
 have hv:=ints_vals hI
 have hf:H (s.heap.objs.size+1)=none:=I.hok.fresh (Nat.le_succ _)
 have hpl:=hp.length_eq
 refine⟨.ref (s.heap.objs.size+1),_,I.laid (t':=s.toks) (o:=.lst (ns'.map V.int)) (fun b o e=>sortedAll_old e) (Nat.le_succ _) ⟨by rw[List.length_map,sizeLine_eq];omega,out.toList,n,hv,by rw[Array.toArray_toList];exact ho⟩,rfl,q _ ns' hf hp hs⟩
end
noncomputable def RvAt (h:Heap)(a t:Addr)(i:Int):Prop:=∃o,h.get? a=some o∧o.cls = .type "reversed"∧o.data = .fields #[.ref t,rawInt i]
section
variable {prog:Program}{w:World}{A:Around}{E:Value→Shared→Prop}{s:Shared}
theorem RvAt.typeIs {a t:Addr}{i:Int}(x:RvAt s.heap a t i):s.TypeIs (.ref a) "reversed":=let ⟨o,ho,hc,_⟩:=x; ⟨o,ho,hc⟩
end
section
variable {prog:Program}{w:World}{A:Around}{E:Value→Shared→Prop}{s:Shared}
end
section
variable {prog:Program}{w:World}{A:Around}{E:Value→Shared→Prop}{s:Shared}
end
section
variable {X:Cx}{a:Expr}{ta:TA}{p p2 pos pos2:Pos}
end
section
variable {K:Frag}{σ:St}{H:Hp}{Q:VK}{p:Addr}
theorem rd_sort {ns:List Int}(hq:SqL K H p (ns.map V.int))(hl:ns.length<64)(h:∀(l:Addr)(ns':List Int),H l=none→ns'.Perm ns→ns'.Pairwise (· ≤ ·)→Q (.ref l) (upd H l (.lst (ns'.map V.int)))):rSort K [.ref p] H Q:=⟨p,ns,rfl,hq,hl,h⟩
end
end L2
namespace L2
open PySem PySem.Spec PyProof.Rows
end L2
namespace L2
open PySem PySem.Spec PyProof.Rows PySem.W
section
variable {σ:St}{H:Hp}
end
noncomputable def pairD (p:Int×Int):PyData:=.tuple [.int p.1,.int p.2]
theorem dt_pair {K:Frag}{N:List Addr}{H:Hp}{v:V}{p:Int×Int}(h:Dt K N H v (pairD p)):∃q,v = .ref q∧SqT K H q [.int p.1,.int p.2]∧q∉N:=by
 unfold pairD at h
 cases h with
 | tup h n r =>
  cases r with
  | cons h1 r =>
   cases h1
   cases r with
   | cons h2 r =>
    cases h2
    cases r
    exact⟨_,rfl,h,n⟩
theorem dt_pairI {K:Frag}{N:List Addr}{H:Hp}{q:Addr}{a b:Int}(h:SqT K H q [.int a,.int b])(n:q∉N):Dt K N H (.ref q) (pairD (a,b)):=.tup h n (.cons (.int a) (.cons (.int b) .nil))
noncomputable def brokL (room en:Int)(ps:List (Int×Int)):List Int:=(ps.filter fun p=>decide (p.2+room<en)).map (·.1)
noncomputable def leftL (room en:Int)(ps:List (Int×Int)):List Int:=(ps.filter fun p=>decide (p.2+room ≥ en)).map (·.2)
structure IsCut (room en app:Int) (ps:List (Int×Int)) (m:Int) (ns:List Int):Prop where
 mem:m∈leftL room en ps ++ [app]
 le:∀a∈leftL room en ps ++ [app],m≤a
 perm:ns.Perm (brokL room en ps)
 srt:ns.Pairwise (· ≤ ·)
theorem fm_congr {α β:Type}{f g:α→Option β}:∀ {l:List α},(∀k∈l,f k=g k)→l.filterMap f=l.filterMap g
 | [],_=>rfl
 | x :: l,h=>by rw[List.filterMap_cons,List.filterMap_cons,h x (.head _),fm_congr fun k hk=>h k (.tail _ hk)]
theorem vals_rev {xs:List V}{us:List Value}(r:Vals xs us):Vals xs.reverse us.reverse:=by
 induction r with
 | nil=>exact .nil
 | cons r1 _ ih=>rw[List.reverse_cons,List.reverse_cons];exact ih.append (.cons r1 .nil)
theorem qs_dput {X:Cx}{o i value:Expr}{pos pos':Pos}{td ty tv:TE}(hu:X.A.units+1<cLine)(ho:PE X o td)(hi:PE X i ty)(hv:PE X value tv)(hs:swapsWith value (some (.Subscript o i pos')) pos.line X.env=pure false):PSw X (.Assign [.Subscript o i pos'] value pos) (sDPut td ty tv):=⟨ps_dput hu ho hi hv hs⟩
section
variable {σ:St}{H:Hp}{Q:VK}{td ty tv:TE}{D:Ends}
theorem rd_dget (h:td σ H fun x H1=>ty σ H1 fun y H2=>∃a v,x = .ref a∧DGet H2 a y (some v)∧Q v H2):tDGet td ty σ H Q:=h
theorem rd_dput (h:tv σ H fun v H1=>td σ H1 fun x H2=>ty σ H2 fun y H3=>∃a H4,x = .ref a∧DPut H3 a y v H4∧D.nx σ H4):sDPut td ty tv D σ H:=h
end
noncomputable def FK (fs:List (Int×Int)):List (Key×V):=fs.map fun p=>(.inl p.1,.int p.2)
noncomputable def lookI:List (Int×Int)→Int→Option Int
 | [],_=>none
 | p :: r,k=>if p.1=k then some p.2 else lookI r k
theorem val_FK (k:Int):∀fs:List (Int×Int),valV (FK fs) (.inl k)=(lookI fs k).map V.int
 | []=>rfl
 | p :: r=>by
  unfold FK lookI
  rw[List.map_cons]
  by_cases h:p.1=k
  ·rw[valV_pos (by simpa using h),if_pos h];rfl
  ·rw[valV_neg (by simpa using h),if_neg h];exact val_FK k r
end L2
namespace Mt
open PySem L2
noncomputable def lineD (m:Int):PyData→Option (Int×Int×Int)
 | .tuple [.int l,.int h,.int p,.int f,.bool _]=>if (0≤l∧l≤1000000000)∧l % m=h∧(0≤p∧p≤1000000000)∧(0≤f∧f≤1000000) then some (l,p,f) else none
 | _=>none
noncomputable def stepF (m:Int)(fs:List (Int×Int))(d:PyData):Option (List (Int×Int)) :=
 match lineD m d with
 | none=>none
 | some (l,p,f)=>match lookI fs l,lookI fs p with
  | none,some g=>if p<l∧g≤f then some (fs ++ [(l,f)]) else none
  | _,_=>none
noncomputable def runF (m:Int):List (Int×Int)→List PyData→Option (List (Int×Int))
 | fs,[]=>some fs
 | fs,d :: ds=>(stepF m fs d).bind fun gs=>runF m gs ds
noncomputable def firstD:PyData→Bool
 | .tuple [.int a,.int b,.none,.int c,.bool false]=>decide (a=0) && decide (b=0) && decide (c=0)
 | _=>false
noncomputable def rightD (m:Int):PyData→Bool
 | .list (d :: ds)=>firstD d && (runF m [(0,0)] ds).isSome
 | _=>false
section
variable {m:Int}{d0 d1 d2 d3 d4:PyData}
end
end Mt
namespace L2
open PySem PySem.Spec PyProof.Rows
end L2
namespace PySem
noncomputable def PyData.width:PyData→Nat
 | .list ds=>ds.length
 | _=>0
end PySem
namespace Mt
open PySem L2
structure Ln where
 l:Int
 h:Int
 p:Option Int
 f:Int
 b:Bool
noncomputable def optD:Option Int→PyData
 | none=>.none
 | some i=>.int i
noncomputable def lnD (x:Ln):PyData:=.tuple [.int x.l,.int x.h,optD x.p,.int x.f,.bool x.b]
noncomputable def ln0:Ln:=⟨0,0,none,0,false⟩
structure LnOk (m:Int) (n:Nat) (lns:List Ln):Prop where
 ex:∃rest fs,lns=ln0 :: rest∧runF m [(0,0)] (rest.map lnD)=some fs∧(∀x∈lns,lookI fs x.l=some x.f)∧∀k,(∀x∈lns,x.l≠k)→lookI fs k=none
 bd:∀x∈lns,0≤x.l∧x.l≤10 * n∧0≤x.h∧x.h≤7∧0≤x.f∧x.f≤1000000∧∀q,x.p=some q→0≤q∧q≤10 * n
 len:lns.length≤n+1
 ge:1≤lns.length
theorem LnOk.mono {m:Int}{n n':Nat}{lns:List Ln}(o:LnOk m n lns)(h:n≤n'):LnOk m n' lns:=⟨o.ex,fun x hx=>by
 obtain⟨c1,c2,c3,c4,c5,c6,c7⟩:=o.bd x hx
 exact⟨c1,by omega,c3,c4,c5,c6,fun q hq=>by have:=c7 q hq;omega⟩,Nat.le_trans o.len (by omega),o.ge⟩
theorem LnOk.right {m:Int}{n:Nat}{lns:List Ln}(o:LnOk m n lns):rightD m (.list (lns.map lnD))=true:=by
 obtain⟨rest,fs,e,hr,_⟩:=o.ex
 subst e
 simp only[List.map_cons,rightD,hr,Option.isSome_some,Bool.and_true]
 rfl
end Mt
namespace L2
open PySem Mt
noncomputable def OkW (K:PySem.W.Frag)(M:List Addr)(H:Hp)(v:V):Prop:=∃d,Dt K M H v d∧((∃w k,Itm w k d∧w≤200000∧k≤30)∨d = .dict [])∧d.width<500
theorem OkW.ext {K:PySem.W.Frag}{M:List Addr}{H H':Hp}{v:V}(h:OkW K M H v)(e:Ext M H H'):OkW K M H' v:=by
 obtain⟨d,h1,h2⟩:=h
 exact⟨d,h1.ext e,h2⟩
structure BC (K:PySem.W.Frag) (M:List Addr) (H:Hp) (l:Addr) (vs:List V) (D:List PyData):Prop where
 g:H l=some (.lst vs)
 n:l∉M
 d:DtAll K M H vs D
theorem BC.ext {K:PySem.W.Frag}{M:List Addr}{H H':Hp}{l:Addr}{vs:List V}{D:List PyData}(b:BC K M H l vs D)(e:Ext M H H'):BC K M H' l vs D:=⟨e _ _ b.g b.n,b.n,b.d.ext e⟩
structure BX (K:PySem.W.Frag) (st c r:Addr) (m:Nat) (l:Addr) (vs:List V) (D:List PyData) (t t2:Addr) (xs ys:List V) (ds es:List PyData) (L:List V) (H:Hp):Prop where
 S:Dk H st c r m
 B:BC K [st,c,r] H l vs D
 ok:∀u∈L,OkW K [st,c,r] H u
 T:SqT K H t xs
 nT:t ∉ [st,c,r]
 dT:DtAll K [st,c,r] H xs ds
 T2:SqT K H t2 ys
 nT2:t2 ∉ [st,c,r]
 dT2:DtAll K [st,c,r] H ys es
section
variable {K:PySem.W.Frag}{st c r:Addr}{m m':Nat}{l:Addr}{vs:List V}{D:List PyData}{t t2:Addr}{xs ys:List V}{ds es:List PyData}{L:List V}{H H':Hp}{v:V}
theorem BX.take (b:BX K st c r m l vs D t t2 xs ys ds es L H)(x:Ext [st,r] H H')(S':Dk H' st c r m'):BX K st c r m' l vs D t t2 xs ys ds es L H' :=
 ⟨S',b.B.ext x.up3,fun u hu=>(b.ok u hu).ext x.up3,x.tup b.T (nin_pr b.nT),b.nT,b.dT.ext x.up3,x.tup b.T2 (nin_pr b.nT2),b.nT2,b.dT2.ext x.up3⟩
end
end L2
namespace Mt
open PySem L2
end Mt
namespace L2
open PySem PySem.Spec PyProof.Rows PySem.W
section
variable {X:Cx}{e f o i value:Expr}{es:List Expr}{ta td ty tx tv:TE}{t:TA}{pos pos' p apos cpos tpos:Pos}{CX:CXT}{k:Nat}{fa C:Addr}{fd:FuncData}{ps:List Str}{sp:Sp}{dvs:List V}{ds:List Value}{E:XK}{x m n:Str}
theorem qs_fld (ha:PE X o ta)(hv:PE X value tv)(hs:swapsWith value (some (.Attribute o n pos')) pos.line X.env=pure false):PSw X (.Assign [.Attribute o n pos'] value pos) (sFld X.K ta tv n):=⟨ps_fld ha hv hs⟩
end
section
variable {σ:St}{H:Hp}{Q:VK}{ta td ty tx tv:TE}{t:TA}{D:Ends}{K:Frag}{C p dx:Addr}{fs:List (Str×V)}{n m:Str}{v:V}{sp:Sp}{dvs:List V}{E:XK}
theorem rd_fld (h:ta σ H fun x H1=>∃a C dx fs v,x = .ref a∧H1 a=some (.ins C dx fs)∧Cls K C∧NoAttr K C n∧fs.lookup n=some v∧Q v H1):tFld K ta n σ H Q:=h
theorem rd_sfld (h:tv σ H fun y H1=>ta σ H1 fun x H2=>∃a C dx fs,x = .ref a∧H2 a=some (.ins C dx fs)∧Cls K C∧NoAttr K C n∧fs.length<1000∧D.nx σ (upd H2 a (.ins C dx (putF n y fs)))):sFld K ta tv n D σ H:=h
theorem rd_meth (h:ta σ H fun x H1=>∃a dx fs,x = .ref a∧H1 a=some (.ins C dx fs)∧fs.lookup m=none∧t σ H1 fun vs H2=>sp (x :: (vs ++ dvs)) H2 Q E):tMeth C m sp dvs E ta t σ H Q:=h
theorem rd_make (h:t σ H fun vs H1=>∀x dx,H1 x=none→H1 dx=none→dx≠x→sp (.ref x :: (vs ++ dvs)) (upd (upd H1 dx (.own x)) x (.ins C dx [])) (fun v H2=>v = .non∧Q (.ref x) H2) E):tMake C sp dvs E t σ H Q:=h
theorem rd_dget2 (h:td σ H fun x H1=>∃a,x = .ref a∧IsD H1 a∧ty σ H1 fun y H2=>tx σ H2 fun z H3=>∃o,DGet H3 a y o∧Q (o.getD z) H3):tDGet2 td ty tx σ H Q:=h
end
section
variable {X:Cx}
end
theorem dl_keys:typeLookup (.type "tuple") "keys" = pure none:=by rw[typeLookup_type,builtinLookup_eq_fast];kernel_rfl
set_option maxRecDepth 8000 in
theorem attrQ_tuple {prog:Program}{w:World}{A:Around}{E:Value→Shared→Prop}{s:Shared}{a:Addr}{o:Obj}{xs:Array Value}{k:Nat}{Q:Option Value→Shared→Prop}
  (hx:s.heap.get? a=some o) (hc:o.cls = .type "tuple") (hdat:o.data = .seq xs k) (hd:o.dict=none) (hA:A.handled=none)
  (h:∀h' tk,(∀b u,s.heap.get? b=some u→h'.get? b=some u)→Q none { s with heap:=h',toks:=tk }):wpAny (model prog w) A (getAttr? (.ref a) "keys") Q E s:=by
 obtain⟨c,dct,dat,sl⟩:=o
 simp only at hc hdat hd
 subst hc hdat hd
 obtain⟨hp,g,d,tk,os⟩:=s
 have hT:∀tk',(⟨hp,g,d,tk',os⟩:Shared).TypeIs (.ref a) "tuple":=fun _=>⟨_,hx,rfl⟩
 have f1:=sub_AttributeError
 have f3:=F.slot_tuple_getattribute.lookup
 have f4:=F.slot_tuple_getattribute.bind (.ref a)
 have f5:=am_tuple_getattr_none
 unfold getAttr? getAttrBy? getAttrBy
 repeat (any_goals (first |assumption |exact hT _ | ((with_reducible show wpAny _ _ (call (Value.builtin "tuple.__getattribute__") _ _) _ _ _);refine call_meets F.slot_tuple_getattribute (hT _) am_entry_tuple_getattribute (F.args_tuple_getattribute_2 _ _) (meets_getattribute_miss_tuple a xs k sl "keys" _ dl_keys (by decide +kernel)) ⟨hx,hA,fun h' tk' e hx'=>?_⟩) |wp_step))
 obtain⟨t',u',he⟩:=hx'.there
 show wpAny _ _ (getattributeRaised _ _ _ _ _ _ _) _ _ _
 unfold getattributeRaised
 repeat (any_goals (first |assumption |wp_step))
 exact h _ _ hx'.keeps
noncomputable def PVH (K:Frag)(H:Hp)(ws:List V)(fs:List (Key×V)):Prop:=Paired (fun (v:V)(q:Key×V)=>∃a,v = .ref a∧SqT K H a [kV q.1,q.2]) ws fs
theorem pe_fldK {X:Cx}{K:Frag}{e:Expr}{ta:TE}{f:Str}{pos:Pos}(hK:X.K=K)(he:PE X e ta)(hb:attributeBase e f X.env (eval e X.env)=eval e X.env):PE X (.Attribute e f pos) (tFld K ta f):=hK ▸ pe_fld he hb
theorem binds_peek1 {K:Frag}{fd:FuncData}{p1 p2:Str}{v:Value}(h:∀(u:Value) S,peek K S (bindArgs fd ⟨[u],[]⟩)=some [(p1,u),(p2,v)]):Binds K fd [p1,p2] [v]:=fun s us X hl=>by
 match us,hl with
 | [u],_=>exact kp_binds X (h u)
 | [],hl=>simp at hl
 | _ :: _ :: _,hl=>simp at hl
theorem SqT.updL {K:Frag}{H:Hp}{b acc:Addr}{ys vs ws:List V}(h:SqT K H b ys)(ha:H acc=some (.lst vs)):SqT K (upd H acc (.lst ws)) b ys:=by
 rcases h with h |h
 ·refine .inl ?_
  rcases h with h | ⟨o,h⟩
  ·exact .inl (by rw[upd_ne (ne_of h ha (by intro z;cases z))];exact h)
  ·exact .inr ⟨o,by rw[upd_ne (ne_of h ha (by intro z;cases z))];exact h⟩
 ·exact .inr h
theorem lookI_mem {k v:Int}:∀ {fs:List (Int×Int)},lookI fs k=some v→(k,v)∈fs
 | [],h=>by cases h
 | p :: r,h=>by
  unfold lookI at h
  by_cases e:p.1=k
  ·rw[if_pos e]at h;cases h;subst e;exact List.mem_cons_self ..
  ·rw[if_neg e]at h;exact List.mem_cons_of_mem _ (lookI_mem h)
theorem lookI_of {k v:Int}:∀ {fs:List (Int×Int)},(fs.map (·.1)).Nodup→(k,v)∈fs→lookI fs k=some v
 | [],_,h=>by cases h
 | p :: r,nd,h=>by
  unfold lookI
  rw[List.map_cons,List.nodup_cons]at nd
  rcases List.mem_cons.mp h with e |h
  ·subst e;rw[if_pos rfl]
  ·have ne:p.1≠k:=fun e=>nd.1 (by rw[e];exact List.mem_map_of_mem (f:=(·.1)) h)
   rw[if_neg ne];exact lookI_of nd.2 h
theorem lookI_none {k:Int}:∀ {fs:List (Int×Int)},lookI fs k=none↔k∉fs.map (·.1)
 | []=>by simp[lookI]
 | p :: r=>by
  unfold lookI
  by_cases e:p.1=k
  ·rw[if_pos e];simp[e]
  ·rw[if_neg e,lookI_none];simp[Ne.symm e]
theorem dget_FR {H:Hp}{a:Addr}{fs:List (Int×Int)}(h:Rd H a (.dK (FK fs)))(k:Int):DGet H a (.int k) ((lookI fs k).map V.int):=by
 rw[← val_FK];exact .inl ⟨_,.inl k,h,rfl,rfl⟩
noncomputable def slF (room:Int)(d:Addr):List (Str×V):=putF "places" (.ref d) (putF "room" (.int room) [])
structure SlAt (C:Addr) (H:Hp) (p d:Addr) (room:Int) (qs:List (Int×Int)):Prop where
 ob:∃dx,H p=some (.ins C dx (slF room d))
 dc:H d=some (.dK (FK qs))
 nd:(qs.map (·.1)).Nodup
structure IsHeld (qs ps:List (Int×Int)):Prop where
 perm:ps.Perm qs
 srt:(ps.map (·.1)).Pairwise (· ≤ ·)
theorem srt_uniq {a b:List Int}(p:a.Perm b)(h1:a.Pairwise (· ≤ ·))(h2:b.Pairwise (· ≤ ·)):a=b :=
 List.Perm.eq_of_pairwise (fun _ _ _ _ h1 h2=>Int.le_antisymm h1 h2) h1 h2 p
noncomputable def keptL (room en:Int)(qs:List (Int×Int)):List (Int×Int):=qs.filter fun x=>decide (x.2+room ≥ en)
theorem left_kept (room en:Int)(qs:List (Int×Int)):leftL room en qs=(keptL room en qs).map (·.2):=rfl
theorem kept_kept (room en:Int)(qs:List (Int×Int)):keptL room en (keptL room en qs)=keptL room en qs:=by
 unfold keptL;rw[List.filter_filter];simp
theorem brok_kept (room en:Int)(qs:List (Int×Int)):brokL room en (keptL room en qs) = []:=by
 unfold brokL keptL
 rw[List.filter_filter,List.map_eq_nil_iff,List.filter_eq_nil_iff]
 intro x _
 simp
theorem IsCut.again {room en app:Int}{qs:List (Int×Int)}{m m':Int}{ns ns':List Int}(h:IsCut room en app qs m ns)(h':IsCut room en app (keptL room en qs) m' ns'):m'=m∧ns' = []:=by
 have e:leftL room en (keptL room en qs)=leftL room en qs:=by rw[left_kept,left_kept,kept_kept]
 refine⟨Int.le_antisymm (h'.le _ (by rw[e];exact h.mem)) (h.le _ (by rw[← e];exact h'.mem)),?_⟩
 have:=h'.perm
 rw[brok_kept]at this
 exact List.perm_nil.mp this
theorem pvh_dt {K:Frag}{N:List Addr}{H:Hp}:∀ {ws:List V}{ps:List (Int×Int)},PVH K H ws (FK ps)→N = []→DtAll K N H ws (ps.map pairD)
 | [],[],.nil,_=>.nil
 | _ :: ws,p :: ps,.cons h r,hN=>by
  obtain⟨a,rfl,hq⟩:=h
  exact .cons (dt_pairI (a:=p.1) (b:=p.2) hq (by rw[hN];simp)) (pvh_dt r hN)
theorem PVH.same {K:Frag}{H H':Hp}{ws:List V}{fs:List (Key×V)}(h:PVH K H ws fs)(s:Same H H'):PVH K H' ws fs:=by
 unfold PVH at h ⊢
 exact Paired.mapP h fun _ _ ⟨a,e,q⟩=>⟨a,e,s.tupS q⟩
theorem PVH.snoc {K:Frag}{H:Hp}{ws:List V}{fs:List (Key×V)}(h:PVH K H ws fs) {a:Addr}{q:Key×V}(hq:SqT K H a [kV q.1,q.2]):PVH K H (ws ++ [.ref a]) (fs ++ [q]):=by
 unfold PVH at h ⊢
 induction h with
 | nil=>exact .cons ⟨a,rfl,hq⟩ .nil
 | cons x _ ih=>exact .cons x ih
structure Jv (C:Addr) (H:Hp) (st c r sp d lh:Addr) (room en app:Int) (many:Nat) (qs:List (Int×Int)) (hs:List Int) (n i:Nat):Prop where
 dk:Dk H st c r n
 sl:SlAt C H sp d room qs
 hl:H lh=some (.lst (hs.map V.int))
 len:hs.length=many
 a0:0≤app
 a1:app≤en
 e1:en≤400
 hb:∀h∈hs,0≤h∧h≤en
 kb:∀k v,lookI qs k=some v→0≤k∧hs[k.toNat]? = some v
 ql:qs.length≤i
section
variable {C:Addr}{H H':Hp}{st c r sp d lh:Addr}{room en app:Int}{many:Nat}{qs:List (Int×Int)}{hs:List Int}{n n' i:Nat}
theorem Jv.more (J:Jv C H st c r sp d lh room en app many qs hs n i) {en':Int}(h1:en≤en')(h2:en'≤400):Jv C H st c r sp d lh room en' app many qs hs n i :=
 { J with a1:=by have:=J.a1;omega,e1:=h2,hb:=fun h m=>by have:=J.hb h m;omega }
theorem Jv.mono (J:Jv C H st c r sp d lh room en app many qs hs n i) {i':Nat}(h:n≤n')(hi:i≤i'):Jv C H st c r sp d lh room en app many qs hs n' i' :=
 { J with dk:=J.dk.mono h,ql:=by have:=J.ql;omega }
end
inductive KOk {α:Type}(n:Nat) (P:α→Prop):KasT α→Prop
 | ret {a:α}(h:P a):KOk n P (.ret a)
 | ask {i j:Nat}{k:Bool→KasT α}(hi:i<n) (hj:j<n) (h:∀b,KOk n P (k b)):KOk n P (.ask i j k)
theorem KOk.bind {α β:Type}{n:Nat}{P:α→Prop}{R:β→Prop}{f:α→KasT β}{t:KasT α}(h:KOk n P t)(hf:∀a,P a→KOk n R (f a)):KOk n R (t.bind f):=by
 induction h with
 | ret h=>exact hf _ h
 | ask hi hj _ ih=>exact .ask hi hj ih
noncomputable def Ord (n:Nat)(p:Array Nat):Prop:=p.toList.Perm (List.range n)
theorem Ord.lt {n:Nat}{p:Array Nat}(h:Ord n p)(hn:0<n)(i:Nat):p.getD i 0<n:=by
 by_cases hi:i<p.size
 ·have e:p.getD i 0=p[i]:=by simp[hi]
  rw[e]
  have:p[i] ∈ p.toList:=Array.getElem_mem_toList hi
  exact List.mem_range.mp (List.Perm.mem_iff h |>.mp this)
 ·have e:p.getD i 0=0:=by simp[hi]
  rw[e];exact hn
theorem Ord.rev {n:Nat}{p:Array Nat}(h:Ord n p)(i j:Nat):Ord n (kas_rev p i j):=(Array.perm_iff_toList_perm.mp (mirror_perm p i j _)).trans h
theorem Ord.bub {n:Nat}{p:Array Nat}(h:Ord n p)(k d:Nat):Ord n (bubble p k d):=(Array.perm_iff_toList_perm.mp (bubble_perm p k d)).trans h
section
variable {n:Nat}(hn:0<n)
include hn
theorem ok_asc {p:Array Nat}(h:Ord n p):∀(f m:Nat),KOk n (fun _=>True) (kas_asc p f m)
 | 0,_=>.ret trivial
 | f+1,m=>.ask (h.lt hn _) (h.lt hn _) fun b=>by
  cases b
  ·exact ok_asc h f (m+1)
  ·exact .ret trivial
theorem ok_desc:∀(f:Nat) {p:Array Nat}(_:Ord n p)(m q:Nat),KOk n (fun r=>Ord n r.1) (kas_desc f p m q)
 | 0,_,h,_,_=>.ret h
 | f+1,p,h,m,q=>.ask (h.lt hn _) (h.lt hn _) fun b=>by
  cases b
  ·refine .ask (h.lt hn _) (h.lt hn _) fun c=>?_
   cases c
   ·exact ok_desc f h (m+1) (q+1)
   ·exact .ret h
  ·show KOk n _ (if q > 0 then _ else _)
   split
   ·exact ok_desc f (h.rev _ _) (m+1) 0
   ·exact ok_desc f h (m+1) 0
theorem ok_tail3 {p:Array Nat}(h:Ord n p)(a b:Nat):KOk n (fun r=>Ord n r.2) (kas_tail3 a b p):=(ok_asc hn (h.rev 0 a) _ _).bind fun _ _=>.ret (h.rev 0 a)
theorem ok_descPart {p:Array Nat}(h:Ord n p)(a b:Nat):KOk n (fun r=>Ord n r.2) (kas_descPart a b p):=by
 refine(ok_desc hn _ h _ _).bind fun r hr=>?_
 split
 ·exact ok_tail3 hn (hr.rev _ _) _ _
 ·exact ok_tail3 hn hr _ _
theorem ok_count {p:Array Nat}(h:Ord n p)(b:Nat):KOk n (fun r=>Ord n r.2) (kas_count b p):=by
 refine(ok_asc hn h _ _).bind fun a _=>?_
 split
 ·exact .ret h
 ·split
  ·refine .ask (h.lt hn _) (h.lt hn _) fun c=>?_
   cases c
   ·exact ok_descPart hn (h.rev 0 a) _ _
   ·exact .ret h
  ·exact ok_descPart hn h _ _
theorem ok_place {p:Array Nat}(h:Ord n p)(k:Nat):∀(f l r:Nat),KOk n (fun _=>True) (kas_place p k f l r)
 | 0,_,_=>.ret trivial
 | f+1,l,r=>by
  unfold kas_place
  split
  ·exact .ret trivial
  ·refine .ask (h.lt hn _) (h.lt hn _) fun c=>?_
   cases c
   ·exact ok_place h k f _ _
   ·exact ok_place h k f _ _
theorem ok_bin:∀(f:Nat) {p:Array Nat}(_:Ord n p)(k:Nat),KOk n (Ord n) (kas_bin f p k)
 | 0,_,h,_=>.ret h
 | f+1,_,h,k=>(ok_place hn h k k 0 k).bind fun l _=>ok_bin f (h.bub k (k - l)) (k+1)
theorem ok_sort:KOk n (Ord n) (kas_sort n):=by
 refine(ok_count hn (p:=List.toArray (List.range n)) (by unfold Ord;exact List.Perm.refl _) n).bind fun r hr=>?_
 split
 ·exact ok_bin hn _ hr _
 ·exact .ret hr
end
noncomputable def evT {α:Type}(lt:Nat→Nat→Bool):KasT α→α
 | .ret a=>a
 | .ask i j k=>evT lt (k (lt i j))
theorem evT_ok {α:Type}{n:Nat}{P:α→Prop}{lt:Nat→Nat→Bool}{t:KasT α}(h:KOk n P t):P (evT lt t):=by
 induction h with
 | ret h=>exact h
 | ask _ _ _ ih=>exact ih _
theorem evT_wp {α:Type}{n:Nat}{P:α→Prop}{lt:Nat→Nat→Bool}{cmp:Nat→Nat→(Bool→Shared→Prop)→Shared→Prop}{s:Shared}{Q:α→Shared→Prop}{t:KasT α}(h:KOk n P t)
  (hc:∀i j (C:Bool→Shared→Prop),i<n→j<n→C (lt i j) s→cmp i j C s) (hQ:Q (evT lt t) s):t.kasWp cmp Q s:=by
 induction h with
 | ret h=>exact hQ
 | ask hi hj _ ih=>exact hc _ _ _ hi hj (ih _ hQ)
noncomputable def ltP (a b:Int×Int):Bool:=if a.1=b.1 then decide (a.2<b.2) else decide (a.1<b.1)
noncomputable def ordP (ks:List (Int×Int)):List Nat:=if ks.length<2 then List.range ks.length else (evT (fun i j=>ltP (ks.getD i (0,0)) (ks.getD j (0,0))) (kas_sort ks.length)).toList
theorem ordP_perm (ks:List (Int×Int)):(ordP ks).Perm (List.range ks.length):=by
 unfold ordP
 split
 ·exact List.Perm.refl _
 ·exact evT_ok (ok_sort (by omega))
noncomputable def srtP (ks:List (Int×Int)):List (Int×Int):=(ordP ks).map fun i=>ks.getD i (0,0)
theorem srtP_perm (ks:List (Int×Int)):(srtP ks).Perm ks:=by
 unfold srtP
 refine((ordP_perm ks).map _).trans (List.Perm.of_eq ?_)
 apply List.ext_getElem
 ·simp
 ·intro i h1 h2
  simp[h2]
noncomputable def RawD (h:Heap)(d:Addr)(es:Array DictEntry)(ep:Nat):Prop:=∃o,h.get? d=some o∧o.ExactDict∧o.data = .dict es ep
theorem RawD.ty {s:Shared}{d:Addr}{es:Array DictEntry}{ep:Nat}(r:RawD s.heap d es ep):s.TypeIs (.ref d) "dict":=let ⟨o,g,c,_⟩:=r; ⟨o,g,c.1⟩
theorem RawD.kp {h h':Heap}{d:Addr}{es:Array DictEntry}{ep:Nat}(r:RawD h d es ep)(k:∀o,h.get? d=some o→h'.get? d=some o):RawD h' d es ep:=let ⟨o,g,c⟩:=r; ⟨o,k o g,c⟩
theorem RawD.sz {h:Heap}{d:Addr}{es:Array DictEntry}{ep:Nat}(r:RawD h d es ep):d<h.objs.size:=let ⟨_,g,_⟩:=r;Heap.lt_size g
section
variable {prog:Program}{w:World}{A:Around}{E:Value→Shared→Prop}{s:Shared}{d it:Addr}{es:Array DictEntry}{ep i:Nat}
theorem raw_iter {Q:Value→Shared→Prop}(lo:(d == sysModules)=false)(r:RawD s.heap d es ep)
  (q:Q (.ref s.heap.objs.size) { s with heap:=s.heap.push { cls:=.type "dict_keyiterator",data:=.fields #[.ref d,.int 0 0,.int es.size 0,.int ep 0] } }):wpAny (model prog w) A (pyIter (.ref d)) Q E s:=by
 obtain⟨o,go,co,dd⟩:=id r
 have ty:s.TypeIs (.ref d) "dict":=r.ty
 refine wpAny_pyIter_slot ty F.slot_dict_iter (wpAny_call_entry F.slot_dict_iter ty F.entry_dict_iter ?_ (F.args_dict_iter_1 _))
 unfold Builtin.«dict.__iter__» Builtin.Dict.dictSlotNone
 refine wpAny_bind (wpAny_bind (wpAny_notOrdered_dict ty ?_))
 show wpAny _ _ (pure (Value.ref d)) _ _ s
 refine wpAny_pure (show wpAny _ _ (Builtin.Dict.showsAll d >>= _) _ _ s from ?_)
 unfold Builtin.Dict.showsAll
 rw[if_neg (show ¬ (d == sysModules)=true by rw[lo];exact Bool.false_ne_true)]
 refine wpAny_bind (wpAny_pure (wpAny_bind (wpAny_dictEntries go dd (wpAny_bind (wpAny_dictEpoch go dd ?_)))))
 refine wpAny_bind (wpAny_newObj_type (wpAny_pure ⟨_,rfl,"dict_keyiterator",_,⟨_,Heap.get?_push_size _ rfl,rfl⟩,F.slot_dict_keyiterator_next.lookup,?_⟩))
 simpa [rawInt]using q
theorem raw_item {Q:Option Value→Shared→Prop}(ki:s.heap.IsKeyIter it d i es.size ep)(r:RawD s.heap d es ep)(hi:i<es.size)
  (q:∀h',h'.IsKeyIter it d (i+1) es.size ep→Heap.SameBut it s.heap h'→Q (some es[i].key) { s with heap:=h' }):wpAny (model prog w) A (pyNext (.ref it)) Q E s:=by
 obtain⟨o,go,ci,di⟩:=id ki
 obtain⟨od,gd,cd,dd⟩:=id r
 unfold pyNext
 refine wpAny_bind (wpAny_attempt (wpAny_callSpecial?_slot (name:=Str.ofString "__next__") ki.typeIs F.slot_dict_keyiterator_next (wpAny_call_entry F.slot_dict_keyiterator_next ki.typeIs F.entry_dict_keyiterator_next ?_ (F.args_dict_keyiterator_next_1 _))))
 refine wpAny_bind (wpAny_pure (wpAny_bind (wpAny_bind ?_)))
 first |refine wpAny_bind (wpAny_typeNameOfWhole_keyiter ki.typeIs (wpAny_pure ?_)) |refine wpAny_bind (wpAny_typeNameOf_keyiter ki.typeIs (wpAny_pure ?_))
 refine wpAny_bind (wpAny_fieldsOf go di ?_)
 have own:Builtin.Dict_items.ownsTuple "dict_keyiterator" = false:=by decide
 simp only[own,Bool.false_eq_true,if_false]
 show wpAny _ _ (if (Value.ref d == Value.none)=true then _ else _) _ _ { s with heap:=s.heap }
 rw[if_neg (fun z:(Value.ref d == Value.none)=true=>Bool.false_ne_true z)]
 refine wpAny_bind (wpAny_pure (wpAny_bind (wpAny_dictEntries gd dd ?_)))
 rw[if_neg (show ¬ _ by simp)]
 refine wpAny_bind (wpAny_pure (wpAny_bind (wpAny_dictEpoch gd dd ?_)))
 rw[if_neg (show ¬ _ by simp)]
 refine wpAny_pure (?_)
 simp only[show ¬ ((i:Int)<0)from by omega,if_false,Int.toNat_natCast,Array.getElem?_eq_getElem hi]
 refine wpAny_bind (?_)
 first |refine wpAny_bind (wpAny_typeNameOfWhole_keyiter ki.typeIs (wpAny_pure ?_)) |refine wpAny_bind (wpAny_typeNameOf_keyiter ki.typeIs (wpAny_pure ?_))
 refine wpAny_bind (wpAny_isOneOf_keyiter ki.typeIs ?_)
 show wpAny _ _ (setField (.ref it) 1 (rawInt ((i:Int)+1)) >>= _) _ _ { s with heap:=s.heap }
 refine wpAny_bind (wpAny_setField go di (by simp) ?_)
 have ki':(s.heap.update it (Obj.mapFields (·.setIfInBounds 1 (rawInt ((i:Int)+1))))).IsKeyIter it d (i+1) es.size ep :=
  ⟨_,Heap.get?_update_self _ go (Obj.isFreed_of_fields (Obj.data_mapFields di _)),(Obj.cls_mapFields ..).trans ci,by rw[Obj.data_mapFields di];simp[rawInt]⟩
 refine wpAny_bind (wpAny_holding (wpAny_bind (wpAny_isOneOf_keyiter (s:={ s with heap:=s.heap.update it (Obj.mapFields (·.setIfInBounds 1 (rawInt ((i:Int)+1)))) }) ki'.typeIs ?_)))
 show wpAny _ _ (pure es[i].key) _ _ _
 exact wpAny_pure (wpAny_pure ⟨_,rfl,wpAny_pure (q _ ki' (Heap.SameBut.update ..))⟩)
theorem raw_end {Q:Option Value→Shared→Prop}(na:A.handled=none)(ki:s.heap.IsKeyIter it d i es.size ep)(r:RawD s.heap d es ep)(hi:es.size≤i)
  (q:∀h',Heap.ExtBut it s.heap h'→Q none { s with heap:=h' }):wpAny (model prog w) A (pyNext (.ref it)) Q E s:=by
 obtain⟨o,go,ci,di⟩:=id ki
 obtain⟨od,gd,cd,dd⟩:=id r
 unfold pyNext
 refine wpAny_bind (wpAny_attempt (wpAny_callSpecial?_slot (name:=Str.ofString "__next__") ki.typeIs F.slot_dict_keyiterator_next (wpAny_call_entry F.slot_dict_keyiterator_next ki.typeIs F.entry_dict_keyiterator_next ?_ (F.args_dict_keyiterator_next_1 _))))
 refine wpAny_bind (wpAny_pure (wpAny_bind (wpAny_bind ?_)))
 first |refine wpAny_bind (wpAny_typeNameOfWhole_keyiter ki.typeIs (wpAny_pure ?_)) |refine wpAny_bind (wpAny_typeNameOf_keyiter ki.typeIs (wpAny_pure ?_))
 refine wpAny_bind (wpAny_fieldsOf go di ?_)
 have own:Builtin.Dict_items.ownsTuple "dict_keyiterator" = false:=by decide
 simp only[own,Bool.false_eq_true,if_false]
 show wpAny _ _ (if (Value.ref d == Value.none)=true then _ else _) _ _ { s with heap:=s.heap }
 rw[if_neg (fun z:(Value.ref d == Value.none)=true=>Bool.false_ne_true z)]
 refine wpAny_bind (wpAny_pure (wpAny_bind (wpAny_dictEntries gd dd ?_)))
 rw[if_neg (show ¬ _ by simp)]
 refine wpAny_bind (wpAny_pure (wpAny_bind (wpAny_dictEpoch gd dd ?_)))
 rw[if_neg (show ¬ _ by simp)]
 refine wpAny_pure (?_)
 simp only[show ¬ ((i:Int)<0)from by omega,if_false,Int.toNat_natCast,Array.getElem?_eq_none hi]
 refine wpAny_bind (?_)
 first |refine wpAny_bind (wpAny_typeNameOfWhole_keyiter ki.typeIs (wpAny_pure ?_)) |refine wpAny_bind (wpAny_typeNameOf_keyiter ki.typeIs (wpAny_pure ?_))
 show wpAny _ _ (setField (.ref it) 0 .none >>= _) _ _ { s with heap:=s.heap }
 refine wpAny_bind (wpAny_setField go di (by simp) ?_)
 show wpAny _ _ (newExc (.type "StopIteration") [] >>= _) _ _ { s with heap:=_ }
 refine wpAny_bind (?_)
 simp only[newExc,newTuple]
 refine wpAny_bind (wpAny_newObj_type (?_) (by size_fits))
 refine wpAny_bind (m:=firstArgMember _ _) (wpAny_of_eq (a:=Value.none) (by first |rfl | (simp only[firstArgMember];rfl)) (wpAny_newObj_type ?_ (by size_fits)))
 simp only[raiseNew]
 refine wpAny_bind (wpAny_handled (?_))
 rw[show A.in1.handled=none from na]
 refine wpAny_bind (wpAny_pure (wpAny_throw (?_)))
 refine wpAny_bind (wpAny_isInstance (b:=true) (T:="StopIteration") ⟨_,Heap.get?_push_size _ rfl,rfl⟩ isSubtype_stop (?_))
 exact wpAny_pure (q _ (((Heap.SameBut.update ..).extBut.push _).push _))
end
theorem raw_walks {prog:Program}{w:World}{A:Around}(na:A.handled=none)(I d:Addr)(ne:d≠I)(es:Array DictEntry)(ep:Nat) :
  Walks prog w A I [I,d] [I] es.size (fun i v=>∃e,es[i]? = some e∧v=e.key) (fun i h=>h.IsKeyIter I d i es.size ep∧RawD h d es ep) where
 sub:=fun b hb=>by simp at hb;simp[hb]
 frame:=fun _ _ _ st hk=>⟨st.1.at fun o e=>hk I (by simp) o e,st.2.kp fun o e=>hk d (by simp) o e⟩
 item:=fun i s Q E hi st hQ=>by
  refine raw_item st.1 st.2 hi fun h' a b=>?_
  exact hQ _ h' s.toks ⟨_,Array.getElem?_eq_getElem hi,rfl⟩ ⟨a,st.2.kp fun o e=>b.extBut d o ne e⟩ fun c o hc e=>b.extBut c o (fun z=>hc (by simp[z])) e
 done:=fun s Q E st hQ=>raw_end na st.1 st.2 (Nat.le_refl _) fun h' e=>hQ h' s.toks fun b o hb x=>e b o (fun z=>hb (by simp[z])) x
 self:=fun _ _ _ _ st hQ=>wpAny_pyIter_keyiter st.1 hQ
theorem raw_src {prog:Program}{w:World}{d:Addr}{es:Array DictEntry}{ep:Nat}(lo:(d == sysModules)=false):KdlSrc prog w "dict" d d es.size (fun i v=>∃e,es[i]? = some e∧v=e.key) (fun h=>RawD h d es ep) where
 type:=fun _ r=>r.ty
 there:=fun _ r=>⟨r.sz,r.sz⟩
 keep:=fun _ _ r hk=>r.kp fun o e=>hk d (.inl rfl) o e
 notList:=by decide
 notTuple:=by decide
 hint:=fun _ _ _ _ r hq=>kdl_hint_dict r.ty hq
 iter:=fun _ _ na r=>⟨_,_,(fun _ _ hq=>raw_iter lo r hq),raw_walks na _ d (Nat.ne_of_lt r.sz) es ep,⟨⟨_,Heap.get?_push_size _ rfl,rfl,rfl⟩,r.kp fun o e=>Heap.get?_push_of_some _ e⟩⟩
noncomputable def PairAt (h:Heap)(x:Addr)(a:Int×Int):Prop:=∃o n t u,h.get? x=some o∧o.cls = .type "tuple"∧o.data = .seq #[.int a.1 t,.int a.2 u] n
noncomputable def PairsAt (h:Heap)(vs:List Value)(ks:List (Int×Int)):Prop:=Paired (fun (v:Value)(k:Int×Int)=>∃x,v = .ref x∧PairAt h x k) vs ks
section
variable {prog:Program}{w:World}{A:Around}{E:Value→Shared→Prop}{s:Shared}
theorem ltP_wp {C:Bool→Shared→Prop}{x y:Addr}{a b:Int×Int}(hx:PairAt s.heap x a)(hy:PairAt s.heap y b)(h:C (ltP a b) s):wpAny (model prog w) A (keyLt' (tuples' true) (.ref x) (.ref y)) C E s:=by
 obtain⟨ox,nx,t1,t2,gx,_,dx⟩:=hx
 obtain⟨oy,ny,u1,u2,gy,_,dy⟩:=hy
 refine kat_lt gx dx gy dy (kat_cons (SeqAt.EqAt.int_int a.1 t1 b.1 u1 prog w _ _ ?_))
 unfold ltP at h
 by_cases e1:a.1=b.1
 ·rw[if_pos e1]at h
  rw[beq_iff_eq.mpr e1]
  refine kat_yes (kat_cons (SeqAt.EqAt.int_int a.2 t2 b.2 u2 prog w _ _ ?_))
  by_cases e2:a.2=b.2
  ·rw[beq_iff_eq.mpr e2]
   refine kat_yes (kat_nil ?_)
   have:decide (a.2<b.2)=false:=by rw[e2];simp
   rw[this]at h
   exact h
  ·rw[beq_eq_false_iff_ne.mpr e2]
   exact kat_no (kat_one _ _ (lt_int h))
 ·rw[if_neg e1]at h
  rw[beq_eq_false_iff_ne.mpr e1]
  exact kat_no (oneLt_int h)
theorem PairsAt.at {h:Heap}:∀ {vs:List Value}{ks:List (Int×Int)},PairsAt h vs ks→∀ {i:Nat},i<vs.length→∃x,vs.getD i .none = .ref x∧PairAt h x (ks.getD i (0,0))
 | _ :: _,_ :: _,.cons e _,0,_=>e
 | _ :: _,_ :: _,.cons _ r,i+1,hi=>by
  obtain⟨x,h1,h2⟩:=PairsAt.at r (i:=i) (by simpa using hi)
  exact⟨x,by simpa using h1,by simpa using h2⟩
theorem PairsAt.len {h:Heap}{vs:List Value}{ks:List (Int×Int)}(p:PairsAt h vs ks):vs.length=ks.length:=Paired.length p
theorem PairsAt.kp {h h':Heap}{vs:List Value}{ks:List (Int×Int)}(p:PairsAt h vs ks)(k:∀x o,h.get? x=some o→o.cls = .type "tuple"→h'.get? x=some o):PairsAt h' vs ks :=
 Paired.mapP p fun _ _ ⟨x,e,o,n,t,u,g,c,d⟩=>⟨x,e,o,n,t,u,k x o g c,c,d⟩
theorem PairsAt.kat {h:Heap}:∀ {vs:List Value}{ks:List (Int×Int)},PairsAt h vs ks→∃fs,KatTups h vs fs∧fs.length=vs.length∧∀v∈fs,∃i t,v=Value.int i t
 | [],[],.nil=>⟨[],KatTups.nil,rfl,fun _ hv=>by cases hv⟩
 | _ :: _,_ :: _,.cons e r=>by
  obtain⟨fs,h1,h2,h3⟩:=PairsAt.kat r
  obtain⟨x,rfl,o,n,t,u,g,c,d⟩:=e
  exact⟨.int _ t :: fs,KatTups.cons g c d rfl h1,by simp[h2],fun v hv=>by
   rcases List.mem_cons.mp hv with rfl |hv
   ·exact⟨_,_,rfl⟩
   ·exact h3 v hv⟩
theorem getD_range (vs:List Value):(List.range vs.length).map (fun i=>vs.getD i Value.none)=vs:=by
 apply List.ext_getElem
 ·simp
 ·intro i h1 h2;simp[h2]
theorem pairs_sort {a:Addr}{vs:List Value}{ks:List (Int×Int)}{n:Nat}{P:PySem.Fin→Shared→Prop}(ho:s.heap.get? a=some (seqObj "list" vs.toArray n))(hp:PairsAt s.heap vs ks)(h64:vs.length<64)
  (h:P (.done (.ret .none)) { s with heap:=sortedHeap s.heap a vs ((ordP ks).map fun i=>vs.getD i Value.none).toArray }):wpAny (model prog w) A (Builtin.«list.sort» ⟨[.ref a],[]⟩) P E s:=by
 rw[list_sort_plain]
 have la:a<s.heap.objs.size:=Heap.lt_size ho
 refine wpAny_bind (listItems_at ho rfl (wpAny_bind (listUpdate_at ho rfl ?_ (by rw[List.size_toArray,sizeLine_eq];omega) (Nat.zero_le _))))
 obtain⟨ev,hv⟩:∃ev,(s.heap.update a (Obj.mapSeq fun _=>#[])).get? a=some (seqObj "list" #[] ev):=⟨_,get?_update_seq ho (fun _=>#[])⟩
 refine wpAny_bind (seqEpoch_at hv rfl (wpAny_bind (wpAny_newTuple ?_ (by show vs.length≤_;rw[sizeLine_eq];omega))))
 refine wpAny_bind (wpAny_newList (wpAny_holding ?_) (Nat.zero_le _))
 have gv:(((s.heap.update a (Obj.mapSeq fun _=>#[])).push (seqObj "tuple" vs.toArray 0)).push (seqObj "list" #[] 0)).get? a=some (seqObj "list" #[] ev):=by
  rw[Heap.get?_push_ne _ _ _ (by rw[size_push',Heap.size_update];exact Nat.ne_of_lt (Nat.lt_succ_of_lt la)),Heap.get?_push_ne _ _ _ (by rw[Heap.size_update];exact Nat.ne_of_lt la)]
  exact hv
 have hp6:PairsAt (((s.heap.update a (Obj.mapSeq fun _=>#[])).push (seqObj "tuple" vs.toArray 0)).push (seqObj "list" #[] 0)) vs ks:=hp.kp fun x o g c=>by
  have ne:x≠a:=by
   rintro rfl
   rw[ho]at g;cases g
   exact absurd (show Value.type "list" = Value.type "tuple" from c) (by decide)
  exact Heap.get?_push_of_some _ (Heap.get?_push_of_some _ (by rw[Heap.get?_update_ne _ _ _ _ ne];exact g))
 show wpAny (model prog w) A _ P E { s with heap:=((s.heap.update a (Obj.mapSeq fun _=>#[])).push (seqObj "tuple" vs.toArray 0)).push (seqObj "list" #[] 0) }
 unfold sortedHeap at h
 generalize ((s.heap.update a (Obj.mapSeq fun _=>#[])).push (seqObj "tuple" vs.toArray 0)).push (seqObj "list" #[] 0)=h6 at gv hp6 h ⊢
 dsimp only
 have lk:=hp.len
 by_cases h2:vs.toArray.size<2
 ·rw[if_pos h2,if_pos h2]
  rw[List.size_toArray]at h2
  refine wpAny_bind (wpAny_pure ?_)
  rw[StateT.run_pure]
  refine wpAny_bind (wpAny_pure (show wpAny (model prog w) A (seqEpoch a >>= _) P E { s with heap:=h6 } from ?_))
  have e0:(arrOf (SortSt.mk' general' (vs.toArray.zip vs.toArray) #[] 7 none)).map (·.2)=((ordP ks).map fun i=>vs.getD i Value.none).toArray:=by
   have:ordP ks=List.range vs.length:=by unfold ordP;rw[if_pos (by omega),lk]
   rw[this,getD_range]
   show (vs.toArray.zip vs.toArray).map (·.2)=vs.toArray
   apply Array.ext
   ·simp
   ·intro i h1 h2;simp
  refine wpAny_bind (seqEpoch_at gv rfl (wpAny_bind ?_))
  rw[e0]
  refine listUpdate_at gv rfl ?_ (Nat.zero_le _) (by simp only[List.size_toArray,List.length_map];rw[(ordP_perm ks).length_eq,List.length_range,sizeLine_eq];omega)
  simp only[bne_self_eq_false,Bool.false_eq_true,if_false]
  exact wpAny_pure h
 ·rw[if_neg h2,if_neg h2]
  rw[List.size_toArray]at h2
  obtain⟨fs,k1,k2,k3⟩:=hp6.kat
  refine wpAny_bind (kat_kind (s:={ s with heap:=h6 }) (T:=.type "int") k1 (by omega) (fun v hv=>?_) (by decide) ?_)
  ·obtain⟨i,t,rfl⟩:=k3 v hv
   exact Looks.of_pure rfl
  show wpAny (model prog w) A ((sortRuns').run (SortSt.mk' (tuples' true) (vs.toArray.zip vs.toArray) #[] 7 none) >>= _) P E { s with heap:=h6 }
  refine wpAny_bind (wpAny_mono (kat_run (s:={ s with heap:=h6 }) (Q:=fun st' s'=>s' = { s with heap:=h6 }∧(arrOf st').map (·.2)=((ordP ks).map fun i=>vs.getD i Value.none).toArray∧failedOf st'=none)
   (G:=fun p s'=>s' = { s with heap:=h6 }∧p.toList=ordP ks) rfl (by omega) h64 (fun p st' s' q1 q2 q3 q4=>⟨q4.1,by rw[kat_snds rfl q2,q4.2],q3⟩) ?_) ?_ fun _ _ e=>e)
  ·refine evT_wp (lt:=fun i j=>ltP (ks.getD i (0,0)) (ks.getD j (0,0))) (ok_sort (n:=vs.length) (by omega)) (fun i j C hi hj hC=>?_) ⟨rfl,?_⟩
   ·obtain⟨x,ex,px⟩:=hp6.at hi
    obtain⟨y,ey,py⟩:=hp6.at hj
    unfold kas_ask
    rw[ex,ey]
    exact ltP_wp (s:={ s with heap:=h6 }) px py hC
   ·unfold ordP
    rw[if_neg (by omega),lk]
  ·rintro⟨⟨⟩,st'⟩ s' ⟨rfl,q2,q3⟩
   dsimp only
   rw[q2,q3]
   refine wpAny_bind (seqEpoch_at gv rfl (wpAny_bind (listUpdate_at gv rfl ?_ (Nat.zero_le _) (by simp only[List.size_toArray,List.length_map];rw[(ordP_perm ks).length_eq,List.length_range,sizeLine_eq];omega))))
   simp only[bne_self_eq_false,Bool.false_eq_true,if_false]
   exact wpAny_pure h
end
noncomputable def PK2 (fs:List ((Int×Int)×V)):List (List Key×V):=fs.map fun q=>([.inl q.1.1,.inl q.1.2],q.2)
noncomputable def rSortDT:TR:=fun xs H Q=>∃(p:Addr)(fs:List ((Int×Int)×V)),xs = [.ref p]∧H p=some (.dT (PK2 fs))∧fs.length<64 ∧
 ∀(l:Addr) (as:List Addr) H',H l=none→Same H H'→Paired (fun (a:Addr) (k:Int×Int)=>H' a=some (.tup [.int k.1,.int k.2])) as (srtP (fs.map (·.1)))→H' l=some (.lst (as.map V.ref))→Q (.ref l) H'
theorem pair_at {X:Cx}{pins:List (Addr×Obj)}{σ:St}{H:Hp}{s:Shared}{a:Addr}{k:Int×Int}(I:Inv X pins σ H s)(e:H a=some (.tup [.int k.1,.int k.2])):PairAt s.heap a k:=by
 obtain⟨_,its,r,o,g,c,n,d⟩:=(show ObjOk X.prog X.w H s.heap a (.tup [.int k.1,.int k.2])from I.hok a _ e)
 cases r with
 | cons r1 r =>
  cases r with
  | cons r2 r =>
   cases r
   obtain⟨t,rfl⟩:=r1
   obtain⟨u,rfl⟩:=r2
   exact⟨o,n,t,u,g,c,d⟩
theorem kt_keys {H:Hp}:∀ {fs:List ((Int×Int)×V)}{xs:List (List Key×Addr×Value)},KT H (PK2 fs) xs→Paired (fun (a:Addr)(k:Int×Int)=>H a=some (.tup [.int k.1,.int k.2])) (xs.map (·.2.1)) (fs.map (·.1))
 | [],_,.nil=>.nil
 | _ :: _,_,.cons h r=>.cons h.2.1 (kt_keys r)
theorem paired_at {α β:Type}{R:α→β→Prop}:∀ {xs:List α}{ys:List β},Paired R xs ys→∀ {i:Nat}{y:β},ys[i]? = some y→∃x,xs[i]? = some x∧R x y
 | _,_,.cons h _,0,y,e=>by simp at e;subst e;exact⟨_,rfl,h⟩
 | _,_,.cons _ r,i+1,y,e=>by simpa using paired_at r (by simpa using e)
 | _,_,.nil,_,_,e=>by simp at e
theorem paired_of {α β:Type}{R:α→β→Prop}:∀ {xs:List α}{ys:List β},xs.length=ys.length→(∀(i:Nat)(x:α)(y:β),xs[i]? = some x→ys[i]? = some y→R x y)→Paired R xs ys
 | [],[],_,_=>.nil
 | x :: xs,y :: ys,e,h=>.cons (h 0 x y rfl rfl) (paired_of (by simpa using e) fun i a b h1 h2=>h (i+1) a b (by simpa using h1) (by simpa using h2))
theorem cn_sortDT {X:Cx}(hc:X.calm=true):CallR X (.builtin "sorted") rSortDT:=by
 intro pins s σ H xs us Q I r h
 obtain⟨p,fs,rfl,hp,h64,q⟩:=h
 obtain⟨u,rfl,ru⟩:=vals1 r
 cases ru
 obtain⟨z,lo,ys,kt,o,es,ep,g1,g2,g3,g4,g5⟩:=(show ObjOk X.prog X.w H s.heap p (.dT (PK2 fs))from I.hok p _ hp)
 have rd:RawD s.heap p es ep:=⟨o,g1,g2,g3⟩
 have kk:=kt_keys kt
 have ly:ys.length=fs.length:=by have:=Paired.length kk;simpa using this
 have les:es.size=ys.length:=by have:=congrArg List.length g4;simpa using this
 refine Calls.call_function_entry kind_sorted plain_sorted entry_sorted (args_sorted1 _) ?_
 unfold Builtin.«sorted»
 refine wpAny_bind (m:=checkCount "sorted" 1 1 _) (wpAny_pure (wpAny_bind ?_))
 refine kdu_collect (A:=X.A.in1) (raw_src (prog:=X.prog) (w:=X.w) (es:=es) (ep:=ep) lo) (I.ok.hd hc) rd (by rw[les,ly,sizeLine_eq];omega) fun h' tk acc kp hI=>?_
 obtain⟨i1,i2⟩:=hI
 have eacc:acc.toList=(ys.map (·.2.1)).map Value.ref:=by
  apply List.ext_getElem?
  intro i
  by_cases hi:i<ys.length
  ·have hi':i<acc.size:=by omega
   obtain⟨e,e1,e2⟩:=i2 i acc[i] (by simp[hi'])
   have e3:es.toList[i]? = some e:=by rw[Array.getElem?_toList];exact e1
   rw[g4,List.getElem?_map,List.getElem?_eq_getElem hi]at e3
   cases e3
   rw[Array.getElem?_toList,Array.getElem?_eq_getElem hi',e2,List.getElem?_map,List.getElem?_map,List.getElem?_eq_getElem hi]
   rfl
  ·rw[List.getElem?_eq_none (by rw[Array.length_toList];omega),List.getElem?_eq_none (by simp;omega)]
 rw[eacc]
 generalize hA:ys.map (·.2.1)=bs at eacc kk ⊢
 have I1:Inv X pins σ H { s with heap:=h',toks:=tk }:=I.kept kp
 have lb:bs.length=fs.length:=by rw[← hA];simpa using ly
 refine wpAny_bind (wpAny_newList ?_ (by rw[List.length_map,lb,sizeLine_eq];omega))
 have hoL:(h'.push (seqObj "list" (bs.map Value.ref).toArray 0)).get? h'.objs.size=some (seqObj "list" (bs.map Value.ref).toArray 0):=Heap.get?_push_size _ rfl
 have pa:PairsAt (h'.push (seqObj "list" (bs.map Value.ref).toArray 0)) (bs.map Value.ref) (fs.map (·.1)):=by
  refine paired_of (by simpa using lb) fun i v k e1 e2=>?_
  rw[List.getElem?_map]at e1
  obtain⟨b,e3,rfl⟩:=Option.map_eq_some_iff.mp e1
  obtain⟨b',e4,e5⟩:=paired_at kk e2
  rw[e3]at e4;cases e4
  obtain⟨o,n,t,u,q1,q2,q3⟩:=pair_at I1 e5
  exact⟨b,rfl,o,n,t,u,Heap.get?_push_of_some _ q1,q2,q3⟩
 refine wpAny_bind (wpAny_holding (wpAny_call_entry slot_list_sort ⟨_,hoL,rfl⟩ entry_list_sort (pairs_sort hoL pa (by rw[List.length_map];omega) ⟨_,rfl,?_⟩) (args_list_sort _)))
 refine wpAny_pure ⟨_,rfl,?_⟩
 have ords:∀i∈ordP (fs.map (·.1)),i<bs.length:=fun i hi=>by
  have:=List.mem_range.mp ((ordP_perm _).mem_iff.mp hi)
  simp at this;omega
 have eo:(ordP (fs.map (·.1))).map (fun i=>(bs.map Value.ref).getD i Value.none)=((ordP (fs.map (·.1))).map fun i=>bs.getD i 0).map Value.ref:=by
  rw[List.map_map]
  apply List.map_congr_left
  intro i hi
  have:=ords i hi
  simp[this]
 rw[eo]
 obtain⟨n,ho⟩:=sortedHeap_at (out:=(((ordP (fs.map (·.1))).map fun i=>bs.getD i 0).map Value.ref).toArray) hoL
 refine⟨.ref h'.objs.size,_,I1.laid (o:=.lst (((ordP (fs.map (·.1))).map fun i=>bs.getD i 0).map V.ref)) (fun b o e=>?_) (Nat.le_refl _) ⟨?_,_,n,?_,ho⟩,rfl,q _ ((ordP (fs.map (·.1))).map fun i=>bs.getD i 0) _ I1.fresh (Same.upd I1.fresh) ?_ upd_same⟩
 ·have hlt:b<h'.objs.size:=Heap.lt_size e
  rw[sortedHeap_old (Nat.ne_of_lt hlt) (by rw[size_push'];exact Nat.lt_succ_of_lt hlt),Heap.get?_push_ne _ _ _ (Nat.ne_of_lt hlt)]
  exact e
 ·rw[List.length_map,List.length_map,(ordP_perm _).length_eq,List.length_range,List.length_map,sizeLine_eq];omega
 ·exact paired_of (by simp) fun i v u e1 e2=>by
   rw[List.getElem?_map]at e1 e2
   obtain⟨b,e3,rfl⟩:=Option.map_eq_some_iff.mp e1
   rw[e3]at e2
   cases e2
   rfl
 ·refine paired_of (by simp[srtP]) fun i b k e1 e2=>?_
  unfold srtP at e2
  rw[List.getElem?_map]at e1 e2
  obtain⟨j,e3,rfl⟩:=Option.map_eq_some_iff.mp e1
  rw[e3]at e2
  cases e2
  have hj:=ords j (List.mem_of_getElem? e3)
  have hj2:j<(fs.map (·.1)).length:=by simp;omega
  obtain⟨b',e4,e5⟩:=paired_at kk (i:=j) (y:=(fs.map (·.1)).getD j (0,0)) (by simp[show j<fs.length by omega])
  have:bs.getD j 0=b':=by rw[List.getD_eq_getElem?_getD,e4];rfl
  rw[this,upd_ne (ne_of_none e5 I1.fresh)]
  exact e5
section
variable {X:Cx}{CX:CXT}{k:Nat}{f C:Addr}{fd:FuncData}{ps:List Str}{sp:Sp}{E:XK}
end
section
variable {prog:Program}{w:World}{A:Around}{E:Value→Shared→Prop}{s:Shared}{K:Frag}{x C:Addr}{ox:Obj}{od:Option Obj}{f:Addr}{b tb:Value}
end
section
variable {X:Cx}{CX:CXT}{k:Nat}{f C:Addr}{fd:FuncData}{ps:List Str}{sp:Sp}{E:XK}
end
noncomputable abbrev Ent:=(Int×Int)×Addr×(Int×Int)
noncomputable def kP (k:Int×Int):List Key:=[.inl k.1,.inl k.2]
noncomputable def bkD (fs:List Ent):List (List Key×V):=fs.map fun q=>(kP q.1,.ref q.2.1)
structure PB (H:Hp) (d:Addr) (fs:List Ent):Prop where
 dc:H d=some (.dT (bkD fs))
 vl:∀q∈fs,H q.2.1=some (.tup [.int q.2.2.1,.int q.2.2.2])
 nd:(fs.map (·.1)).Nodup
noncomputable def lookB:List Ent→Int×Int→Option (Addr×(Int×Int))
 | [],_=>none
 | q :: r,k=>if q.1=k then some q.2 else lookB r k
theorem lookB_none {k:Int×Int}:∀ {fs:List Ent},lookB fs k=none↔k∉fs.map (·.1)
 | []=>by simp[lookB]
 | q :: r=>by
  unfold lookB
  by_cases e:q.1=k
  ·rw[if_pos e];simp[e]
  ·rw[if_neg e,lookB_none];simp[Ne.symm e]
theorem lookB_mem {k:Int×Int}{z:Addr×(Int×Int)}:∀ {fs:List Ent},lookB fs k=some z→(k,z)∈fs
 | [],h=>by cases h
 | q :: r,h=>by
  unfold lookB at h
  by_cases e:q.1=k
  ·rw[if_pos e]at h;cases h;subst e;exact List.mem_cons_self ..
  ·rw[if_neg e]at h;exact List.mem_cons_of_mem _ (lookB_mem h)
theorem kP_inj {a b:Int×Int}(h:kP a=kP b):a=b:=by
 unfold kP at h
 simp only[List.cons.injEq,Sum.inl.injEq,and_true]at h
 exact Prod.ext h.1 h.2
section
variable {X:Cx}
end
structure IsO (K:Frag) (C:Addr):Prop where
 cl:Cls K C
 cc:findIn K (.ref C) "__class__" = some (some (.builtin "object.__class__"))
 cg:specialIn K (.builtin "object.__class__") "__get__" = some (some (.builtin "getset_descriptor.__get__"))
 ct:takesIn K (.builtin "object.__class__")=some true
 cm:mroIn K C (.type "object")=some true
section
variable {X:Cx}
noncomputable def tMethX (C:Addr)(m:Str)(sp:Sp)(dvs:List V)(XR:St→XK)(ta:TE)(t:TA):TE:=fun σ H Q=>ta σ H fun x H1=>∃a dx fs,x = .ref a∧H1 a=some (.ins C dx fs)∧fs.lookup m=none∧t σ H1 fun vs H2=>sp (x :: (vs ++ dvs)) H2 Q (XR σ)
theorem qe_methX {e o:Expr}{es:List Expr}{ta:TE}{t:TA}{pos apos:Pos}{k:Nat}{fa C:Addr}{fd:FuncData}{ps:List Str}{sp:Sp}{XR:St→XK}{m:Str}{pl:Sem Bool}(he:PE X o ta)(c:Cls X.K C)(hm:Meth X.K C m fa)(F:FnOk X.prog X.w X.K X.mg X.base (CX1 X.prog X.w) k fa fd ps sp)(hr:Room k X.A)(hb:Binds X.K fd ps [])(hx:Px X XR)(ha:PAs X (e :: es) t)
  (h1:notStar e=true) (h2:noStars es=true)
  (ht:eval (.Call (.Attribute o m apos) (e :: es) [] pos) X.env=(do
   let ov ← eval o X.env
   standAt apos.atName
   let (f,first) ← holding [ov] (getMethod ov m pl)
   callWith pos f first (backTo pos (starEach (e :: es) X.env)) (backToKw pos (keywordEach [] X.env)))) :
  PE X (.Call (.Attribute o m apos) (e :: es) [] pos) (tMethX C m sp [] XR ta t):=by
 intro pins s σ H Q I h
 refine PySem.W.methodCall_KW (pl:=pl) (thn (he pins s σ H _ I h) fun u s1 ⟨x,H1,I1,rx,a,dx,fs,ex,ea,l,q⟩=>?_) ht
 subst ex
 obtain rfl:u=Value.ref a:=rx
 refine getmeth_ok I1 ea c hm l ?_
 refine PySem.W.callWith_K (first:=[.ref a]) (h₀:=X.base) I1.ok.mod.kin hm.kp (thn (ha.run pos pins s1 σ H1 _ I1 q) fun us s2 ⟨vs,H2,I2,r2,q2⟩=>⟨I2.kIn,?_⟩) (star_ne h1) (stars_any h2)
 exact run_fnX (us:=.ref a :: us) (vs:=.ref a :: vs) (dvs:=[]) (ds:=[]) F hr hb .nil hx I2 (.cons rfl r2) (by simpa using q2)
theorem rd_methX {C:Addr}{m:Str}{sp:Sp}{dvs:List V}{XR:St→XK}{ta:TE}{t:TA}{σ:St}{H:Hp}{Q:VK}(h:ta σ H fun x H1=>∃a dx fs,x = .ref a∧H1 a=some (.ins C dx fs)∧fs.lookup m=none∧t σ H1 fun vs H2=>sp (x :: (vs ++ dvs)) H2 Q (XR σ)):tMethX C m sp dvs XR ta t σ H Q:=h
end
noncomputable abbrev Sv4:=(Int×Int)×(Int×Int)
noncomputable def vw4 (fs:List Ent):List Sv4:=fs.map fun q=>(q.1,q.2.2)
noncomputable def bkF (d:Addr):List (Str×V):=putF "sayings" (.ref d) []
theorem bkF_s (d:Addr):(bkF d).lookup ("sayings":Str)=some (.ref d):=by unfold bkF;rw[lookup_putF,if_pos rfl]
theorem bkF_no (d:Addr) {m:Str}(h:¬ m = "sayings"):(bkF d).lookup m=none:=by unfold bkF;rw[lookup_putF,if_neg h];rfl
structure BkAt (C:Addr) (H:Hp) (p d:Addr) (fs:List Ent):Prop where
 ob:∃dx,H p=some (.ins C dx (bkF d))
 pb:PB H d fs
theorem PB.same {H H':Hp}{d:Addr}{fs:List Ent}(P:PB H d fs)(x:Same H H'):PB H' d fs:=⟨x _ _ P.dc,fun q hq=>x _ _ (P.vl q hq),P.nd⟩
theorem BkAt.same {C:Addr}{H H':Hp}{p d:Addr}{fs:List Ent}(B:BkAt C H p d fs)(x:Same H H'):BkAt C H' p d fs:=⟨B.ob.imp fun _ e=>x _ _ e,B.pb.same x⟩
theorem ext_kind {H H':Hp}{st c r:Addr}{m:Nat}{b:Addr}{o:HO}(D:Dk H st c r m)(x:Ext [st,r] H H')(hb:H b=some o)(ho:∀xs,o ≠ .lst xs):H' b=some o:=by
 obtain⟨cs,rs,n,h1,h2,h3,_⟩:=D.ex
 refine x b o hb ?_
 simp only[List.mem_cons,List.not_mem_nil,or_false,not_or]
 exact⟨ne_of hb h1 (ho _),ne_of hb h3 (ho _)⟩
theorem PB.other {H:Hp}{d b:Addr}{fs:List Ent}{o:HO}(P:PB H d fs) {kvs:List (List Key×V)}(hb:H b=some (.dT kvs))(n:d≠b):PB (upd H b o) d fs :=
 ⟨by rw[upd_ne n];exact P.dc,fun q hq=>by rw[upd_ne (ne_of (P.vl q hq) hb (by intro z;cases z))];exact P.vl q hq,P.nd⟩
theorem BkAt.other {C:Addr}{H:Hp}{p d b:Addr}{fs:List Ent}{o:HO}(B:BkAt C H p d fs) {kvs:List (List Key×V)}(hb:H b=some (.dT kvs))(n:d≠b):BkAt C (upd H b o) p d fs :=
 ⟨B.ob.imp fun _ e=>by rw[upd_ne (ne_of e hb (by intro z;cases z))];exact e,B.pb.other hb n⟩
noncomputable def putB (fs:List Ent)(k:Int×Int)(z:Addr×(Int×Int)):List Ent:=if (lookB fs k).isSome then fs.map (fun q=>if q.1=k then (q.1,z) else q) else fs ++ [(k,z)]
noncomputable def lookV:List Sv4→Int×Int→Option (Int×Int)
 | [],_=>none
 | q :: r,k=>if q.1=k then some q.2 else lookV r k
noncomputable def putV (fs:List Sv4)(k z:Int×Int):List Sv4:=if (lookV fs k).isSome then fs.map (fun q=>if q.1=k then (q.1,z) else q) else fs ++ [(k,z)]
theorem look_vw (k:Int×Int):∀fs:List Ent,lookV (vw4 fs) k=(lookB fs k).map (·.2)
 | []=>rfl
 | q :: r=>by
  unfold vw4 lookV lookB
  rw[List.map_cons]
  by_cases e:q.1=k
  ·simp[e]
  ·simp only[if_neg e];exact look_vw k r
theorem put_vw (fs:List Ent)(k:Int×Int)(z:Addr×(Int×Int)):vw4 (putB fs k z)=putV (vw4 fs) k z.2:=by
 unfold putB putV
 rw[look_vw]
 cases e:lookB fs k with
 | none=>simp[vw4]
 | some y =>
  simp only[Option.isSome_some,Option.map_some,if_true]
  unfold vw4
  rw[List.map_map,List.map_map]
  apply List.map_congr_left
  intro q _
  by_cases h:q.1=k <;> simp[h]
theorem vw_keys (fs:List Ent):(vw4 fs).map (·.1)=fs.map (·.1):=by unfold vw4;rw[List.map_map];rfl
theorem valV_bk (k:Int×Int):∀fs:List Ent,valV (bkD fs) (kP k)=(lookB fs k).map fun z=>V.ref z.1
 | []=>rfl
 | q :: r=>by
  unfold bkD lookB
  rw[List.map_cons]
  by_cases h:q.1=k
  ·rw[valV_pos (by rw[h]),if_pos h];rfl
  ·rw[valV_neg (fun z=>h (kP_inj z)),if_neg h];exact valV_bk k r
theorem putK_bk (fs:List Ent)(k:Int×Int)(z:Addr×(Int×Int)):putK (bkD fs) (kP k) (.ref z.1)=bkD (putB fs k z):=by
 unfold putB
 cases e:lookB fs k with
 | none =>
  rw[putK_new _ (by rw[valV_bk,e];rfl)]
  simp[bkD]
 | some y =>
  unfold putK
  have hin:(bkD fs).any (fun kv=>decide (kv.1=kP k))=true:=by
   rw[List.any_eq_true]
   exact⟨(kP k,.ref y.1),List.mem_map.mpr ⟨(k,y),lookB_mem e,rfl⟩,by simp⟩
  rw[if_pos hin]
  simp only[Option.isSome_some,if_true]
  unfold bkD
  rw[List.map_map,List.map_map]
  apply List.map_congr_left
  intro q _
  by_cases h:q.1=k
  ·simp[h]
  ·have:¬ kP q.1=kP k:=fun z=>h (kP_inj z)
   simp[h,this]
theorem putB_mem {fs:List Ent}{k:Int×Int}{z:Addr×(Int×Int)}{q:Ent}(h:q∈putB fs k z):q∈fs∨q=(k,z):=by
 unfold putB at h
 split at h
 ·obtain⟨y,hy,rfl⟩:=List.mem_map.mp h
  by_cases e:y.1=k
  ·right;simp[e]
  ·left;simpa [e]using hy
 ·simpa using h
theorem putB_nd {fs:List Ent}(k:Int×Int)(z:Addr×(Int×Int))(nd:(fs.map (·.1)).Nodup):((putB fs k z).map (·.1)).Nodup:=by
 unfold putB
 cases e:lookB fs k with
 | none =>
  simp only[Option.isSome_none,Bool.false_eq_true,if_false]
  rw[List.map_append,List.nodup_append]
  refine⟨nd,by simp,fun a ha b hb=>?_⟩
  simp at hb
  subst hb
  rintro rfl
  exact lookB_none.mp e ha
 | some y =>
  simp only[Option.isSome_some,if_true]
  rw[List.map_map]
  have:(fs.map ((fun q:Ent=>q.1) ∘ fun q=>if q.1=k then (q.1,z) else q))=fs.map (·.1):=by
   apply List.map_congr_left
   intro q _
   by_cases h:q.1=k <;> simp[h]
  rw[this]
  exact nd
theorem PB.put {H:Hp}{d va:Addr}{fs:List Ent}{k e:Int×Int}(P:PB H d fs)(hv:H va=some (.tup [.int e.1,.int e.2])):PB (upd H d (.dT (bkD (putB fs k (va,e))))) d (putB fs k (va,e)) :=
 ⟨upd_same,fun q hq=>by
  have:H q.2.1=some (.tup [.int q.2.2.1,.int q.2.2.2]):=by
   rcases putB_mem hq with h |rfl
   ·exact P.vl q h
   ·exact hv
  rw[upd_ne (ne_of this P.dc (by intro z;cases z))];exact this,putB_nd _ _ P.nd⟩
noncomputable def okS (q:Sv4):Prop:=0≤q.1.1∧q.1.1≤7∧0≤q.1.2∧q.1.2≤1000000000∧0≤q.2.1∧q.2.1≤1000000∧0≤q.2.2∧q.2.2≤q.2.1
noncomputable def mx (a b:Int):Int:=if b > a then b else a
noncomputable def noteV (fs:List Sv4)(q:Sv4):List Sv4:=putV fs q.1 (mx q.2.1 ((lookV fs q.1).getD (0,0)).1,mx q.2.2 ((lookV fs q.1).getD (0,0)).2)
theorem lookV_none {k:Int×Int}:∀ {fs:List Sv4},lookV fs k=none↔k∉fs.map (·.1)
 | []=>by simp[lookV]
 | q :: r=>by
  unfold lookV
  rw[List.map_cons]
  by_cases e:q.1=k
  ·simp[e]
  ·rw[if_neg e,lookV_none];simp[Ne.symm e]
theorem lookV_mem {k z:Int×Int}:∀ {fs:List Sv4},lookV fs k=some z→(k,z)∈fs
 | [],h=>by cases h
 | q :: r,h=>by
  unfold lookV at h
  by_cases e:q.1=k
  ·rw[if_pos e]at h;cases h;subst e;exact List.mem_cons_self ..
  ·rw[if_neg e]at h;exact List.mem_cons_of_mem _ (lookV_mem h)
theorem putV_mem {fs:List Sv4}{k z:Int×Int}{q:Sv4}(h:q∈putV fs k z):q∈fs∨q=(k,z):=by
 unfold putV at h
 split at h
 ·obtain⟨y,hy,rfl⟩:=List.mem_map.mp h
  by_cases e:y.1=k
  ·right;simp[e]
  ·left;simpa [e]using hy
 ·simpa using h
theorem noteV_ok {fs:List Sv4}{q:Sv4}(h:∀x∈fs,okS x)(hq:okS q):∀x∈noteV fs q,okS x:=by
 intro x hx
 rcases putV_mem hx with hx |rfl
 ·exact h x hx
 ·obtain⟨a1,a2,a3,a4,a5,a6,a7,a8⟩:=hq
  refine⟨a1,a2,a3,a4,?_⟩
  cases e:lookV fs q.1 with
  | none =>
   dsimp only[Option.getD_none,mx]
   refine⟨?_,?_,?_,?_⟩ <;> (repeat' split) <;> omega
  | some z =>
   obtain⟨_,_,_,_,b5,b6,b7,b8⟩:=h _ (lookV_mem e)
   dsimp only[Option.getD_some,mx]at *
   refine⟨?_,?_,?_,?_⟩ <;> (repeat' split) <;> omega
noncomputable def sayT (q:Sv4):PyData:=.tuple [.int q.1.1,.int q.1.2,.int q.2.1,.int q.2.2]
noncomputable def SayL (K:PySem.W.Frag)(H:Hp)(ws:List V)(qs:List Sv4):Prop:=Paired (fun w (q:Sv4)=>∃b,w=V.ref b∧SqT K H b [.int q.1.1,.int q.1.2,.int q.2.1,.int q.2.2]) ws qs
noncomputable def saidV (vs:List Sv4):List Sv4:=(srtP (vs.map (·.1))).map fun k=>(k,(lookV vs k).getD (0,0))
theorem bk_PK2 (fs:List Ent):bkD fs=PK2 (fs.map fun q=>(q.1,V.ref q.2.1)):=by unfold bkD PK2;rw[List.map_map];rfl
theorem mx_comm (a b:Int):mx a b=mx b a:=by unfold mx;split <;> split <;> omega
theorem dt_tuple {K:PySem.W.Frag}{N:List Addr}{H:Hp}{x:V}{es:List PyData}(h:Dt K N H x (.tuple es)):∃b ys,x = .ref b∧SqT K H b ys∧DtAll K N H ys es:=by
 cases h with
 | tup q n r=>exact⟨_,_,rfl,q,r⟩
theorem dt_4 {K:PySem.W.Frag}{N:List Addr}{H:Hp}{ys:List V}{es:List PyData}(h:DtAll K N H ys es)(hl:ys.length=4):∃y1 y2 y3 y4 e1 e2 e3 e4,ys = [y1,y2,y3,y4]∧es = [e1,e2,e3,e4]∧Dt K N H y1 e1∧Dt K N H y2 e2∧Dt K N H y3 e3∧Dt K N H y4 e4:=by
 cases h with
 | nil=>cases hl
 | cons h1 r=>cases r with
  | nil=>cases hl
  | cons h2 r=>cases r with
   | nil=>cases hl
   | cons h3 r=>cases r with
    | nil=>cases hl
    | cons h4 r=>cases r with
     | nil=>exact⟨_,_,_,_,_,_,_,_,rfl,rfl,h1,h2,h3,h4⟩
     | cons h5 r=>simp at hl
theorem dt_int {K:PySem.W.Frag}{N:List Addr}{H:Hp}{x:V}{i:Int}(h:Dt K N H x (.int i)):x = .int i:=by cases h;rfl
theorem dt_sayT {K:PySem.W.Frag}{N:List Addr}{H:Hp}{x:V}{q:Sv4}(h:Dt K N H x (sayT q)):∃b,x = .ref b∧SqT K H b [.int q.1.1,.int q.1.2,.int q.2.1,.int q.2.2]:=by
 obtain⟨b,ys,rfl,hq,r⟩:=dt_tuple h
 have hl:=r.length
 obtain⟨y1,y2,y3,y4,e1,e2,e3,e4,rfl,ee,h1,h2,h3,h4⟩:=dt_4 r (by simpa using hl)
 simp only[List.cons.injEq,and_true]at ee
 obtain⟨rfl,rfl,rfl,rfl⟩:=ee
 rw[dt_int h1,dt_int h2,dt_int h3,dt_int h4]at hq
 exact⟨b,rfl,hq⟩
theorem SayL.same {K:PySem.W.Frag}{H H':Hp}{ws:List V}{qs:List Sv4}(h:SayL K H ws qs)(s:Same H H'):SayL K H' ws qs:=Paired.mapP h fun _ _ ⟨b,e,g⟩=>⟨b,e,s.tupS g⟩
theorem SayL.dt {K:PySem.W.Frag}{H:Hp}:∀ {ws:List V}{qs:List Sv4},SayL K H ws qs→DtAll K [] H ws (qs.map sayT)
 | _,_,.nil=>.nil
 | _,_,.cons ⟨b,e,g⟩ r=>by subst e;exact .cons (.tup g (by simp) (.cons (.int _) (.cons (.int _) (.cons (.int _) (.cons (.int _) .nil))))) (SayL.dt r)
theorem SayL.snoc {K:PySem.W.Frag}{H:Hp}{a:Addr}{q:Sv4}(hq:SqT K H a [.int q.1.1,.int q.1.2,.int q.2.1,.int q.2.2]):∀ {ws:List V}{qs:List Sv4},SayL K H ws qs→SayL K H (ws ++ [.ref a]) (qs ++ [q])
 | _,_,.nil=>.cons ⟨a,rfl,hq⟩ .nil
 | _,_,.cons h r=>.cons h (SayL.snoc hq r)
theorem SayL.length {K:PySem.W.Frag}{H:Hp}{ws:List V}{qs:List Sv4}(h:SayL K H ws qs):ws.length=qs.length:=Paired.length h
theorem said_at {vs:List Sv4}{i:Nat}{k:Int×Int}(h:(srtP (vs.map (·.1)))[i]? = some k):(saidV vs)[i]? = some (k,(lookV vs k).getD (0,0)):=by unfold saidV;rw[List.getElem?_map,h];rfl
theorem SayL.at {K:PySem.W.Frag}{H:Hp}:∀ {ws:List V}{qs:List Sv4},SayL K H ws qs→∀ {i:Nat}{w:V},ws[i]? = some w→∃q b,qs[i]? = some q∧w = .ref b∧SqT K H b [.int q.1.1,.int q.1.2,.int q.2.1,.int q.2.2]
 | _,_,.cons ⟨b,e,g⟩ r,0,w,h=>by simp at h;subst h;exact⟨_,b,rfl,e,g⟩
 | _,_,.cons _ r,i+1,w,h=>by
  obtain⟨q,b,h1,h2,h3⟩:=SayL.at r (show _ from by simpa using h)
  exact⟨q,b,by simpa using h1,h2,h3⟩
theorem said_len (vs:List Sv4):(saidV vs).length=vs.length:=by unfold saidV;rw[List.length_map,(srtP_perm _).length_eq,List.length_map]
theorem bk_get {H:Hp}{d t:Addr}{fs:List Ent}(P:PB H d fs)(k:Int×Int)(ht:H t=some (.tup [.int 0,.int 0])):∃z:Addr,(((lookB fs k).map fun z=>V.ref z.1).getD (.ref t)) = .ref z∧H z=some (.tup [.int ((lookV (vw4 fs) k).getD (0,0)).1,.int ((lookV (vw4 fs) k).getD (0,0)).2])∧True:=by
 rw[look_vw]
 cases e:lookB fs k with
 | none=>exact⟨t,rfl,ht,trivial⟩
 | some y=>exact⟨y.1,rfl,P.vl _ (lookB_mem e),trivial⟩
theorem av2 {x y:Int}{j:Int}(h0:0≤j)(h1:j<2):∃v,atI [V.int x,V.int y] j=some (V.int v)∧(v=x∨v=y):=by
 obtain⟨n,rfl⟩:=Int.eq_ofNat_of_zero_le h0
 match n,h1 with
 | 0,_=>exact⟨_,rfl,.inl rfl⟩
 | 1,_=>exact⟨_,rfl,.inr rfl⟩
theorem av3 {x y z:Int}{j:Int}(h0:0≤j)(h1:j<3):∃v,atI [V.int x,V.int y,V.int z] j=some (V.int v)∧(v=x∨v=y∨v=z):=by
 obtain⟨n,rfl⟩:=Int.eq_ofNat_of_zero_le h0
 match n,h1 with
 | 0,_=>exact⟨_,rfl,.inl rfl⟩
 | 1,_=>exact⟨_,rfl,.inr (.inl rfl)⟩
 | 2,_=>exact⟨_,rfl,.inr (.inr rfl)⟩
theorem okS_mk {h l e p:Int}(a1:0≤h)(a2:h≤7)(a3:0≤l)(a4:l≤1000000000)(a5:0≤e)(a6:e≤1000000)(a7:0≤p)(a8:p≤e):okS ((h,l),(e,p)):=⟨a1,a2,a3,a4,a5,a6,a7,a8⟩
noncomputable def LastOk (H:Hp)(ls:List V):Prop:=∀v∈ls,∃(t:Addr)(q:Sv4),v = .ref t∧H t=some (.tup [.int q.1.1,.int q.1.2,.int q.2.1,.int q.2.2])∧okS q
theorem LastOk.map {H H':Hp}{ls:List V}(h:LastOk H ls)(f:∀t xs,H t=some (.tup xs)→H' t=some (.tup xs)):LastOk H' ls:=fun v hv=>by
 obtain⟨t,q,e,g,ok⟩:=h v hv
 exact⟨t,q,e,f _ _ g,ok⟩
noncomputable def NL (H H':Hp):Prop:=∀b o,H b=some o→(∀xs,o ≠ .lst xs)→H' b=some o
theorem nl_dk {H H':Hp}{st c r:Addr}{m:Nat}(D:Dk H st c r m)(x:Ext [st,r] H H'):NL H H':=fun _ _ hb ho=>ext_kind D x hb ho
theorem NL.same {H H':Hp}(s:Same H H'):NL H H':=fun b o e _=>s b o e
theorem PB.nl {H H':Hp}{d:Addr}{fs:List Ent}(P:PB H d fs)(x:NL H H'):PB H' d fs:=⟨x _ _ P.dc (fun _ z=>by cases z),fun q hq=>x _ _ (P.vl q hq) (fun _ z=>by cases z),P.nd⟩
theorem BkAt.nl {C:Addr}{H H':Hp}{p d:Addr}{fs:List Ent}(B:BkAt C H p d fs)(x:NL H H'):BkAt C H' p d fs:=⟨B.ob.imp fun _ e=>x _ _ e (fun _ z=>by cases z),B.pb.nl x⟩
theorem LastOk.nl {H H':Hp}{ls:List V}(h:LastOk H ls)(x:NL H H'):LastOk H' ls:=h.map fun _ _ g=>x _ _ g (fun _ z=>by cases z)
theorem PB.dict {H H':Hp}{d e:Addr}{fs:List Ent}{kvs:List (List Key×V)}(P:PB H d fs)(x:Ext [e] H H')(he:H e=some (.dT kvs))(n:d≠e):PB H' d fs :=
 ⟨x _ _ P.dc (by simpa using n),fun q hq=>x _ _ (P.vl q hq) (by simpa using ne_of (P.vl q hq) he (by intro z;cases z)),P.nd⟩
theorem BkAt.dict {C:Addr}{H H':Hp}{p d e:Addr}{fs:List Ent}{kvs:List (List Key×V)}(B:BkAt C H p d fs)(x:Ext [e] H H')(he:H e=some (.dT kvs))(n:d≠e):BkAt C H' p d fs :=
 ⟨B.ob.imp fun _ g=>x _ _ g (by simpa using ne_of g he (by intro z;cases z)),B.pb.dict x he n⟩
theorem lst_dict {H H':Hp}{l e:Addr}{ls:List V}{kvs:List (List Key×V)}(h:H l=some (.lst ls))(x:Ext [e] H H')(he:H e=some (.dT kvs)):H' l=some (.lst ls):=x _ _ h (by simpa using ne_of h he (by intro z;cases z))
theorem Dk.dict {H H':Hp}{st c r e:Addr}{m:Nat}{kvs:List (List Key×V)}(D:Dk H st c r m)(x:Ext [e] H H')(he:H e=some (.dT kvs)):Dk H' st c r m:=by
 obtain⟨cs,rs,n,w1,w2,w3,w⟩:=D.ex
 exact⟨cs,rs,n,lst_dict w1 x he,lst_dict w2 x he,lst_dict w3 x he,w⟩
theorem sayT_inj {a b:Sv4}(h:sayT a=sayT b):a=b:=by
 unfold sayT at h
 injection h with h
 simp only[List.cons.injEq,PyData.int.injEq,and_true]at h
 obtain⟨h1,h2,h3,h4⟩:=h
 exact Prod.ext (Prod.ext h1 h2) (Prod.ext h3 h4)
theorem vw_len {fs gs:List Ent}(h:vw4 fs=vw4 gs):fs.length=gs.length:=by have:=congrArg List.length h;simpa [vw4]using this
theorem noteV_len (fs:List Sv4)(q:Sv4):(noteV fs q).length≤fs.length+1:=by unfold noteV putV;split <;> simp
theorem said_depth (qs:List Sv4):(PyData.tuple (qs.map sayT)).depth<3:=by
 have:PyData.depthAll (qs.map sayT)≤1:=by
  induction qs with
  | nil=>simp[PyData.depthAll]
  | cons q r ih=>simp[PyData.depthAll,sayT,PyData.depth]at *;omega
 simp only[PyData.depth];omega
theorem PB.vnd {H:Hp}{d:Addr}{fs:List Ent}(P:PB H d fs):((vw4 fs).map (·.1)).Nodup:=by rw[vw_keys];exact P.nd
theorem said_keys (vs:List Sv4):(saidV vs).map (·.1)=srtP (vs.map (·.1)):=by unfold saidV;rw[List.map_map];exact(List.map_congr_left (fun _ _=>rfl)).trans (List.map_id _)
theorem said_nd {vs:List Sv4}(h:(vs.map (·.1)).Nodup):((saidV vs).map (·.1)).Nodup:=by rw[said_keys];exact(srtP_perm _).nodup_iff.mpr h
theorem said_mem {vs:List Sv4}{q:Sv4}(h:q∈saidV vs):q∈vs:=by
 obtain⟨k,hk,rfl⟩:=List.mem_map.mp h
 have hk:=(srtP_perm _).mem_iff.mp hk
 cases e:lookV vs k with
 | none=>exact absurd hk (lookV_none.mp e)
 | some z=>exact lookV_mem e
structure Two (C:Addr) (H:Hp) (st c r:Addr) (m i:Nat) (p0 d0 e0:Addr) (fs0 gs0:List Ent) (p1 d1 e1:Addr) (fs1 gs1:List Ent) (la:Addr) (ls:List V):Prop where
 dk:Dk H st c r m
 b0:BkAt C H p0 d0 fs0
 b1:BkAt C H p1 d1 fs1
 m0:PB H e0 gs0
 m1:PB H e1 gs1
 v0:vw4 fs0=vw4 gs0
 v1:vw4 fs1=vw4 gs1
 o0:∀x∈vw4 fs0,okS x
 o1:∀x∈vw4 fs1,okS x
 l0:fs0.length≤i
 l1:fs1.length≤i
 hl:H la=some (.lst ls)
 ll:ls.length≤i
 ok:LastOk H ls
section
variable {C:Addr}{H H':Hp}{st c r:Addr}{m i:Nat}{p0 d0 e0 p1 d1 e1 la:Addr}{fs0 gs0 fs1 gs1:List Ent}{ls:List V}
theorem Two.take {m':Nat}(J:Two C H st c r m i p0 d0 e0 fs0 gs0 p1 d1 e1 fs1 gs1 la ls)(S:Dk H' st c r m')(x:Ext [st,r] H H')(n:la ∉ [st,c,r]):Two C H' st c r m' i p0 d0 e0 fs0 gs0 p1 d1 e1 fs1 gs1 la ls :=
 have nl:=nl_dk J.dk x
 ⟨S,J.b0.nl nl,J.b1.nl nl,J.m0.nl nl,J.m1.nl nl,J.v0,J.v1,J.o0,J.o1,J.l0,J.l1,x _ _ J.hl (nin_pr n),J.ll,J.ok.nl nl⟩
theorem Two.mono {m' i':Nat}(J:Two C H st c r m i p0 d0 e0 fs0 gs0 p1 d1 e1 fs1 gs1 la ls)(h1:m≤m')(h2:i≤i'):Two C H st c r m' i' p0 d0 e0 fs0 gs0 p1 d1 e1 fs1 gs1 la ls :=
 ⟨J.dk.mono h1,J.b0,J.b1,J.m0,J.m1,J.v0,J.v1,J.o0,J.o1,Nat.le_trans J.l0 h2,Nat.le_trans J.l1 h2,J.hl,Nat.le_trans J.ll h2,J.ok⟩
theorem Two.swap (J:Two C H st c r m i p0 d0 e0 fs0 gs0 p1 d1 e1 fs1 gs1 la ls):Two C H st c r m i p1 d1 e1 fs1 gs1 p0 d0 e0 fs0 gs0 la ls :=
 ⟨J.dk,J.b1,J.b0,J.m1,J.m0,J.v1,J.v0,J.o1,J.o0,J.l1,J.l0,J.hl,J.ll,J.ok⟩
end
end L2
namespace Mt
open PySem L2
noncomputable def sayC (d1 d2 d3 d4:PyData):Bool:=withinD 0 7 d1 && withinD 0 1000000000 d2 && withinD 0 1000000 d3 && (match d3 with | .int e=>withinD 0 e d4 |_=>false)
noncomputable def sayD:PyData→Bool
 | .tuple [d1,d2,d3,d4]=>sayC d1 d2 d3 d4
 | _=>false
theorem within_int2 {lo hi:Int}{d:PyData}(h:withinD lo hi d=true):∃i,d = .int i∧lo≤i∧i≤hi:=by
 cases d with
 | int i=>simp[withinD]at h;exact⟨i,rfl,h.1,h.2⟩
 | _=>simp[withinD]at h
theorem sayD_int {d:PyData}(h:sayD d=true):∃q:Sv4,d=sayT q∧okS q:=by
 unfold sayD at h
 split at h
 ·rename_i d1 d2 d3 d4
  unfold sayC at h
  simp only[Bool.and_eq_true]at h
  obtain⟨⟨⟨h1,h2⟩,h3⟩,h4⟩:=h
  obtain⟨i1,rfl,a1,b1⟩:=within_int2 h1
  obtain⟨i2,rfl,a2,b2⟩:=within_int2 h2
  obtain⟨i3,rfl,a3,b3⟩:=within_int2 h3
  obtain⟨i4,rfl,a4,b4⟩:=within_int2 h4
  exact⟨((i1,i2),(i3,i4)),rfl,a1,b1,a2,b2,a3,b3,a4,b4⟩
 ·cases h
theorem sayD_ok {q:Sv4}(h:okS q):sayD (sayT q)=true:=by
 obtain⟨a1,a2,a3,a4,a5,a6,a7,a8⟩:=h
 simp[sayT,sayD,sayC,withinD,a1,a2,a3,a4,a5,a6,a7,a8]
theorem sayD_len {es:List PyData}(h:es.length≠4):sayD (.tuple es)=false:=by
 unfold sayD
 split
 ·rename_i e;cases e;simp at h
 ·rfl
theorem sayD_tup {d:PyData}(h:isTupD d=false):sayD d=false:=by
 cases d with
 | tuple es=>cases h
 | _=>rfl
theorem tup_of {d:PyData}(h:isTupD d=true):∃es,d = .tuple es:=by
 cases d with
 | tuple es=>exact⟨es,rfl⟩
 | _=>cases h
end Mt
namespace L2
open PySem PySem.Spec PyProof.Rows PySem.W
theorem comp_turnsD {prog:Program}{w:World}{A:Around}{R:Result→Shared→Prop}{s:Shared}{kx vx target iter:Expr}{ifs:List Expr}{scope:Scope}{pos:Pos}{it:Value}{D:Addr}{env:Env}(J:Nat→Shared→Prop)
  (turn : ∀n s,J n s→wpAny (model prog w) A (pyNext it) (fun r s1=>match r with
   | none=>R (.ok .next) s1
   | some v=>wpAny (model prog w) A (letOwnedTupleGo target it v) (fun _ s2=>wpAny (model prog w) A (assign target env v) (fun _ s3 =>
     wpAny (model prog w) A (compTests ifs env) (fun ok s4=>if ok=true then wpAny (model prog w) A (eval kx env) (fun x s5=>wpAny (model prog w) A (eval vx env) (fun y s6 =>
       wpAny (model prog w) A (dictSet D x y) (fun _ s7=>∃m,m<n∧J m s7) (fun _ _=>False) s6) (fun _ _=>False) s5) (fun _ _=>False) s4
      else ∃m,m<n∧J m s4) (fun _ _=>False) s3) (fun _ _=>False) s2) (fun _ _=>False) s1) (fun _ _=>False) s)
  (n:Nat) (h:J n s):codeAny (model prog w) A (.compLoop (.DictComp kx vx [⟨target,iter,ifs,0⟩] scope pos) 0 it (.ref D) env) R s:=by
 refine codeAny_loop rfl J (fun n s hJ=>?_) n h
 show wpAny _ A ((compTurn (.DictComp kx vx [⟨target,iter,ifs,0⟩] scope pos) 0 it (.ref D) env).onRaise (fun x=>do noteFrame x env;theTreesLotGoes x)) _ _ s
 refine wpAny_noted ?_
 have wk:∀ {α:Type}{t:Sem α}{Q Q':α→Shared→Prop}{E:Value→Shared→Prop}{s:Shared},wpAny (model prog w) A t Q (fun _ _=>False) s→(∀a s,Q a s→Q' a s)→wpAny (model prog w) A t Q' E s:=fun h q=>wpAny_mono h q fun _ _ f=>f.elim
 rw[compTurn_dict]
 refine wpAny_bind (wpAny_standAt (wpAny_bind (wk (turn n s hJ) fun r s1 h1=>?_)))
 cases r with
 | none=>exact wpAny_pure h1
 | some v =>
  refine wpAny_bind (wk h1 fun _ s2 h2=>wpAny_bind (wk h2 fun _ s3 h3=>?_))
  have h3':wpAny (model prog w) A (forIn ifs true fun c r=>if r=true then do let ok ← isTrue c env (eval c env);pure (ForInStep.yield ok) else pure (ForInStep.yield r)) (fun ok s4=>if ok=true then wpAny (model prog w) A (eval kx env) (fun x s5=>wpAny (model prog w) A (eval vx env) (fun y s6 =>
       wpAny (model prog w) A (dictSet D x y) (fun _ s7=>∃m,m<n∧J m s7) (fun _ _=>False) s6) (fun _ _=>False) s5) (fun _ _=>False) s4
      else ∃m,m<n∧J m s4) (fun _ _=>False) s3:=by
   have e:compTests ifs env=(forIn ifs true fun c r=>if r=true then do let ok ← isTrue c env (eval c env);pure (ForInStep.yield ok) else pure (ForInStep.yield r)) >>= pure:=by rfl
   rw[e,bind_pure]at h3
   exact h3
  refine wpAny_bind (wk h3' fun ok s4 h4=>?_)
  cases ok with
  | false=>exact wpAny_pure ⟨rfl,h4⟩
  | true=>exact wpAny_bind (wpAny_bind (wk h4 fun x s5 h5=>wpAny_bind (wpAny_holding (wk h5 fun y s6 h6=>wpAny_bind (wpAny_standAt (wpAny_holding (wk h6 fun _ s7 h7=>wpAny_pure ⟨rfl,h7⟩)))))))
noncomputable def DCompW (σ0:St)(J:It)(H1:Hp)(acc:Addr)(g:TG)(tt:TT)(tk tv:TE)(Q:VK):Prop :=
 ∃W : Nat→Nat→St→Hp→Prop,(∃m,W 0 m σ0 (upd H1 acc (.dK [])))∧∀i m σc H,W i m σc H →
  (J.stop i H∧Q (.ref acc) H)∨(J.go i H∧∃N:St→Hp→Prop,(∀ σ' H',N σ' H'→∃m',m'<m∧W (i+1) m' σ' H')∧∀x H',J.yld i H x H'→g x σc H' fun σ2 H2=>tt σ2 H2 fun b H3 =>
   if b=true then tk σ2 H3 fun y H4=>tv σ2 H4 fun v H5=>∃kvs k,H5 acc=some (.dK kvs)∧y=kV k∧kvs.length<sizeLine∧N σ2 (upd H5 acc (.dK (putK kvs k v))) else N σ2 H3)
noncomputable def tDComp (K:PySem.W.Frag)(fr:List (Option Nat))(wi:TI)(g:TG)(tt:TT)(tk tv:TE):TE:=fun σ H Q=>wi σ H fun J H1=>∀acc,H1 acc=none→K.lookup acc=none→DCompW (stC fr σ) J H1 acc g tt tk tv Q
section
variable {X:Cx}{sc:Scope}{cl:List (Str×Addr)}{NC:List Str}{fr:List (Option Nat)}{kx vx target iter:Expr}{ifs:List Expr}{pos:Pos}{wi:TI}{g:TG}{tt:TT}{tk tv:TE}
theorem dcomp_core {pins:List (Addr×Obj)}{s:Shared}{σ:St}{H:Hp}{Q:VK}{RR:Value→Addr→Result→Shared→Prop}(B:Blk X sc cl NC fr)(hc:X.calm=true)(hi:PI X target iter wi)
  (hg:∀fp s H,PG (cxC X sc cl NC fp s H) target g) (ht:∀fp s H,PF (cxC X sc cl NC fp s H) ifs tt) (hk:∀fp s H,PE (cxC X sc cl NC fp s H) kx tk) (hv:∀fp s H,PE (cxC X sc cl NC fp s H) vx tv)
  (I:Inv X pins σ H s) (h:tDComp X.K fr wi g tt tk tv σ H Q)
  (hRR:∀acc C s' H',Q (.ref acc) H'→(∃m,s'.heap.Ns C m)→Inv X pins σ H' s'→FpOk X pins H' C→RR (.ref acc) C (.ok .next) s') :
  wpAny (model X.prog X.w) X.A (eval iter X.env) (fun x s1=>wpAny (model X.prog X.w) X.A (pyIter x) (fun it s2=>wpAny (model X.prog X.w) X.A newDict (fun acc s3 =>
   wpAny (model X.prog X.w) X.A (newFunctionEnv sc X.env.globals cl [] X.env.qual none .none (some X.env)) (fun cenv s4 =>
    codeAny (model X.prog X.w) X.A (.compStart (.DictComp kx vx [⟨target,iter,ifs,0⟩] sc pos) 0 it acc { cenv with scope:=relabel sc X.env }) (RR acc cenv.locals) s4) X.xe s3) X.xe s2) X.xe s1) X.xe s:=by
 refine thn (hi pins s σ H _ I h) fun v s1 h1=>thn h1 fun itv s2 h2=>?_
 obtain⟨it,fp,tn,J,H2,e,I2,T,st2,f2,K⟩:=h2
 subst e
 have nk:X.K.lookup s2.heap.objs.size=none:=by
  cases q:X.K.lookup s2.heap.objs.size with
  | none=>rfl
  | some o=>exact absurd (Heap.lt_size (I2.kIn _ o q)) (Nat.lt_irrefl _)
 obtain⟨W,⟨m0,w0⟩,turn⟩:=K s2.heap.objs.size (I2.hok.fresh (Nat.le_refl _)) nk
 have I3:Inv X pins σ (upd H2 s2.heap.objs.size (.dK [])) { s2 with heap:=s2.heap.push { cls:=.type "dict",dict:=none,data:=.dict #[] } } :=
  I2.laid (a:=s2.heap.objs.size) (o:=.dK []) (t':=s2.toks) (fun _ _ q=>Heap.get?_push_of_some _ q) (Nat.le_refl _) (dk_empty s2.heap I2.big)
 have lt2:∀b∈fp,b<s2.heap.objs.size:=fun b hb=>by
  obtain⟨o,e,_⟩:=T.obj _ _ st2 b hb
  exact Heap.lt_size e
 have f3:∀b∈fp,FpOk X pins (upd H2 s2.heap.objs.size (.dK [])) b:=fun b hb=>⟨by rw[upd_ne (Nat.ne_of_lt (lt2 b hb))];exact(f2 b hb).1,(f2 b hb).2⟩
 refine wpAny_newObj_type (wpAny_newFunctionEnv B.nocell (by intro y hy;simp at hy) (fun h4 hns4 hsb4=>?_) B.kind)
 dsimp only at hns4 hsb4 ⊢
 generalize hs3:({ s2 with heap:=s2.heap.push { cls:=.type "dict",dict:=none,data:=.dict #[] } }:Shared)=s3 at I3 ⊢
 have hh3:s3.heap=s2.heap.push { cls:=.type "dict",dict:=none,data:=.dict #[] }:=by rw[← hs3]
 have z3:s3.heap.objs.size=s2.heap.objs.size+1:=by rw[hh3,Heap.size_push]
 rw[← hh3]at hns4 hsb4 ⊢
 have k4:∀b o,s3.heap.get? b=some o→h4.get? b=some o:=fun b o e=>hsb4.extBut b o (Nat.ne_of_lt (Heap.lt_size e)) (Heap.get?_push_of_some _ e)
 have lt3:∀b∈fp,b<s3.heap.objs.size:=fun b hb=>by rw[z3];exact Nat.lt_succ_of_lt (lt2 b hb)
 have start:∀s4:Shared,s4 = { s2 with heap:=h4,toks:=s2.toks+([]:List (Str×Value)).length }→codeAny (model X.prog X.w) X.A (.compLoop (.DictComp kx vx [⟨target,iter,ifs,0⟩] sc pos) 0 (.ref it) (.ref s2.heap.objs.size) (compEnvC sc cl s3.heap.objs.size X.env)) (RR (.ref s2.heap.objs.size) s3.heap.objs.size) s4:=by
  rintro s4 rfl
  have I4:Inv (cxC X sc cl NC fp s3 (upd H2 s2.heap.objs.size (.dK []))) [] (stC fr σ) (upd H2 s2.heap.objs.size (.dK [])) { s2 with heap:=h4,toks:=s2.toks+([]:List (Str×Value)).length } :=
   blk_start B I3 f3 lt3 ⟨_,hns4⟩ k4 (by rw[← hs3]) (by rw[← hs3])
  have st4:tn 0 h4:=T.keep _ _ _ st2 fun b hb o e=>k4 b o (by rw[hh3];exact Heap.get?_push_of_some _ e)
  have stat:∀ {H':Hp},(∀b∈fp,H' b=none)→∀b∈fp,FpOk (cxC X sc cl NC fp s3 (upd H2 s2.heap.objs.size (.dK []))) [] H' b:=fun hn b hb =>
   ⟨hn b hb,(I4.ok.exf b hb).1,I4.ok.exfs b hb,.inl hb,(I4.ok.exf b hb).2,fun p hp=>absurd (show p∈([]:List (Addr×Obj))from hp) (by simp)⟩
  refine comp_turnsD (fun n s'=>∃i σ' H',Inv (cxC X sc cl NC fp s3 (upd H2 s2.heap.objs.size (.dK []))) [] σ' H' s'∧tn i s'.heap∧(∀b∈fp,H' b=none)∧W i n σ' H') ?_ m0 ⟨0,_,_,I4,st4,fun b hb=>(f3 b hb).1,w0⟩
  rintro n s5 ⟨i,σ5,H5,I5,st5,fr5,w5⟩
  rcases turn i n σ5 H5 w5 with ⟨stop,qn⟩ | ⟨go,N,hN,step⟩
  ·refine thn (T.done (cxC X sc cl NC fp s3 (upd H2 s2.heap.objs.size (.dK []))) rfl rfl rfl hc i [] s5 σ5 H5 _ I5 (stat fr5) st5 stop) fun r s6 ⟨hr,I6⟩=>?_
   subst hr
   have hC:H5 s3.heap.objs.size=none:=I6.free
   refine hRR _ _ s6 H5 qn (let ⟨m,hm,_⟩:=I6.loc; ⟨m,hm⟩) ?_ (I3.fpOk (Nat.le_refl _) hC)
   have un:Un (frs X.stack) fp (upd H2 s2.heap.objs.size (.dK [])) H5 s3.heap s6.heap:=I6.base
   have eo:s6.os=s3.os:=I6.os
   have hb6:=I6.bare
   have hk6:HOk X.prog X.w H5 s6.heap:=I6.hok
   obtain⟨hh6,g6,d6,t6,os6⟩:=s6
   dsimp only at eo
   subst eo
   exact I3.call (h':=hh6) (g':=g6) (d':=d6) (t':=t6) (ch:=fp) un hk6 hb6 fun b hb=>⟨(f3 b hb).2.2.2.1,(f3 b hb).2.1,(f3 b hb).2.2.2.2.1,(f3 b hb).2.2.2.2.2⟩
  ·refine thn (T.item (cxC X sc cl NC fp s3 (upd H2 s2.heap.objs.size (.dK []))) rfl rfl rfl hc i [] s5 σ5 H5 _ I5 (stat fr5) st5 go) fun r s6 ⟨u,hr,h6⟩=>?_
   subst hr
   refine thn h6 fun _ s7 ⟨x,H7,I7,r7,y7,st7,fr7⟩=>?_
   have I7':=I7.pinned (stat fr7) (T.obj _ _ st7)
   refine thn (hg fp s3 _ _ s7 σ5 H7 x u _ I7' r7 (step x H7 y7)) fun _ s8 ⟨σ8,H8,I8,q8⟩=>?_
   refine thn (ht fp s3 _ _ s8 σ8 H8 _ I8 q8) fun b s9 ⟨H9,I9,q9⟩=>?_
   have again:∀ {s10:Shared}{σ7:St}{H10:Hp},Inv (cxC X sc cl NC fp s3 (upd H2 s2.heap.objs.size (.dK []))) ([] ++ pinsAt fp s7.heap) σ7 H10 s10→N σ7 H10 →
     ∃m,m<n∧∃i σ' H',Inv (cxC X sc cl NC fp s3 (upd H2 s2.heap.objs.size (.dK []))) [] σ' H' s10∧tn i s10.heap∧(∀b∈fp,H' b=none)∧W i m σ' H':=fun {s10 σ7 H10} I10 n7=>by
    obtain⟨m',hm,w7⟩:=hN σ7 H10 n7
    refine⟨m',hm,i+1,σ7,H10,I10.unpinned,T.keep _ _ _ st7 fun b hb o e=>(I10.pin (b,o) (List.mem_append_right _ (List.mem_append_right _ (mem_pinsAt hb e)))).1,fun b hb=>?_,w7⟩
    obtain⟨o,e,d⟩:=T.obj _ _ st7 b hb
    exact(I10.pin (b,o) (List.mem_append_right _ (List.mem_append_right _ (mem_pinsAt hb e)))).2.1
   cases b with
   | false=>exact again I9 q9
   | true =>
    refine thn (hk fp s3 _ _ s9 σ8 H9 _ I9 q9) fun y s10 ⟨yv,H10,I10,r10,q10⟩=>?_
    refine thn (hv fp s3 _ _ s10 σ8 H10 _ I10 q10) fun z s11 ⟨zv,H11,I11,r11,kvs,k,q1,q2,q3,q4⟩=>?_
    subst q2
    obtain⟨zz,hd,vs,rel,dd⟩:=dk_of I11.hok q1
    have hz:vs.length≤sizeLine:=by rw[← rel.length];exact zz
    have hl:(putK kvs k zv).length≤sizeLine:=by have:=length_putK kvs k zv;omega
    refine wpAny_dictSet_pairs (hsz:=hz) (knd:=mixKind X.prog X.w) (kV_is r10) dd fun h' dd' hs=>?_
    have he:∃q,h'.get? s2.heap.objs.size=some q:=let ⟨q,_,_,hq,_⟩:=dd'; ⟨q,hq⟩
    exact again (d_write I11 (by rw[q1];exact True.intro) hs he (dk_new hl hd (rel.put k r11) dd')) q4
 exact codeAny_compStart_dict (start _ rfl) (T.self _ _ _ _ _ (T.keep _ _ _ st2 fun b hb o e=>k4 b o (by rw[hh3];exact Heap.get?_push_of_some _ e)) (start _ rfl))
theorem pe_dcomp (B:Blk X sc cl NC fr)(hc:X.calm=true)(hi:PI X target iter wi)(hg:∀fp s H,PG (cxC X sc cl NC fp s H) target g)(ht:∀fp s H,PF (cxC X sc cl NC fp s H) ifs tt)(hk:∀fp s H,PE (cxC X sc cl NC fp s H) kx tk)(hv:∀fp s H,PE (cxC X sc cl NC fp s H) vx tv)
  (hs:∀x,foldedSetIterable iter X.env x=pure x):PE X (.DictComp kx vx [⟨target,iter,ifs,0⟩] sc pos) (tDComp X.K fr wi g tt tk tv):=by
 intro pins s σ H Q I h
 rw[arm_eval_DictComp]
 refine wpAny_comprehension_free (use:=none) rfl hs (closure_of B.cls) B.kind B.names ?_
 refine dcomp_core (RR:=fun acc C=>compPost (model X.prog X.w) X.A X.xe none (EP X pins σ Q) acc C) B hc hi hg ht hk hv I h ?_
 rintro acc C s' H' q ⟨m,hn⟩ I' ⟨f0,f1,f2,f3,f4,f5⟩
 exact⟨m,hn,fun h' sb=>⟨.ref acc,H',I'.turned (t':=s'.toks) (fun b o hb e=>sb.extBut b o hb e) f0 f1 f3 f4 f5,rfl,q⟩⟩
end
theorem rd_dcomp {K:PySem.W.Frag}{fr:List (Option Nat)}{wi:TI}{g:TG}{tt:TT}{tk tv:TE}{σ:St}{H:Hp}{Q:VK}(h:wi σ H fun J H1=>∀acc,H1 acc=none→K.lookup acc=none→DCompW (stC fr σ) J H1 acc g tt tk tv Q):tDComp K fr wi g tt tk tv σ H Q:=h
theorem dcomp_by {J:It}{H1:Hp}{acc:Addr}{σ0:St}{g:TG}{tt:TT}{tk tv:TE}{Q:VK}(n:Nat)(hn:n<sizeLine)(Pv:Nat→List (Key×V)→St→Hp→Prop)(h0:Pv 0 [] σ0 (upd H1 acc (.dK [])))
  (hgo:∀i kvs σc H,i<n→kvs.length≤i→H acc=some (.dK kvs)→Pv i kvs σc H→J.go i H∧∀x H',J.yld i H x H'→∀(R:St→V→V→Hp→Prop) (S:St→Hp→Prop),
   (∀ σ2 k v H4,H4 acc=some (.dK kvs)→Pv (i+1) (putK kvs k v) σ2 (upd H4 acc (.dK (putK kvs k v)))→R σ2 (kV k) v H4)→(∀ σ2 H4,H4 acc=some (.dK kvs)→Pv (i+1) kvs σ2 H4→S σ2 H4) →
   g x σc H' fun σ2 H2=>tt σ2 H2 fun b H3=>if b=true then tk σ2 H3 fun y H4=>tv σ2 H4 (R σ2 y) else S σ2 H3)
  (hst:∀kvs σc H,kvs.length≤n→H acc=some (.dK kvs)→Pv n kvs σc H→J.stop n H∧Q (.ref acc) H):DCompW σ0 J H1 acc g tt tk tv Q:=by
 refine⟨fun i m σc H=>m=n - i∧i≤n∧∃kvs,kvs.length≤i∧H acc=some (.dK kvs)∧Pv i kvs σc H,⟨n,by simp,Nat.zero_le _,[],Nat.le_refl _,upd_same,h0⟩,?_⟩
 rintro i m σc H ⟨rfl,hi,kvs,hl,ha,hp⟩
 by_cases hlt:i<n
 ·obtain⟨g1,g2⟩:=hgo i kvs σc H hlt hl ha hp
  refine .inr ⟨g1,fun σ' H'=>i+1≤n∧∃kvs,kvs.length≤i+1∧H' acc=some (.dK kvs)∧Pv (i+1) kvs σ' H',fun σ' H' q=>⟨n - (i+1),by omega,rfl,q⟩,fun x H' y=>?_⟩
  refine g2 x H' y (fun σ2 y v H5=>∃kvs k,H5 acc=some (.dK kvs)∧y=kV k∧kvs.length<sizeLine∧(i+1≤n∧∃kws,kws.length≤i+1∧(upd H5 acc (.dK (putK kvs k v))) acc=some (.dK kws)∧Pv (i+1) kws σ2 (upd H5 acc (.dK (putK kvs k v)))))
   (fun σ2 H4=>i+1≤n∧∃kvs,kvs.length≤i+1∧H4 acc=some (.dK kvs)∧Pv (i+1) kvs σ2 H4)
   (fun σ2 k v H4 q1 q2=>⟨kvs,k,q1,rfl,by omega,hlt,putK kvs k v,by have:=length_putK kvs k v;omega,upd_same,q2⟩) fun σ2 H4 q1 q2=>⟨hlt,kvs,by omega,q1,q2⟩
 ·have e:i=n:=by omega
  subst e
  exact .inl (hst kvs σc H hl ha hp)
theorem boot_sorted:bootBuiltins ("sorted":Str)=some (.builtin "sorted"):=by decide +kernel
section
variable {X:Cx}{o:Expr}{td:TE}{p apos cpos pos kp bp:Pos}{j:Nat}
end
noncomputable def srtI (l:List Int):List Int:=l.mergeSort (fun a b=>decide (a≤b))
theorem srtI_perm (l:List Int):(srtI l).Perm l:=List.mergeSort_perm _ _
theorem srtI_srt (l:List Int):(srtI l).Pairwise (· ≤ ·):=by
 have h:=List.pairwise_mergeSort (le:=fun a b:Int=>decide (a≤b)) (fun a b c h1 h2=>by simp at *;omega) (fun a b=>by simp;omega) l
 exact h.imp (fun h=>by simpa using h)
theorem srtI_of {ns l:List Int}(p:ns.Perm l)(h:ns.Pairwise (· ≤ ·)):ns=srtI l:=srt_uniq (p.trans (srtI_perm l).symm) h (srtI_srt l)
theorem srtI_len (l:List Int):(srtI l).length=l.length:=(srtI_perm l).length_eq
noncomputable def apD:PyData→Bool
 | .tuple (.str w :: _)=>decide (w = "applied")
 | _=>false
noncomputable def rkD:PyData→Option Int
 | .tuple [_,.int k]=>some k
 | _=>none
theorem rule_head {d:PyData}(h:Mt.ruleD d=true):∃w ds,d = .tuple (.str w :: ds):=by
 rcases Mt.rule_shape h with rfl | ⟨w,k,rfl,_⟩
 ·exact⟨_,_,rfl⟩
 ·exact⟨_,_,rfl⟩
noncomputable def cntV (ap:Bool)(q:Sv4):Int:=if ap=true then q.2.2 else q.2.1
noncomputable def numV (vs:List Sv4)(line:Int)(ap:Bool):List (Int×Int):=((saidV vs).filter fun q=>decide (q.1.2=line)).map fun q=>(q.1.1,cntV ap q)
noncomputable def othV (vs:List Sv4)(line house:Int)(ap:Bool):List (Int×Int):=((saidV vs).filter fun q=>decide (q.1.2=line) && decide (q.1.1≠house)).map fun q=>(q.1.1,cntV ap q)
theorem oth_num (vs:List Sv4)(line house:Int)(ap:Bool):othV vs line house ap=(numV vs line ap).filter fun p=>decide (p.1≠house):=by
 unfold othV numV
 rw[List.filter_map,List.filter_filter]
 congr 1
 apply List.filter_congr
 intro q _
 simp only[Function.comp]
 rw[Bool.and_comm]
theorem num_len (vs:List Sv4)(line:Int)(ap:Bool):(numV vs line ap).length≤vs.length:=by
 unfold numV;rw[List.length_map];exact Nat.le_trans (List.length_filter_le _ _) (Nat.le_of_eq (said_len vs))
theorem num_nd {vs:List Sv4}(nd:(vs.map (·.1)).Nodup)(line:Int)(ap:Bool):((numV vs line ap).map (·.1)).Nodup:=by
 have h:(saidV vs).Pairwise (fun a b=>a.1≠b.1):=List.pairwise_map.mp (said_nd nd)
 unfold numV
 rw[List.map_map]
 refine List.pairwise_map.mpr ?_
 refine List.Pairwise.imp_of_mem (fun {a b} ha hb hab e=>hab ?_) (h.filter _)
 have h1:=of_decide_eq_true (List.mem_filter.mp ha).2
 have h2:=of_decide_eq_true (List.mem_filter.mp hb).2
 exact Prod.ext e (by rw[h1,h2])
theorem oth_nd {vs:List Sv4}(nd:(vs.map (·.1)).Nodup)(line house:Int)(ap:Bool):((othV vs line house ap).map (·.1)).Nodup:=by
 rw[oth_num];exact(num_nd nd line ap).sublist (List.Sublist.map _ List.filter_sublist)
noncomputable def placeV:Option Int→List Int→Int→Int
 | none,_,en=>en
 | some k,vals,en=>if (vals.length:Int) ≥ k then (if en<(srtI vals).reverse.getD (k - 1).toNat 0 then en else (srtI vals).reverse.getD (k - 1).toNat 0) else 0
noncomputable def doneV (vs:List Sv4)(line fork en house:Int)(rk:Option Int)(ap:Bool):Option (Int×List Int) :=
 if placeV rk ((othV vs line house ap).map (·.2)) en≤fork then none
 else some (placeV rk ((othV vs line house ap).map (·.2)) en,srtI (house :: ((othV vs line house ap).filter fun p=>decide (p.2 ≥ placeV rk ((othV vs line house ap).map (·.2)) en)).map (·.1)))
noncomputable def doneD (line:Int):Option (Int×List Int)→PyData
 | none=>.none
 | some z=>.tuple [.int line,.int z.1,.tuple (z.2.map PyData.int)]
theorem putK_snoc {fs:List (Int×Int)}{k v:Int}(h:k∉fs.map (·.1)):putK (FK fs) (.inl k) (.int v)=FK (fs ++ [(k,v)]):=by
 rw[putK_new _ (by rw[val_FK,lookI_none.mpr h];rfl)];simp[FK]
theorem dcomp_said {K:Frag}{a:Addr}{H1:Hp}{acc:Addr}{σ0:St}{g:TG}{tt:TT}{tk tv:TE}{Q:VK}(qs:List Sv4)(ws:List V)(pb:Sv4→Bool)(pr:Sv4→Int×Int)(Sg:St→Prop)(hn:qs.length≤1000)(na:H1 acc=none)(h0:Sg σ0)
  (hq:SqT K H1 a ws) (hs:SayL K H1 ws qs) (nd:(((qs.filter pb).map pr).map (·.1)).Nodup)
  (hb:∀(q:Sv4) (b:Addr) σc H (R:St→V→V→Hp→Prop) (S:St→Hp→Prop),q∈qs→SqT K H b [.int q.1.1,.int q.1.2,.int q.2.1,.int q.2.2]→Same H1 H→Sg σc→(pb q=true→∀ σ2,Sg σ2→R σ2 (.int (pr q).1) (.int (pr q).2) H)→(pb q=false→∀ σ2,Sg σ2→S σ2 H) →
   g (.ref b) σc H fun σ2 H2=>tt σ2 H2 fun b H3=>if b=true then tk σ2 H3 fun y H4=>tv σ2 H4 (R σ2 y) else S σ2 H3)
  (hst:∀H,Same H1 H→H acc=some (.dK (FK ((qs.filter pb).map pr)))→Q (.ref acc) H):DCompW σ0 (Itt K a) H1 acc g tt tk tv Q:=by
 have hl:=hs.length
 refine dcomp_by qs.length (small1000 hn) (fun i kvs σc H=>Same H1 H∧Sg σc∧kvs=FK (((qs.take i).filter pb).map pr)) ⟨Same.upd na,h0,rfl⟩ ?_ ?_
 ·rintro i kvs σc H hi hlw ha ⟨sm,hs',rfl⟩
  have hL:=sm.tupS hq
  have hv:i<ws.length:=by omega
  obtain⟨q,b,hq',hw,hb'⟩:=(hs.same sm).at (List.getElem?_eq_getElem hv)
  rw[List.getElem?_eq_getElem hi]at hq'
  cases hq'
  refine⟨⟨_,_,hL,List.getElem?_eq_getElem hv⟩,?_⟩
  rintro x H' ⟨rfl,hx⟩ R S hR hS
  have ex:=hx _ hL
  rw[List.getElem?_eq_getElem hv,hw]at ex;cases ex
  have tk:qs.take (i+1)=qs.take i ++ [qs[i]]:=by rw[List.take_add_one];simp[hi]
  refine hb qs[i] b σc H' R S (List.getElem_mem hi) hb' sm hs' (fun e σ2 h2=>hR σ2 (.inl (pr qs[i]).1) _ H' ha ⟨fun b u e=>?_,h2,?_⟩) (fun e σ2 h2=>hS σ2 H' ha ⟨sm,h2,?_⟩)
  ·rw[upd_ne (ne_of_none e na)];exact sm b u e
  ·have e3:((qs.take (i+1)).filter pb).map pr=((qs.take i).filter pb).map pr ++ [pr qs[i]]:=by
    rw[tk,List.filter_append,List.filter_cons,if_pos e,List.map_append];rfl
   rw[e3]
   refine putK_snoc ?_
   have e4:((qs.filter pb).map pr)=((qs.take (i+1)).filter pb).map pr ++ ((qs.drop (i+1)).filter pb).map pr:=by
    rw[← List.map_append,← List.filter_append,List.take_append_drop]
   rw[e4,e3,List.map_append,List.map_append]at nd
   have nd2:=(List.nodup_append.mp nd).1
   intro hm
   exact(List.nodup_append.mp nd2).2.2 _ hm _ (by simp) rfl
  ·rw[tk,List.filter_append,List.filter_cons,if_neg (by rw[e];exact Bool.false_ne_true),List.filter_nil,List.append_nil]
 ·rintro kvs σc H hlw ha ⟨sm,_,rfl⟩
  rw[List.take_length]at ha
  exact⟨⟨_,sm.tupS hq,by omega⟩,hst H sm ha⟩
theorem comp_pairsL {K:Frag}{N:List Addr}{a:Addr}{H1:Hp}{acc:Addr}{σ0:St}{g:TG}{tt:TT}{te:TE}{Q:VK}(ps:List (Int×Int))(vs:List V)(pb:Int×Int→Bool)(pr:Int×Int→Int)(Sg:St→Prop)(hn:ps.length≤1000)(na:H1 acc=none)(h0:Sg σ0)
  (hq:H1 a=some (.lst vs)) (hd:DtAll K N H1 vs (ps.map pairD))
  (hb:∀(p:Int×Int) (q:Addr) σc H (R:St→V→Hp→Prop) (S:St→Hp→Prop),p∈ps→SqT K H q [.int p.1,.int p.2]→Same H1 H→Sg σc→(pb p=true→∀ σ2,Sg σ2→R σ2 (.int (pr p)) H)→(pb p=false→∀ σ2,Sg σ2→S σ2 H) →
   g (.ref q) σc H fun σ2 H2=>tt σ2 H2 fun b H3=>if b=true then te σ2 H3 (R σ2) else S σ2 H3)
  (hst:∀H,Same H1 H→H acc=some (.lst (((ps.filter pb).map pr).map V.int))→Q (.ref acc) H):CompW σ0 (Itl K a) H1 acc g tt te Q:=by
 have hl:=hd.length
 rw[List.length_map]at hl
 refine comp_byF ps.length (small1000 hn) (fun i ws σc H=>Same H1 H∧Sg σc∧ws=(((ps.take i).filter pb).map pr).map V.int) ⟨Same.upd na,h0,rfl⟩ ?_ ?_
 ·rintro i ws σc H hi hlw ha ⟨sm,hs,rfl⟩
  have hL:SqL K H a vs:=SqL.of (sm _ _ hq)
  have hv:i<vs.length:=by omega
  obtain⟨d,e1,e2⟩:=hd.get (List.getElem?_eq_getElem hv)
  rw[List.getElem?_map,List.getElem?_eq_getElem hi]at e1
  cases e1
  obtain⟨q,ev,hp,_⟩:=dt_pair e2
  refine⟨⟨_,_,hL,List.getElem?_eq_getElem hv⟩,?_⟩
  rintro x H' ⟨rfl,hx⟩ R S hR hS
  have ex:=hx _ hL
  rw[List.getElem?_eq_getElem hv,ev]at ex;cases ex
  have tk:ps.take (i+1)=ps.take i ++ [ps[i]]:=by rw[List.take_add_one];simp[hi]
  refine hb ps[i] q σc H' R S (List.getElem_mem hi) (sm.tupS hp) sm hs (fun e σ2 h2=>hR σ2 _ H' ha ⟨fun b u e=>?_,h2,?_⟩) (fun e σ2 h2=>hS σ2 H' ha ⟨sm,h2,?_⟩)
  ·rw[upd_ne (ne_of_none e na)];exact sm b u e
  ·rw[tk,List.filter_append,List.filter_cons,if_pos e,List.map_append,List.map_append];rfl
  ·rw[tk,List.filter_append,List.filter_cons,if_neg (by rw[e];exact Bool.false_ne_true),List.filter_nil,List.append_nil]
 ·rintro ws σc H hlw ha ⟨sm,_,rfl⟩
  rw[List.take_length]at ha
  exact⟨⟨_,SqL.of (sm _ _ hq),by omega⟩,hst H sm ha⟩
theorem getD_at {ns:List Int}{j:Int}(h0:0≤j)(h1:j<ns.length):atI (ns.map V.int) j=some (.int (ns.getD j.toNat 0)):=by
 obtain⟨n,rfl⟩:=Int.eq_ofNat_of_zero_le h0
 have hn:n<ns.length:=by omega
 exact atI_nat (by simp[hn])
theorem rev_at {l:List Int}{k:Int}(h1:1≤k)(h2:k≤l.length):l.reverse.getD (k - 1).toNat 0=l.getD ((l.length:Int) - k).toNat 0:=by
 obtain⟨n,rfl⟩:=Int.eq_ofNat_of_zero_le (show 0≤k by omega)
 have a1:n≤l.length:=by omega
 have a2:1≤n:=by omega
 have e1:((n:Int) - 1).toNat=n - 1:=by omega
 have e2:((l.length:Int) - n).toNat=l.length - n:=by omega
 rw[e1,e2,List.getD_eq_getElem?_getD,List.getD_eq_getElem?_getD,List.getElem?_reverse (by omega),show l.length - 1 - (n - 1)=l.length - n by omega]
theorem said_shaped (qs:List Sv4):SeqAt.shaped (.tuple (qs.map sayT))=true:=by
 have h1:PyData.canLayAll0 (qs.map sayT)=true:=by
  induction qs with
  | nil=>rfl
  | cons q r ih=>simp only[List.map_cons,PyData.canLayAll0,sayT,PyData.canLay0,Bool.true_and,ih]
 have h2:=said_depth qs
 unfold SeqAt.shaped
 simp only[PyData.canLay0,h1,Bool.true_and,decide_eq_true_eq]
 omega
theorem said_eqv (qs:List Sv4):PyData.eqv (.tuple (qs.map sayT)) (.tuple (qs.map sayT))=true:=by
 have h:(PyData.tuple (qs.map sayT)).canLay0=true:=by
  have:=said_shaped qs
  unfold SeqAt.shaped at this
  exact(Bool.and_eq_true_iff.mp this).1
 first |exact SeqAt.eqv_refl _ h |exact PySem.eqv_refl _ h
theorem SqT.nl {K:Frag}{H H':Hp}{b:Addr}{ys:List V}(h:SqT K H b ys)(x:NL H H'):SqT K H' b ys:=by
 rcases h with (h | ⟨o,h⟩) |h
 ·exact .inl (.inl (x _ _ h (fun _ z=>by cases z)))
 ·exact .inl (.inr ⟨o,x _ _ h (fun _ z=>by cases z)⟩)
 ·exact .inr h
theorem SayL.nl {K:Frag}{H H':Hp}{ws:List V}{qs:List Sv4}(h:SayL K H ws qs)(s:NL H H'):SayL K H' ws qs:=Paired.mapP h fun _ _ ⟨b,e,g⟩=>⟨b,e,g.nl s⟩
noncomputable def plc (m:Nat):List Nat:=(List.range 8).filter fun k=>m.testBit k
noncomputable def tbl (led:Bool)(m:Nat):SetTable:={ mask:=if 5≤(plc m).length then 31 else 7,place:=(plc m).toArray,dummies:=#[],finger:=0,led:=led,moves:=if 5≤(plc m).length then 1 else 0,plain:=true }
noncomputable def plu (led:Bool)(m x:Nat):SetTable:={ tbl led m with place:=(plc (m ||| 2 ^ x)).toArray }
noncomputable def allB (p:Bool→Nat→Nat→Bool):Bool:=(List.range 256).all fun m=>(List.range 8).all fun x=>m.testBit x || (p true m x && p false m x)
theorem allB_of {p:Bool→Nat→Nat→Bool}(h:allB p=true) {led:Bool}{m x:Nat}(hm:m<256)(hx:x<8)(hn:m.testBit x=false):p led m x=true:=by
 unfold allB at h
 have h1:=List.all_eq_true.mp h m (List.mem_range.mpr hm)
 have h2:=List.all_eq_true.mp h1 x (List.mem_range.mpr hx)
 rw[hn,Bool.false_or,Bool.and_eq_true]at h2
 cases led
 ·exact h2.2
 ·exact h2.1
noncomputable def chkAdd (led:Bool)(m x:Nat):Bool :=
  decide ((tbl led m).freeSlot (x:Int)=some (x,false)) &&
  (let p:=SetTable.below (plc m).toArray x
   decide ((tbl led m).put x=(plu led m x,p)) && decide ((plc m).take p ++ x :: (plc m).drop p=plc (m ||| 2 ^ x)) && decide (p≤(plc m).length) &&
   (plu led m x).fits (plc (m ||| 2 ^ x)).length &&
   (if (plu led m x).tooFull=true then decide ((plc (m ||| 2 ^ x)).length=5) && decide ((plu led m x).relaid ((plc (m ||| 2 ^ x)).map fun (k:Nat)=>(k:Int)).toArray (SetTable.grown 5)=some (tbl led (m ||| 2 ^ x),#[0,1,2,3,4])) && (tbl led (m ||| 2 ^ x)).fits 5
    else decide (plu led m x=tbl led (m ||| 2 ^ x))))
theorem chk_all:allB chkAdd=true:=by decide +kernel
noncomputable def byText (w:World):Bool:=w.params.followText "set-order"
noncomputable def Ents (m:Nat)(es:Array (Int×Value)):Prop:=es.toList.map (·.1)=(plc m).map (fun (k:Nat)=>(k:Int))∧∀e∈es.toList,∃t,e.2 = .int e.1 t
structure SetAt (w:World) (h:Heap) (a:Addr) (m:Nat) (o:Obj) (es:Array (Int×Value)) (ep:Nat):Prop where
 hm:m<256
 get:h.get? a=some o
 ex:o.ExactSet
 dat:o.data = .set es ep (tbl (!byText w) m)
 ents:Ents m es
theorem plc_len (m:Nat):(plc m).length≤8:=by
 unfold plc
 exact Nat.le_trans (List.length_filter_le _ _) (by simp)
theorem Ents.size {m:Nat}{es:Array (Int×Value)}(h:Ents m es):es.size=(plc m).length:=by
 have:=congrArg List.length h.1
 simpa using this
theorem tbl_fits (led:Bool)(m:Nat):(tbl led m).fits (plc m).length=true:=by
 have:=plc_len m
 unfold SetTable.fits SetTable.fill tbl
 simp
 split <;> omega
theorem hash8 {prog:Program}{w:World}:∀k:Nat,k<8→(intKind prog w).hash (k:Int)=(k:Int):=by
 intro k hk
 match k,hk with
 | 0,_=>rfl
 | 1,_=>rfl
 | 2,_=>rfl
 | 3,_=>rfl
 | 4,_=>rfl
 | 5,_=>rfl
 | 6,_=>rfl
 | 7,_=>rfl
theorem is_int {prog:Program}{w:World}(i:Int)(t:Tok):(intKind prog w).is i (.int i t)=true:=by
 first |rfl | (show decide _=true;simp) |simp[intKind]
theorem is_int_iff {prog:Program}{w:World}(i j:Int)(t:Tok):(intKind prog w).is i (.int j t)=decide (i=j):=by
 show Value.isInt i (.int j t)=_
 by_cases h:i=j
 ·subst h;simp[Value.isInt]
 ·simp[Value.isInt,h,Ne.symm h]
theorem insertAt_list {α:Type}(xs:Array α)(p:Nat)(y:α):(SetTable.insertAt xs p y).toList=xs.toList.take p ++ y :: xs.toList.drop p:=by
 unfold SetTable.insertAt
 rw[Array.toList_append,Array.toList_push,Array.toList_extract,Array.toList_extract]
 simp[List.extract_eq_take_drop]
 rw[List.take_of_length_le (by simp)]
theorem plc_mem {m x:Nat}(hx:x<8):x∈plc m↔m.testBit x=true:=by
 unfold plc
 rw[List.mem_filter,List.mem_range]
 exact⟨fun h=>h.2,fun h=>⟨hx,h⟩⟩
theorem or_lt {m x:Nat}(hm:m<256)(hx:x<8):m ||| 2 ^ x<256:=by
 have h2:2 ^ x<2 ^ 8:=Nat.pow_lt_pow_right (by decide) hx
 exact Nat.or_lt_two_pow (n:=8) hm h2
theorem or_same {m x:Nat}(h:m.testBit x=true):m ||| 2 ^ x=m:=by
 apply Nat.eq_of_testBit_eq
 intro i
 rw[Nat.testBit_or,Nat.testBit_two_pow]
 by_cases e:x=i
 ·subst e;rw[h];rfl
 ·simp[e]
structure Added (led:Bool) (m x p:Nat):Prop where
 fs:(tbl led m).freeSlot (x:Int)=some (x,false)
 pt:(tbl led m).put x=(plu led m x,p)
 ls:(plc m).take p ++ x :: (plc m).drop p=plc (m ||| 2 ^ x)
 ple:p≤(plc m).length
 ft:(plu led m x).fits (plc (m ||| 2 ^ x)).length=true
 full:(plu led m x).tooFull=true→(plc (m ||| 2 ^ x)).length=5∧(plu led m x).relaid ((plc (m ||| 2 ^ x)).map fun (k:Nat)=>(k:Int)).toArray (SetTable.grown 5)=some (tbl led (m ||| 2 ^ x),#[0,1,2,3,4])∧(tbl led (m ||| 2 ^ x)).fits 5=true
 room:(plu led m x).tooFull=false→plu led m x=tbl led (m ||| 2 ^ x)
theorem added (led:Bool) {m x:Nat}(hm:m<256)(hx:x<8)(hn:m.testBit x=false):Added led m x (SetTable.below (plc m).toArray x):=by
 have h:=allB_of chk_all (led:=led) hm hx hn
 unfold chkAdd at h
 simp only[Bool.and_eq_true,decide_eq_true_eq]at h
 obtain⟨h1,⟨⟨⟨h2,h3⟩,h4⟩,h5⟩,h6⟩:=h
 refine⟨h1,h2,h3,h4,h5,fun z=>?_,fun z=>?_⟩
 ·rw[if_pos z]at h6
  simp only[Bool.and_eq_true,decide_eq_true_eq]at h6
  exact⟨h6.1.1,h6.1.2,h6.2⟩
 ·rw[if_neg (by rw[z];decide)]at h6
  exact of_decide_eq_true h6
theorem Ents.add {m x p:Nat}{led:Bool}{es:Array (Int×Value)}{t:Tok}(h:Ents m es)(ad:Added led m x p):Ents (m ||| 2 ^ x) (SetTable.insertAt es p ((x:Int),.int x t)):=by
 refine⟨?_,fun e he=>?_⟩
 ·rw[insertAt_list,List.map_append,List.map_cons,List.map_take,List.map_drop,h.1,← ad.ls,List.map_append,List.map_cons,List.map_take,List.map_drop]
 ·rw[insertAt_list]at he
  rcases List.mem_append.mp he with he |he
  ·exact h.2 e (List.mem_of_mem_take he)
  ·rcases List.mem_cons.mp he with rfl |he
   ·exact⟨t,rfl⟩
   ·exact h.2 e (List.mem_of_mem_drop he)
theorem lay_new {led:Bool}{m x p:Nat}{es:Array (Int×Value)}{v:Value}(h:Ents m es)(h2:(SetTable.insertAt es p ((x:Int),v)).size=(plc (m ||| 2 ^ x)).length)(ad:Added led m x p):layNew (tbl led m) es (x:Int) v=(SetTable.insertAt es p ((x:Int),v),plu led m x,false,false):=by
 unfold layNew
 simp only[ad.fs,ad.pt]
 rw[h2]
 unfold SetTable.orStandIn
 rw[ad.ft];rfl
theorem arr5 {α:Type}{es:Array α}(h:es.size=5):#[0,1,2,3,4].filterMap (fun (x:Nat)=>es[x]?)=es:=by
 obtain⟨l⟩:=es
 match l,h with
 | [a,b,c,d,e],_=>rfl
theorem relay {led:Bool}{m x p:Nat}{es:Array (Int×Value)}(h:Ents (m ||| 2 ^ x) es)(ad:Added led m x p)(z:(plu led m x).tooFull=true):relayAll (plu led m x) es (SetTable.grown es.size)=(es,tbl led (m ||| 2 ^ x),false):=by
 obtain⟨h1,h2,h3⟩:=ad.full z
 have hs:es.size=5:=by rw[h.size,h1]
 unfold relayAll
 have e:es.map (fun x=>x.1)=((plc (m ||| 2 ^ x)).map fun (k:Nat)=>(k:Int)).toArray:=by
  apply Array.ext'
  rw[Array.toList_map]
  exact h.1
 rw[hs,e,h2]
 show (if (coversAll #[0,1,2,3,4] 5 && (tbl led (m ||| 2 ^ x)).fits (#[0,1,2,3,4].filterMap (fun (x:Nat)=>es[x]?)).size)=true then _ else _)=_
 rw[arr5 hs,hs,h3,if_pos (by decide)]
theorem put_get {h:Heap}{a:Addr}{o:Obj}{es es':Array (Int×Value)}{ep:Nat}{t t':SetTable}(hg:h.get? a=some o)(hd:o.data = .set es ep t):(h.update a (Obj.putSet es' t')).get? a=some { o with data:=.set es' (ep+1) t' }:=by
 obtain⟨c,d,dat,sl⟩:=o
 simp only at hd
 subst hd
 exact Heap.get?_update_self (f:=Obj.putSet es' t') hg (by rfl)
section
variable {prog:Program}{w:World}{A:Around}{E:Value→Shared→Prop}{s:Shared}{a:Addr}{m x ep:Nat}{o:Obj}{es:Array (Int×Value)}{t:Tok}
theorem set_state {Q:Array (Int×Value)×Nat×SetTable→Shared→Prop}(S:SetAt w s.heap a m o es ep)(h:Q (es,ep,tbl (!byText w) m) s):wpAny (model prog w) A (setState a) Q E s :=
 wpAny_setState_of S.get S.dat (by rw[S.ents.size];exact tbl_fits _ _) h
theorem set_add {Q:Bool→Shared→Prop}(S:SetAt w s.heap a m o es ep)(hx:x<8)
  (h:∀b h' o' es' ep',Heap.SameBut a s.heap h'→SetAt w h' a (m ||| 2 ^ x) o' es' ep'→Q b { s with heap:=h' }):wpAny (model prog w) A (setAddHashed a (.int x t) (x:Int)) Q E s:=by
 unfold setAddHashed
 refine wpAny_holding ?_
 show wpAny _ _ (setAddHashedIn a (.int x t) (x:Int) (99999+1)) _ _ _
 unfold setAddHashedIn
 refine wpAny_bind (set_state S ?_)
 have sc:byScan (.int (x:Int) t) es=true:=by
  unfold byScan
  have h1:es.size<scanBound:=by
   have:=S.ents.size
   have:=plc_len m
   show es.size<4096
   omega
  have h2:(es.all fun x=>x.2.scannable)=true:=by
   rw[← Array.all_toList,List.all_eq_true]
   intro e he
   obtain⟨t',e'⟩:=S.ents.2 e he
   rw[e'];rfl
  rw[decide_eq_true h1,h2];rfl
 show wpAny _ _ (if byScan (.int (x:Int) t) es=true then _ else _) _ _ s
 rw[if_pos sc]
 have elems:ElemsOf (intKind prog w) es.toList:=fun e he=>by
  obtain⟨t',e'⟩:=S.ents.2 e he
  have hk:e.1∈(plc m).map (fun (k:Nat)=>(k:Int)):=by
   rw[← S.ents.1];exact List.mem_map_of_mem he
  obtain⟨k,hk,hk'⟩:=List.mem_map.mp hk
  have hk8:k<8:=by
   unfold plc at hk
   exact List.mem_range.mp (List.mem_filter.mp hk).1
  refine⟨⟨e.1,by rw[e'];exact is_int _ _,by rw[← hk'];exact(hash8 k hk8).symm⟩,by rw[e'];rfl⟩
 unfold setAddByScan
 refine wpAny_bind (wpAny_bind (wpAny_rule (wpAny_bind ?_)))
 have hsc:=hash8 (prog:=prog) (w:=w) x hx
 rw[show setScan a (.int (x:Int) t) (x:Int) true es=setScan a (.int (x:Int) t) ((intKind prog w).hash (x:Int)) true es by rw[hsc]]
 refine wpAny_setScan_of (knd:=intKind prog w) (k:=(x:Int)) (is_int _ _) S.get S.dat (by rw[S.ents.size];exact tbl_fits _ _) elems ?_
 cases hf:List.findIdx? (fun e=>(intKind prog w).is (x:Int) e.snd) es.toList with
 | some j =>
  show wpAny _ _ (pure (some false)) _ _ s
  refine wpAny_pure (wpAny_pure ?_)
  have hb:m.testBit x=true:=by
   obtain⟨hj,h1,_⟩:=List.findIdx?_eq_some_iff_getElem.mp hf
   have he:=List.getElem_mem hj
   obtain⟨t',e'⟩:=S.ents.2 _ he
   rw[e',is_int_iff,decide_eq_true_eq]at h1
   have hk:es.toList[j].1∈(plc m).map (fun (k:Nat)=>(k:Int)):=by
    rw[← S.ents.1];exact List.mem_map_of_mem he
   obtain⟨k,hk,hk'⟩:=List.mem_map.mp hk
   have:k=x:=by omega
   subst this
   exact(plc_mem hx).mp hk
  have:=h false s.heap o es ep (Heap.SameBut.refl ..) (by rw[or_same hb];exact S)
  exact this
 | none =>
  have hb:m.testBit x=false:=by
   cases hb:m.testBit x with
   | false=>rfl
   | true =>
    have hk:((x:Nat):Int)∈es.toList.map (·.1):=by
     rw[S.ents.1];exact List.mem_map_of_mem ((plc_mem hx).mpr hb)
    obtain⟨e,he,e1⟩:=List.mem_map.mp hk
    obtain⟨t',e'⟩:=S.ents.2 _ he
    have:=List.findIdx?_eq_none_iff.mp hf e he
    rw[e',is_int_iff,← e1]at this
    simp at this
  have ad:=added (!byText w) S.hm hx hb
  have E1:=S.ents.add (t:=t) ad
  have hz:=E1.size
  rw[lay_new S.ents hz ad]
  dsimp only
  refine wpAny_bind (wpAny_of_eq (a:=()) rfl ?_)
  rw[if_pos (show (plu (!byText w) m x).plain=true from rfl),hashByValue.eq_3]
  refine wpAny_bind (wpAny_pure ?_)
  rw[if_pos rfl]
  have z8:es.size≤8:=by rw[S.ents.size];exact plc_len m
  have h8:(SetTable.insertAt es (SetTable.below (plc m).toArray x) ((x:Int),Value.int (x:Int) t)).size≤8:=by rw[hz];exact plc_len _
  refine wpAny_bind (wpAny_storeSet_of S.get S.dat ?_ (by rw[sizeLine_eq];omega))
  generalize hp:SetTable.below (plc m).toArray x=p at *
  generalize he:SetTable.insertAt es p ((x:Int),Value.int (x:Int) t)=es1 at *
  have g1:=put_get (es':=es1) (t':=plu (!byText w) m x) S.get S.dat
  have sb1:Heap.SameBut a s.heap (s.heap.update a (Obj.putSet es1 (plu (!byText w) m x))):=Heap.SameBut.update ..
  cases hf:(plu (!byText w) m x).tooFull with
  | false =>
   rw[if_neg (by decide)]
   refine wpAny_pure (wpAny_pure (h true _ _ es1 (ep+1) sb1 ⟨or_lt S.hm hx,g1,S.ex,?_,E1⟩))
   show Data.set es1 (ep+1) _=_
   rw[ad.room hf]
  | true =>
   rw[if_pos (by decide)]
   have rl:=relay E1 ad hf
   rw[rl]
   dsimp only
   refine wpAny_bind (wpAny_of_eq (a:=()) rfl ?_)
   refine wpAny_bind (wpAny_storeSet_of (s:={ s with heap:=s.heap.update a (Obj.putSet es1 (plu (!byText w) m x)) }) g1 rfl ?_ (by rw[sizeLine_eq];omega))
   have g2:=put_get (es':=es1) (t':=tbl (!byText w) (m ||| 2 ^ x)) g1 rfl
   exact wpAny_pure (wpAny_pure (h true _ _ es1 (ep+1+1) (sb1.trans (Heap.SameBut.update ..)) ⟨or_lt S.hm hx,g2,S.ex,rfl,E1⟩))
end
theorem sl_entry:entryFor table "set.update.loop" = some Builtin.«set.update.loop»:=F.entry_set_update_loop
theorem sl_plain:plainId "set.update.loop" = true:=F.plain_set_update_loop
noncomputable def orm (ks:List Nat)(m:Nat):Nat:=ks.foldl (fun m x=>m ||| 2 ^ x) m
section
variable {prog:Program}{w:World}{A:Around}{E:Value→Shared→Prop}{s:Shared}
theorem set_empty {h:Heap}:SetAt w (h.push { cls:=.type "set",data:=.set #[] 0 (SetTable.fresh 0 0 (!byText w)) }) h.objs.size 0 { cls:=.type "set",data:=.set #[] 0 (SetTable.fresh 0 0 (!byText w)) } #[] 0 :=
 ⟨by decide,Heap.get?_push_size _ rfl,⟨rfl,rfl,rfl⟩,rfl,rfl,by simp⟩
theorem new_set {Q:Value→Shared→Prop}(h:Q (.ref s.heap.objs.size) { s with heap:=s.heap.push { cls:=.type "set",data:=.set #[] 0 (SetTable.fresh 0 0 (!byText w)) } }):wpAny (model prog w) A (newSet (.type "set")) Q E s:=by
 unfold newSet
 refine wpAny_bind ?_
 unfold setsByText
 refine wpAny_bind (wpAny_askSetting ?_)
 refine wpAny_pure ?_
 exact wpAny_newObj_type h
theorem code_set (a:Value) {Q₁:Value→Shared→Prop}(h:Q₁ (.ref s.heap.objs.size) { s with heap:=s.heap.push { cls:=.type "set",data:=.set #[] 0 (SetTable.fresh 0 0 (!byText w)) } }) :
  codeAny (model prog w) A (.call (.builtin "set.__new__") ⟨[.type "set",a],[]⟩) (wants Q₁ E) s:=by
 refine codeAny_of_tree (wpAny_bind (wpAny_of_eq (F.newCall_set_1 a) (wpAny_pure ⟨plainId_quiet F.plain_set_new _,codeAny_builtin F.entry_set_new ?_⟩)))
 rw[Around.under_plainId F.plain_set_new]
 unfold Builtin.«set.__new__» Builtin.Frozenset.newClass
 refine wpAny_bind (wpAny_bind ?_)
 show wpAny _ _ (pure true) _ _ s
 refine wpAny_pure (wpAny_ite_false rfl (wpAny_bind (wpAny_of_eq sub_set_self (wpAny_ite_false rfl (wpAny_pure (wpAny_bind (new_set ?_)))))))
 exact wpAny_pure h
theorem set_loop {R:Result→Shared→Prop}{I:Addr}{fp wr:List Addr}{P:Nat→Value→Prop}{St:Nat→Heap→Prop}(ks:List Nat)(W:Walks prog w A.in1 I fp wr ks.length P St)(a:Addr)(ha:a∉fp)
  (hv:∀(i:Nat) (v:Value) (k:Nat),ks[i]? = some k→P i v→∃t,v = .int (k:Int) t) (h8:∀k∈ks,k<8):∀(n i:Nat) (s:Shared) (m:Nat) (o:Obj) (es:Array (Int×Value)) (ep:Nat),ks.length - i=n→i≤ks.length→St i s.heap→SetAt w s.heap a m o es ep →
   (∀h' tk o' es' ep',(∀b u,b≠a→b∉wr→s.heap.get? b=some u→h'.get? b=some u)→SetAt w h' a (orm (ks.drop i) m) o' es' ep'→R (.ok (.ret .none)) { s with heap:=h',toks:=tk }) →
   codeAny (model prog w) A (.builtin "set.update.loop" ⟨[.ref a,.ref I],[]⟩) R s:=by
 intro n
 induction n with
 | zero =>
  intro i s m o es ep hk hi hst S hR
  have e:i=ks.length:=by omega
  subst e
  refine codeAny_builtin sl_entry ?_
  rw[Around.under_plainId sl_plain _]
  show wpAny _ A.in1 (pyNext (.ref I) >>= _) _ _ s
  refine wpAny_bind (W.done s _ _ hst fun h' tk kp=>?_)
  have S':SetAt w h' a m o es ep:=⟨S.hm,kp _ _ (fun z=>ha (W.sub _ z)) S.get,S.ex,S.dat,S.ents⟩
  rw[List.drop_length]at hR
  exact wpAny_pure (hR h' tk o es ep (fun b u _ h2 q=>kp b u h2 q) S')
 | succ n ih =>
  intro i s m o es ep hk hi hst S hR
  have hlt:i<ks.length:=by omega
  refine codeAny_builtin sl_entry ?_
  rw[Around.under_plainId sl_plain _]
  show wpAny _ A.in1 (pyNext (.ref I) >>= _) _ _ s
  refine wpAny_bind (W.item i s _ _ hlt hst fun v h' tk hp hst' kp=>?_)
  obtain⟨t,rfl⟩:=hv i v ks[i] (by simp[hlt]) hp
  have S':SetAt w h' a m o es ep:=⟨S.hm,kp _ _ (fun z=>ha (W.sub _ z)) S.get,S.ex,S.dat,S.ents⟩
  have hk8:=h8 ks[i] (List.getElem_mem hlt)
  refine wpAny_bind (wpAny_holding ?_)
  unfold setAdd
  refine wpAny_holding (wpAny_bind ((intKind prog w).pyHash (k:=(ks[i]:Int)) (is_int _ _) ?_))
  rw[hash8 _ hk8]
  refine set_add (s:={ s with heap:=h',toks:=tk+1 }) S' hk8 fun b h2 o2 es2 ep2 sb S2=>?_
  refine wpAny_pure ⟨plainId_quiet sl_plain _,?_⟩
  have na:∀b,b∈fp→b≠a:=fun b hb z=>ha (z ▸ hb)
  refine ih (i+1) _ (m ||| 2 ^ ks[i]) o2 es2 ep2 (by omega) hlt (W.frame _ _ _ hst' fun b hb u q=>sb.extBut b u (na b hb) q) S2 fun h3 tk3 o3 es3 ep3 k3 S3=>?_
  have ed:ks.drop i=ks[i] :: ks.drop (i+1):=(List.drop_eq_getElem_cons hlt)
  have:=hR h3 tk3 o3 es3 ep3 (fun b u h1 h2' q=>k3 b u h1 h2' (sb.extBut b u h1 (kp b u h2' q))) (by rw[ed];exact S3)
  exact this
theorem call_set {Q:Value→Shared→Prop}(l:Addr)
  (h:wpAny (model prog w) A.in1 (call (.builtin "set.__init__") [.ref s.heap.objs.size,.ref l]) (fun r s2=>r = .none∧Q (.ref s.heap.objs.size) s2) E { s with heap:=s.heap.push { cls:=.type "set",data:=.set #[] 0 (SetTable.fresh 0 0 (!byText w)) } }) :
  wpAny (model prog w) A (call (.type "set") [.ref l]) Q E s:=by
 obtain⟨c,tl,hmro⟩:=F.called_set.mro
 refine wpAny_call (codeAny_of_tree ?_)
 refine wpAny_pure ⟨Code.quiet_builtin _ PySem.call_set_list._proof_1_1,codeAny_builtin F.entry_type_call ?_⟩
 rw[Around.under_plain (weight_type_call_type "set" [.ref l] []) rfl]
 unfold Builtin.«type.__call__»
 dsimp only
 refine wpAny_ite_false rfl ?_
 refine wpAny_ite_false rfl ?_
 refine wpAny_bind (wpAny_of_eq (F.typeCall_set_1 (.ref l)) ?_)
 refine wpAny_bind (wpAny_of_eq hmro ?_)
 refine wpAny_ite_false rfl ?_
 refine wpAny_bind (wpAny_of_eq F.called_set.made ?_)
 refine wpAny_bind (wpAny_pure ?_)
 refine wpAny_bind (wpAny_holding (wpAny_call (codeAny_mono (code_set (E:=E) (.ref l) (Q₁:=fun v s'=>v = .ref s.heap.objs.size∧s' = { s with heap:=s.heap.push { cls:=.type "set",data:=.set #[] 0 (SetTable.fresh 0 0 (!byText w)) } }) ⟨rfl,rfl⟩) fun r s₁ hr=>?_)))
 cases r with
 | error e=>exact hr
 | ok f =>
  cases f with
  | ret v =>
   obtain⟨rfl,rfl⟩:=hr
   have ty:Shared.TypeIs { s with heap:=s.heap.push { cls:=.type "set",data:=.set #[] 0 (SetTable.fresh 0 0 (!byText w)) } } (.ref s.heap.objs.size) "set":=⟨_,Heap.get?_push_size _ rfl,rfl⟩
   refine wpAny_bind (wpAny_isInstance (b:=true) ty F.called_set.sub ?_)
   refine wpAny_ite_false rfl ?_
   refine wpAny_bind (wpAny_holding (wpAny_callSpecial?_slot (name:=Str.ofString "__init__") ty F.slot_set_init (wpAny_mono h (fun r s2 hr=>?_) (fun e s hE=>hE))))
   obtain⟨rfl,hq⟩:=hr
   exact wpAny_ite_false rfl (wpAny_pure hq)
  | _=>exact hr.elim
end
theorem fill0 (b:Bool):(tbl b 0).fill=0:=by cases b <;> decide
section
variable {prog:Program}{w:World}{A:Around}{E:Value→Shared→Prop}{s:Shared}
theorem set_ctorT {Q:Value→Shared→Prop}{p:Addr}{its:List Value}(hh:A.handled=none)(tp:s.heap.IsTuple p its.toArray)(ks:List Nat)(hl:its.length=ks.length)(hv:∀(i:Nat)(v:Value)(k:Nat),its[i]? = some v→ks[i]? = some k→∃t,v = .int (k:Int) t)(h8:∀k∈ks,k<8)
  (h:∀h' tk o es ep,(∀b u,s.heap.get? b=some u→h'.get? b=some u)→SetAt w h' s.heap.objs.size (orm ks 0) o es ep→Q (.ref s.heap.objs.size) { s with heap:=h',toks:=tk }) :
  wpAny (model prog w) A (call (.type "set") [.ref p]) Q E s:=by
 refine call_set p ?_
 have S0:SetAt w (s.heap.push { cls:=.type "set",data:=.set #[] 0 (SetTable.fresh 0 0 (!byText w)) }) s.heap.objs.size 0 _ #[] 0:=set_empty
 have ty:Shared.TypeIs { s with heap:=s.heap.push { cls:=.type "set",data:=.set #[] 0 (SetTable.fresh 0 0 (!byText w)) } } (.ref s.heap.objs.size) "set":=⟨_,Heap.get?_push_size _ rfl,rfl⟩
 have tp1:(s.heap.push { cls:=.type "set",data:=.set #[] 0 (SetTable.fresh 0 0 (!byText w)) }).IsTuple p its.toArray:=let ⟨o,e,r⟩:=tp; ⟨o,Heap.get?_push_of_some _ e,r⟩
 have hne:p≠s.heap.objs.size:=let ⟨o,e,r⟩:=tp;Nat.ne_of_lt (Heap.lt_size e)
 refine wpAny_call (codeAny_call_builtin F.slot_set_init.plain F.entry_set_init (check_set_init_1 ty ?_))
 unfold Builtin.«set.__init__»
 refine wpAny_bind ?_
 show wpAny _ _ (pure ()) _ _ _
 refine wpAny_pure ?_
 dsimp only
 unfold typeNameOfCut shownTypeOf
 refine wpAny_bind (wpAny_bind (wpAny_bind (wpAny_typeOf ty (wpAny_ite_false rfl (wpAny_pure ?_)))))
 refine wpAny_of_eq (a:="set") (by first |rfl | (simp only[typeNameCut];rfl)) ?_
 refine wpAny_bind (m:=checkCount "set" 0 1 _) (wpAny_pure ?_)
 refine wpAny_bind (m:=Builtin.Frozenset.addrOf _) (wpAny_pure ?_)
 unfold setUsed
 refine wpAny_bind (wpAny_bind (set_state S0 (wpAny_pure ?_)))
 rw[if_neg (show ¬ ((tbl (!byText w) 0).fill != 0)=true by rw[fill0];decide)]
 refine wpAny_bind ?_
 unfold Builtin.Frozenset.updateFrom
 obtain⟨op,hop,hcp,_⟩:=id tp1
 have typ:Shared.TypeIs { s with heap:=s.heap.push { cls:=.type "set",data:=.set #[] 0 (SetTable.fresh 0 0 (!byText w)) } } (.ref p) "tuple":=⟨op,hop,hcp⟩
 refine wpAny_bind ?_
 unfold Builtin.Frozenset.isAnySet
 refine wpAny_bind (wpAny_isInstance (b:=false) typ F.sub_tuple_set ?_)
 show wpAny _ _ (isInstance (.ref p) (.type "frozenset")) _ _ _
 refine wpAny_isInstance (b:=false) typ F.sub_tuple_frozenset ?_
 refine wpAny_ite_false rfl ?_
 refine wpAny_bind (wpAny_typeOf typ ?_)
 refine wpAny_ite_false rfl ?_
 refine wpAny_bind (wpAny_pyIter_tuple tp1 ?_)
 refine wpAny_bind (wpAny_runValue ?_)
 have hlt:p<s.heap.objs.size:=let ⟨o,e,r⟩:=tp;Heap.lt_size e
 generalize hH:s.heap.push { cls:=.type "set",data:=.set #[] 0 (SetTable.fresh 0 0 (!byText w)) } = h0 at *
 have hsz:h0.objs.size=s.heap.objs.size+1:=by rw[← hH,size_push']
 have keep:∀b u,s.heap.get? b=some u→h0.get? b=some u:=fun b u e=>by rw[← hH];exact Heap.get?_push_of_some _ e
 have W:=Walks.tuple (prog:=prog) (w:=w) (A:=A.in1.in1.in1) hh h0.objs.size p (Nat.ne_of_lt (by rw[hsz];exact Nat.lt_succ_of_lt hlt)) its.toArray
 have elen:its.toArray.size=ks.length:=by simpa using hl
 rw[elen]at W
 refine set_loop ks W s.heap.objs.size ?_ ?_ h8 _ 0 _ 0 _ #[] 0 rfl (Nat.zero_le _) ⟨⟨_,Heap.get?_push_size _ rfl,rfl,rfl⟩,(let ⟨o,e,r⟩:=tp1; ⟨o,Heap.get?_push_of_some _ e,r⟩)⟩ ⟨S0.hm,Heap.get?_push_of_some _ S0.get,S0.ex,S0.dat,S0.ents⟩ fun h' tk o' es' ep' kp S'=>?_
 ·simp only[List.mem_cons,List.not_mem_nil,or_false,not_or]
  exact⟨Nat.ne_of_lt (by rw[hsz];exact Nat.lt_succ_self _),Nat.ne_of_gt hlt⟩
 ·intro i v k hk hp
  exact hv i v k (by simpa using hp) hk
 ·refine wpAny_pure (wpAny_pure ⟨rfl,h h' tk o' es' ep' (fun b u e=>?_) S'⟩)
  have hb:=Heap.lt_size e
  exact kp b u (Nat.ne_of_lt hb) (by simp only[List.mem_cons,List.not_mem_nil,or_false];exact Nat.ne_of_lt (by rw[hsz];exact Nat.lt_succ_of_lt hb)) (Heap.get?_push_of_some _ (keep b u e))
end
theorem si_owner:Manifest.owners.lookup (String.ofList ['r','o','t','a','r','e','t','i','_','t','e','s'].reverse)=some Manifest.sig_set_iterator:=by kernel_rfl
theorem si_next:Slot "set_iterator" "__next__" "set_iterator.__next__" :=
 .of (owner:="set_iterator") (n:="__next__") (by rw[typeLookup_type,builtinLookup_eq_fast];kernel_rfl) (by decide +kernel) (by decide +kernel) (by decide +kernel)
  (by first |exact .inl (by decide +kernel) |exact .inr (by decide +kernel)) (by rw[isSubtype_type];kernel_rfl)
theorem si_nextE:entryFor table "set_iterator.__next__" = some Builtin.«set_iterator.__next__»:=entryFor_of_tree (by kernel_rfl)
theorem si_nextA (a:Value):argsOk "set_iterator.__next__" ⟨[a],[]⟩:=by
 unfold argsOk;rw[signature?_of (id:="set_iterator.__next__") (n:=['_','_','t','x','e','n','_','_']) (o:=['r','o','t','a','r','e','t','i','_','t','e','s']) (by kernel_rfl) si_owner];kernel_rfl
theorem si_iter:Slot "set_iterator" "__iter__" "set_iterator.__iter__" :=
 .of (owner:="set_iterator") (n:="__iter__") (by rw[typeLookup_type,builtinLookup_eq_fast];kernel_rfl) (by decide +kernel) (by decide +kernel) (by decide +kernel)
  (by first |exact .inl (by decide +kernel) |exact .inr (by decide +kernel)) (by rw[isSubtype_type];kernel_rfl)
theorem si_iterA (a:Value):argsOk "set_iterator.__iter__" ⟨[a],[]⟩:=by
 unfold argsOk;rw[signature?_of (id:="set_iterator.__iter__") (n:=['_','_','r','e','t','i','_','_']) (o:=['r','o','t','a','r','e','t','i','_','t','e','s']) (by kernel_rfl) si_owner];kernel_rfl
theorem si_iterE:entryFor table "set_iterator.__iter__" = some Builtin.«dict_keyiterator.__iter__» :=
 entryFor_alias (id':="dict_keyiterator.__iter__") (by kernel_rfl) (by first |rfl |decide +kernel | (unfold String.splitOn;simp +decide [String.splitOnAux])) (by decide +kernel) (by kernel_rfl)
theorem se_iterE:entryFor table "set.__iter__" = some Builtin.«frozenset.__iter__» :=
 entryFor_alias (id':="frozenset.__iter__") (by kernel_rfl) (by first |rfl |decide +kernel | (unfold String.splitOn;simp +decide [String.splitOnAux])) (by decide +kernel) (by kernel_rfl)
theorem cons_erase {α:Type}:∀ {l:List α}{i:Nat}(h:i<l.length),(l[i] :: l.eraseIdx i).Perm l
 | a :: r,0,_=>.refl _
 | a :: r,i+1,h=>by
  have:=cons_erase (l:=r) (i:=i) (by simpa using h)
  simp only[List.getElem_cons_succ,List.eraseIdx_cons_succ]
  exact(List.Perm.swap _ _ _).trans (this.cons a)
theorem pick_go {α:Type}(nx:Nat→Nat):∀(f k:Nat)(l:List α)(out:Array α),l.length≤f→(pickOrder.go nx f k l out).toList.Perm (out.toList ++ l):=by
 intro f
 induction f with
 | zero =>
  intro k l out h
  have:l = []:=List.length_eq_zero_iff.mp (by omega)
  subst this
  show out.toList.Perm _
  rw[List.append_nil]
 | succ f ih =>
  intro k l out h
  cases hl:l[nx k % l.length]? with
  | none =>
   have:l = []:=by
    cases l with
    | nil=>rfl
    | cons a r =>
     rw[List.getElem?_eq_none_iff]at hl
     have:=Nat.mod_lt (nx k) (show 0<(a :: r).length by simp)
     omega
   subst this
   unfold pickOrder.go
   simp
  | some x =>
   have hi:=(List.getElem?_eq_some_iff.mp hl).1
   have e:=(List.getElem?_eq_some_iff.mp hl).2
   unfold pickOrder.go
   rw[hl]
   refine(ih (k+1) _ _ (by rw[List.length_eraseIdx];split <;> omega)).trans ?_
   rw[Array.toList_push,List.append_assoc]
   refine List.Perm.append_left _ ?_
   show (x :: l.eraseIdx _).Perm l
   rw[← e]
   exact cons_erase hi
theorem pick_perm {α:Type}(nx:Nat→Nat)(xs:Array α):(pickOrder nx xs).toList.Perm xs.toList:=by
 unfold pickOrder
 have:=pick_go nx xs.size 0 xs.toList #[] (by simp)
 simpa using this
noncomputable def wkArr (w:World)(a:Addr)(ep:Nat)(es:Array (Int×Value)):Array (Int×Value):=if byText w=true then pickOrder (w.params.setOrder a ep) es else es
theorem wk_perm {w:World}{a:Addr}{ep:Nat}{es:Array (Int×Value)}:(wkArr w a ep es).toList.Perm es.toList:=by
 unfold wkArr
 split
 ·exact pick_perm _ _
 ·exact .refl _
theorem wk_size {w:World}{a:Addr}{ep:Nat}{es:Array (Int×Value)}:(wkArr w a ep es).size=es.size:=by
 have:=(wk_perm (w:=w) (a:=a) (ep:=ep) (es:=es)).length_eq
 simpa using this
noncomputable def slo (m i:Nat):Nat:=if i=0 then 0 else (plc m).getD (i - 1) 0+1
noncomputable def chkWalk:Bool:=(List.range 256).all fun m=>(List.range 9).all fun i=>decide (i≤(plc m).length→SetTable.below (plc m).toArray (slo m i)=i)
theorem chk_walk:chkWalk=true:=by decide +kernel
theorem below_slo {m i:Nat}(hm:m<256)(hi:i≤(plc m).length):SetTable.below (plc m).toArray (slo m i)=i:=by
 have h:=chk_walk
 unfold chkWalk at h
 have h1:=List.all_eq_true.mp h m (List.mem_range.mpr hm)
 have:=plc_len m
 exact of_decide_eq_true (List.all_eq_true.mp h1 i (List.mem_range.mpr (by omega))) hi
noncomputable def slB (w:World)(m i:Nat):Nat:=if byText w=true then 0 else slo m i
noncomputable def SiAt (h:Heap)(it a:Addr)(sl i n ep:Nat):Prop:=∃o,h.get? it=some o∧o.cls = .type "set_iterator"∧o.data = .fields #[.int sl 0,.int i 0,.ref a,.int n 0,.int ep 0]
theorem SiAt.ty {s:Shared}{it a:Addr}{sl i n ep:Nat}(x:SiAt s.heap it a sl i n ep):s.TypeIs (.ref it) "set_iterator":=let ⟨o,ho,hc,_⟩:=x; ⟨o,ho,hc⟩
theorem SiAt.at {h h':Heap}{it a:Addr}{sl i n ep:Nat}(x:SiAt h it a sl i n ep)(e:∀o,h.get? it=some o→h'.get? it=some o):SiAt h' it a sl i n ep:=let ⟨o,ho,r⟩:=x; ⟨o,e _ ho,r⟩
theorem SetAt.ty {w:World}{s:Shared}{a:Addr}{m ep:Nat}{o:Obj}{es:Array (Int×Value)}(S:SetAt w s.heap a m o es ep):s.TypeIs (.ref a) "set":=⟨o,S.get,S.ex.1⟩
theorem SetAt.kp {w:World}{h h':Heap}{a:Addr}{m ep:Nat}{o:Obj}{es:Array (Int×Value)}(S:SetAt w h a m o es ep)(e:∀o,h.get? a=some o→h'.get? a=some o):SetAt w h' a m o es ep:=⟨S.hm,e _ S.get,S.ex,S.dat,S.ents⟩
section
variable {prog:Program}{w:World}{A:Around}{E:Value→Shared→Prop}{s:Shared}{a it:Addr}{m i ep:Nat}{o:Obj}{es:Array (Int×Value)}
theorem set_entries {Q:Array (Int×Value)→Shared→Prop}(S:SetAt w s.heap a m o es ep)(h:Q es s):wpAny (model prog w) A (setEntries a) Q E s :=
 wpAny_setEntries_of S.get S.dat (by rw[S.ents.size];exact tbl_fits _ _) h
theorem by_text {Q:Bool→Shared→Prop}(h:Q (byText w) s):wpAny (model prog w) A setsByText Q E s:=by
 unfold setsByText
 exact wpAny_bind (wpAny_askSetting (wpAny_pure h))
theorem set_iter {Q:Value→Shared→Prop}(S:SetAt w s.heap a m o es ep)
  (q:Q (.ref s.heap.objs.size) { s with heap:=s.heap.push { cls:=.type "set_iterator",data:=.fields #[.int (0:Nat) 0,.int (0:Nat) 0,.ref a,.int es.size 0,.int ep 0] } }):wpAny (model prog w) A (pyIter (.ref a)) Q E s:=by
 refine wpAny_pyIter_slot S.ty F.slot_set_iter (wpAny_call_entry F.slot_set_iter S.ty se_iterE ?_ (F.args_set_iter_1 _))
 unfold Builtin.«frozenset.__iter__» Builtin.Frozenset.slot0
 refine wpAny_bind (wpAny_bind (wpAny_of_eq (a:=(Value.ref a,[])) rfl ?_))
 show wpAny _ _ (pure a) _ _ s
 refine wpAny_pure ?_
 unfold Builtin.Frozenset.sizeOf
 refine wpAny_bind (wpAny_bind (set_entries S (wpAny_pure ?_)))
 unfold setDrawn
 refine wpAny_bind (wpAny_bind (set_state S ?_))
 refine wpAny_bind (by_text (wpAny_pure ?_))
 refine wpAny_ite_false (by cases byText w <;> rfl) ?_
 refine wpAny_bind (wpAny_pure ?_)
 unfold setEpoch
 refine wpAny_bind (wpAny_bind (set_state S (wpAny_pure ?_)))
 refine wpAny_bind (wpAny_newObj_type (wpAny_pure ⟨_,rfl,"set_iterator",_,⟨_,Heap.get?_push_size _ rfl,rfl⟩,si_next.lookup,?_⟩))
 simpa [rawInt]using q
theorem set_nx {Q:Option (Value×Nat)→Shared→Prop}(S:SetAt w s.heap a m o es ep)(hi:i≤es.size)(q:Q ((wkArr w a ep es)[i]?.map fun e=>(e.2,slB w m (i+1))) s):wpAny (model prog w) A (setNext a (slB w m i) i ep) Q E s:=by
 unfold setNext
 refine wpAny_bind (set_state S ?_)
 dsimp only
 refine wpAny_bind (by_text ?_)
 cases hb:byText w with
 | true =>
  refine wpAny_ite_true rfl ?_
  refine wpAny_ite_false (by simp) ?_
  unfold setWalk
  refine wpAny_bind (wpAny_bind (set_state S ?_))
  dsimp only
  refine wpAny_bind (by_text ?_)
  rw[hb]
  refine wpAny_ite_true rfl ?_
  refine wpAny_bind (wpAny_askSetting (wpAny_pure (wpAny_pure ?_)))
  unfold wkArr slB at q
  rw[hb]at q
  unfold slB
  rw[hb]
  exact q
 | false =>
  refine wpAny_ite_false rfl ?_
  refine wpAny_ite_false rfl ?_
  refine wpAny_bind (wpAny_of_eq (a:=()) rfl (wpAny_pure ?_))
  have hz:=S.ents.size
  have hbl:=below_slo (i:=i) S.hm (by omega)
  unfold slB
  rw[hb,if_neg (by decide)]
  show Q (match es[SetTable.below (plc m).toArray (slo m i)]?,(plc m).toArray[SetTable.below (plc m).toArray (slo m i)]? with
   | some (_,x),some j=>some (x,j+1)
   | _,_=>none) s
  rw[hbl]
  unfold wkArr slB at q
  rw[hb,if_neg (by decide),if_neg (by decide)]at q
  by_cases h:i<es.size
  ·rw[Array.getElem?_eq_getElem h]at q ⊢
   have h2:i<(plc m).toArray.size:=by simp;omega
   rw[Array.getElem?_eq_getElem h2]
   have e:slo m (i+1)=(plc m).toArray[i] + 1:=by
    unfold slo
    rw[if_neg (by omega),Nat.add_sub_cancel]
    have h3:i<(plc m).length:=by omega
    simp[h3]
   rw[e]at q
   exact q
  ·rw[Array.getElem?_eq_none (by omega)]at q ⊢
   exact q
theorem set_item {Q:Option Value→Shared→Prop}(x:SiAt s.heap it a (slB w m i) i es.size ep)(S:SetAt w s.heap a m o es ep)(hi:i<es.size)
  (q:∀h' e,(wkArr w a ep es)[i]? = some e→SiAt h' it a (slB w m (i+1)) (i+1) es.size ep→Heap.SameBut it s.heap h'→Q (some e.2) { s with heap:=h' }):wpAny (model prog w) A (pyNext (.ref it)) Q E s:=by
 obtain⟨oi,go,ci,di⟩:=id x
 unfold pyNext
 refine wpAny_bind (wpAny_attempt (wpAny_callSpecial?_slot (name:=Str.ofString "__next__") x.ty si_next (wpAny_call_entry si_next x.ty si_nextE ?_ (si_nextA _))))
 unfold Builtin.«set_iterator.__next__»
 refine wpAny_bind (wpAny_of_eq (a:=(Value.ref it,[])) rfl ?_)
 refine wpAny_bind (wpAny_fieldsOf go di ?_)
 dsimp only
 refine wpAny_bind (set_entries S ?_)
 rw[if_neg (show ¬ _ by simp)]
 have hw:i<(wkArr w a ep es).size:=by rw[wk_size];exact hi
 refine wpAny_bind (set_nx (i:=i) (ep:=ep) S (by omega) ?_)
 rw[Array.getElem?_eq_getElem hw]
 show wpAny _ _ (setField (.ref it) 0 (rawInt ((slB w m (i+1):Nat):Int)) >>= _) _ _ s
 refine wpAny_bind (wpAny_setField go di (by simp) ?_)
 have g1:(s.heap.update it (Obj.mapFields (·.setIfInBounds 0 (rawInt ((slB w m (i+1):Nat):Int))))).get? it=some _:=Heap.get?_update_self _ go (Obj.isFreed_of_fields (Obj.data_mapFields di _))
 have d1:=Obj.data_mapFields di (·.setIfInBounds 0 (rawInt ((slB w m (i+1):Nat):Int)))
 refine wpAny_bind (wpAny_setField (s:={ s with heap:=s.heap.update it (Obj.mapFields (·.setIfInBounds 0 (rawInt ((slB w m (i+1):Nat):Int)))) }) g1 d1 (by simp) ?_)
 have g2:=Heap.get?_update_self (Obj.mapFields (·.setIfInBounds 1 (rawInt ((i:Int)+1)))) g1 (Obj.isFreed_of_fields (Obj.data_mapFields d1 _))
 refine wpAny_pure ⟨_,rfl,wpAny_pure (q _ _ (Array.getElem?_eq_getElem hw) ⟨_,g2,?_,?_⟩ ((Heap.SameBut.update ..).trans (Heap.SameBut.update ..)))⟩
 ·rw[Obj.cls_mapFields,Obj.cls_mapFields];exact ci
 ·rw[Obj.data_mapFields d1];simp[rawInt]
theorem set_end {Q:Option Value→Shared→Prop}(na:A.handled=none)(x:SiAt s.heap it a (slB w m es.size) es.size es.size ep)(S:SetAt w s.heap a m o es ep)
  (q:∀h',Heap.ExtBut it s.heap h'→Q none { s with heap:=h' }):wpAny (model prog w) A (pyNext (.ref it)) Q E s:=by
 obtain⟨oi,go,ci,di⟩:=id x
 unfold pyNext
 refine wpAny_bind (wpAny_attempt (wpAny_callSpecial?_slot (name:=Str.ofString "__next__") x.ty si_next (wpAny_call_entry si_next x.ty si_nextE ?_ (si_nextA _))))
 unfold Builtin.«set_iterator.__next__»
 refine wpAny_bind (wpAny_of_eq (a:=(Value.ref it,[])) rfl ?_)
 refine wpAny_bind (wpAny_fieldsOf go di ?_)
 dsimp only
 refine wpAny_bind (set_entries S ?_)
 rw[if_neg (show ¬ _ by simp)]
 refine wpAny_bind (set_nx (i:=es.size) (ep:=ep) S (Nat.le_refl _) ?_)
 rw[Array.getElem?_eq_none (by rw[wk_size];exact Nat.le_refl _)]
 show wpAny _ _ (setField (.ref it) 2 .none >>= _) _ _ s
 refine wpAny_bind (wpAny_setField go di (by simp) ?_)
 show wpAny _ _ (newExc (.type "StopIteration") [] >>= _) _ _ { s with heap:=_ }
 refine wpAny_bind (?_)
 simp only[newExc,newTuple]
 refine wpAny_bind (wpAny_newObj_type (?_) (by size_fits))
 refine wpAny_bind (m:=firstArgMember _ _) (wpAny_of_eq (a:=Value.none) (by first |rfl | (simp only[firstArgMember];rfl)) (wpAny_newObj_type ?_ (by size_fits)))
 simp only[raiseNew]
 refine wpAny_bind (wpAny_handled (?_))
 rw[show A.in1.handled=none from na]
 refine wpAny_bind (wpAny_pure (wpAny_throw (?_)))
 refine wpAny_bind (wpAny_isInstance (b:=true) (T:="StopIteration") ⟨_,Heap.get?_push_size _ rfl,rfl⟩ isSubtype_stop (?_))
 exact wpAny_pure (q _ (((Heap.SameBut.update ..).extBut.push _).push _))
theorem set_self {sl n:Nat}{Q:Value→Shared→Prop}(x:SiAt s.heap it a sl i n ep)(h:Q (.ref it) s):wpAny (model prog w) A (pyIter (.ref it)) Q E s:=by
 refine wpAny_pyIter_slot x.ty si_iter (wpAny_call_entry si_iter x.ty si_iterE ?_ (si_iterA _))
 show wpAny _ _ (ret (.ref it)) _ _ s
 exact wpAny_pure ⟨_,rfl,"set_iterator",_,x.ty,si_next.lookup,h⟩
end
theorem slB0 (w:World)(m:Nat):slB w m 0=0:=by unfold slB slo;split <;> rfl
theorem set_walks {prog:Program}{w:World}{A:Around}(na:A.handled=none)(I a:Addr)(ne:a≠I)(m ep:Nat)(o:Obj)(es:Array (Int×Value)) :
  Walks prog w A I [I,a] [I] es.size (fun i v=>∃e,(wkArr w a ep es)[i]? = some e∧v=e.2) (fun i h=>SiAt h I a (slB w m i) i es.size ep∧SetAt w h a m o es ep) where
 sub:=fun b hb=>by simp at hb;simp[hb]
 frame:=fun _ _ _ st hk=>⟨st.1.at fun o e=>hk I (by simp) o e,st.2.kp fun o e=>hk a (by simp) o e⟩
 item:=fun i s Q E hi st hQ=>by
  refine set_item st.1 st.2 hi fun h' e he x b=>?_
  exact hQ _ h' s.toks ⟨e,he,rfl⟩ ⟨x,st.2.kp fun o e=>b.extBut a o ne e⟩ fun c o hc e=>b.extBut c o (fun z=>hc (by simp[z])) e
 done:=fun s Q E st hQ=>set_end na st.1 st.2 fun h' e=>hQ h' s.toks fun b o hb x=>e b o (fun z=>hb (by simp[z])) x
 self:=fun _ _ _ _ st hQ=>set_self st.1 hQ
theorem set_hint {prog:Program}{w:World}{A:Around}{E:Value→Shared→Prop}{s:Shared}{r:Addr}{Q:Bool→Shared→Prop}(hT:s.TypeIs (.ref r) "set")(h:Q false s):wpAny (model prog w) A (Builtin.List.listLengthHint (.ref r)) Q E s:=by
 unfold Builtin.List.listLengthHint
 refine wpAny_bind (wpAny_specialOf hT F.slot_set_len.lookup ?_)
 have hsp:splitId "set.__len__" = some ("set","__len__"):=by decide +kernel
 simp only[hsp]
 refine wpAny_bind (wpAny_isInstance (b:=true) hT F.called_set.sub ?_)
 refine wpAny_ite_false rfl ?_
 refine wpAny_ite_true (by first |rfl |decide +kernel) ?_
 exact wpAny_bind (wpAny_typeOf hT (wpAny_pure h))
theorem set_src {prog:Program}{w:World}{a:Addr}{m ep:Nat}{o:Obj}{es:Array (Int×Value)}:KdlSrc prog w "set" a a es.size (fun i v=>∃e,(wkArr w a ep es)[i]? = some e∧v=e.2) (fun h=>SetAt w h a m o es ep) where
 type:=fun _ r=>r.ty
 there:=fun _ r=>⟨Heap.lt_size r.get,Heap.lt_size r.get⟩
 keep:=fun _ _ r hk=>r.kp fun o e=>hk a (.inl rfl) o e
 notList:=by decide
 notTuple:=by decide
 hint:=fun _ _ _ _ r hq=>set_hint r.ty hq
 iter:=fun _ s na r=>⟨_,_,(fun _ _ hq=>set_iter r hq),set_walks na _ a (Nat.ne_of_lt (Heap.lt_size r.get)) m ep o es,⟨⟨_,Heap.get?_push_size _ rfl,rfl,by rw[slB0]⟩,r.kp fun o e=>Heap.get?_push_of_some _ e⟩⟩
theorem ints_are':∀ {us:List Value}{ns:List Int},us.length=ns.length→(∀(i:Nat)(v:Value)(k:Int),us[i]? = some v→ns[i]? = some k→∃t,v = .int k t)→IntsAre us ns
 | [],[],_,_=>.nil
 | u :: us,n :: ns,hl,h=>by
  obtain⟨t,rfl⟩:=h 0 u n rfl rfl
  exact .cons n t (ints_are' (by simpa using hl) fun i v k e1 e2=>h (i+1) v k (by simpa using e1) (by simpa using e2))
theorem boot_set:bootBuiltins "set" = some (.type "set"):=by decide +kernel
theorem orm_bit:∀ {ks:List Nat}{m x:Nat},(orm ks m).testBit x=(m.testBit x || ks.any (fun k=>decide (k=x)))
 | [],m,x=>by show m.testBit x=_;simp
 | k :: ks,m,x=>by
  show (orm ks (m ||| 2 ^ k)).testBit x=_
  rw[orm_bit,Nat.testBit_or,Nat.testBit_two_pow,List.any_cons,Bool.or_assoc]
theorem plc_sorted (m:Nat):(plc m).Pairwise (· < ·):=by
 unfold plc
 exact List.Pairwise.filter _ List.pairwise_lt_range
theorem plc_lt {m x:Nat}(h:x∈plc m):x<8:=by
 unfold plc at h
 exact List.mem_range.mp (List.mem_filter.mp h).1
theorem plc_orm {ks:List Nat}(h:∀k∈ks,k<8) {x:Nat}:x∈plc (orm ks 0)↔x∈ks:=by
 constructor
 ·intro hx
  have h8:=plc_lt hx
  have:=(plc_mem h8).mp hx
  rw[orm_bit,Nat.zero_testBit,Bool.false_or,List.any_eq_true]at this
  obtain⟨k,hk,e⟩:=this
  have:k=x:=of_decide_eq_true e
  exact this ▸ hk
 ·intro hx
  refine(plc_mem (h x hx)).mpr ?_
  rw[orm_bit,Nat.zero_testBit,Bool.false_or,List.any_eq_true]
  exact⟨x,hx,decide_eq_true rfl⟩
theorem sorted_uniq:∀ {xs ys:List Int},xs.Perm ys→xs.Pairwise (· ≤ ·)→ys.Pairwise (· ≤ ·)→xs=ys:=fun {xs ys} p h1 h2 =>
 List.Perm.eq_of_pairwise (fun a b _ _ h1 h2=>Int.le_antisymm h1 h2) h1 h2 p
noncomputable def tSortSet (K:PySem.W.Frag)(ta:TA):TE:=fun σ H Q=>ta σ H fun vs H1=>∃(p:Addr)(ks:List Nat),vs = [.ref p]∧SqT K H1 p (ks.map fun (k:Nat)=>V.int (k:Int))∧(∀k∈ks,k<8)∧∀l H',H1 l=none→Same H1 H'→H' l=some (.lst ((plc (orm ks 0)).map fun (k:Nat)=>V.int (k:Int)))→Q (.ref l) H'
theorem call_sortSet {X:Cx}(hc:X.calm=true) {pins:List (Addr×Obj)}{s:Shared}{σ:St}{H:Hp}{Q:VK}{a:Addr}{m ep:Nat}{o:Obj}{es:Array (Int×Value)}(I:Inv X pins σ H s)(S:SetAt X.w s.heap a m o es ep)
  (q:∀l H',H l=none→Same H H'→H' l=some (.lst ((plc m).map fun (k:Nat)=>V.int (k:Int)))→Q (.ref l) H'):wpAny (model X.prog X.w) X.A (call (.builtin "sorted") [.ref a]) (EP X pins σ Q) X.xe s:=by
 refine Calls.call_function_entry kind_sorted plain_sorted entry_sorted (args_sorted1 _) ?_
 unfold Builtin.«sorted»
 have hz:=S.ents.size
 have h8:=plc_len m
 refine wpAny_bind (m:=checkCount "sorted" 1 1 _) (wpAny_pure ?_)
 refine wpAny_bind (kdu_collect (A:=X.A.in1) (set_src (prog:=X.prog) (w:=X.w) (m:=m) (ep:=ep) (o:=o) (es:=es)) (I.ok.hd hc) S (by rw[sizeLine_eq];omega) fun h' tk acc kp hI=>?_)
 obtain⟨i1,i2⟩:=hI
 have hA:IntsAre acc.toList ((wkArr X.w a ep es).toList.map (·.1)):=by
  refine ints_are' (by rw[List.length_map,Array.length_toList,Array.length_toList,wk_size];exact i1) fun i v k hv hk=>?_
  obtain⟨e,he,rfl⟩:=i2 i v (by simpa using hv)
  rw[List.getElem?_map,Array.getElem?_toList,he]at hk
  have hk:e.1=k:=by simpa using hk
  obtain⟨t,e2⟩:=S.ents.2 e ((wk_perm (w:=X.w) (a:=a) (ep:=ep) (es:=es)).mem_iff.mp (Array.mem_toList_iff.mpr (Array.mem_of_getElem? he)))
  exact⟨t,by rw[e2,hk]⟩
 have hlen:acc.toList.length=es.size:=by simpa using i1
 refine wpAny_bind (wpAny_newList ?_ (by rw[hlen,sizeLine_eq];omega))
 have hoL:(h'.push (seqObj "list" acc.toList.toArray 0)).get? h'.objs.size=some (seqObj "list" acc.toList.toArray 0):=Heap.get?_push_size _ rfl
 refine wpAny_bind (wpAny_holding (wpAny_call_entry slot_list_sort ⟨_,hoL,rfl⟩ entry_list_sort (list_sort_tree hoL hA (by omega) fun out ns' a1 a2 a3=>⟨_,rfl,?_⟩) (args_list_sort _)))
 refine wpAny_pure ⟨_,rfl,?_⟩
 have I1:Inv X pins σ H { s with heap:=h',toks:=tk }:=I.kept kp
 obtain⟨n,ho⟩:=sortedHeap_at (out:=out) hoL
 have ov:=ints_vals a1
 have en:ns'=(plc m).map fun (k:Nat)=>(k:Int):=by
  refine sorted_uniq ((a2.trans ((wk_perm).map _)).trans (by rw[S.ents.1])) a3 ?_
  rw[List.pairwise_map]
  exact(plc_sorted m).imp fun h=>by omega
 rw[en]at ov
 rw[List.map_map]at ov
 refine⟨.ref h'.objs.size,_,I1.laid (o:=.lst ((plc m).map fun (k:Nat)=>V.int (k:Int))) (fun b o e=>?_) (Nat.le_refl _) ⟨by rw[List.length_map,sizeLine_eq];omega,out.toList,n,ov,by rw[Array.toArray_toList];exact ho⟩,rfl,q _ _ I1.fresh (Same.upd I1.fresh) upd_same⟩
 have hlt:b<h'.objs.size:=Heap.lt_size e
 rw[sortedHeap_old (Nat.ne_of_lt hlt) (by rw[size_push'];exact Nat.lt_succ_of_lt hlt),Heap.get?_push_ne _ _ _ (Nat.ne_of_lt hlt)]
 exact e
theorem vals_int:∀ {ks:List Nat}{its:List Value}{i k:Nat}{v:Value},Vals (ks.map fun (k:Nat)=>V.int (k:Int)) its→its[i]? = some v→ks[i]? = some k→∃t,v = .int (k:Int) t
 | [],_,_,_,_,_,_,h=>by simp at h
 | _ :: _,_ :: _,0,_,_,.cons r _,h1,h2=>by
  simp only[List.getElem?_cons_zero,Option.some.injEq]at h1 h2
  subst h1 h2
  exact r
 | _ :: ks,_ :: its,i+1,_,_,.cons _ t,h1,h2=>vals_int t (by simpa using h1) (by simpa using h2)
section
variable {X:Cx}{e:Expr}{ta:TA}{p p2 pos pos2:Pos}
theorem qe_sortSet (hc:X.calm=true)(hgS:Gl X "sorted")(hmS:X.mg "sorted" = none)(hg:Gl X "set")(hm:X.mg "set" = none)(ha:PAs X [e] ta)(h1:notStar e=true) :
  PE X (.Call (.Name "sorted" p) [.Call (.Name "set" p2) [e] [] pos2] [] pos) (tSortSet X.K ta):=by
 intro pins s σ H Q I h
 refine wpAny_Call_Name_kw (ld_blt I hgS hmS boot_sorted ?_)
 refine PyProof.Rows.callWith_builtin1 ?_ (star_ne rfl) rfl
 rw[star_ne (e:=.Call (.Name "set" p2) [e] [] pos2) (r:=[]) rfl]
 show wpAny _ _ (spliced ((false,eval (.Call (.Name "set" p2) [e] [] pos2) X.env) :: backTo pos (starEach [] X.env))) _ _ s
 refine Calls.spliced_cons ?_
 refine wpAny_Call_Name_kw (ld_blt I hg hm boot_set ?_)
 refine PyProof.Rows.callWith_type1 (thn (ha.run pos2 pins s σ H _ I h) fun us s1 ⟨vs,H1,I1,r1,q1⟩=>?_) (star_ne h1) rfl
 obtain⟨a,ks,rfl,hq,h8,q⟩:=q1
 obtain⟨u,rfl,rfl⟩:=vals1 r1
 obtain⟨its,rv,tp,hz⟩:=I1.tuple hq
 have hl:=rv.length
 rw[List.length_map]at hl
 refine set_ctorT (I1.ok.hd hc) tp ks hl.symm (fun i v k e1 e2=>?_) h8 fun h' tk o es ep kp S=>?_
 ·exact vals_int rv e1 e2
 refine Calls.spliced_nil ?_
 have I2:Inv X pins σ H1 { s1 with heap:=h',toks:=tk }:=I1.kept kp
 exact call_sortSet hc I2 S q
end
theorem rd_sortSet {K:PySem.W.Frag}{ta:TA}{σ:St}{H:Hp}{Q:VK}(h:ta σ H fun vs H1=>∃(p:Addr)(ks:List Nat),vs = [.ref p]∧SqT K H1 p (ks.map fun (k:Nat)=>V.int (k:Int))∧(∀k∈ks,k<8)∧∀l H',H1 l=none→Same H1 H'→H' l=some (.lst ((plc (orm ks 0)).map fun (k:Nat)=>V.int (k:Int)))→Q (.ref l) H'):tSortSet K ta σ H Q:=h
end L2
namespace L2
open PySem
theorem dt_ints {K:PySem.W.Frag}{N:List Addr}{H:Hp}:∀ {ns:List Int}{xs:List V},DtAll K N H xs (ns.map PyData.int)→xs=ns.map V.int
 | [],_,.nil=>rfl
 | n :: ns,_,.cons h r=>by
  cases h
  rw[dt_ints r];rfl
theorem dt_tri {K:PySem.W.Frag}{N:List Addr}{H:Hp}{ys:List V}{es:List PyData}(h:DtAll K N H ys es)(hl:ys.length=3):∃y1 y2 y3 e1 e2 e3,ys = [y1,y2,y3]∧es = [e1,e2,e3]∧Dt K N H y1 e1∧Dt K N H y2 e2∧Dt K N H y3 e3:=by
 cases h with
 | nil=>simp at hl
 | cons h1 h =>
 cases h with
 | nil=>simp at hl
 | cons h2 h =>
 cases h with
 | nil=>simp at hl
 | cons h3 h =>
 cases h with
 | nil=>exact⟨_,_,_,_,_,_,rfl,rfl,h1,h2,h3⟩
 | cons z h=>simp at hl
end L2
namespace PySem
theorem PyData.wtm {d:PyData}:∀ {ds:List PyData},d∈ds→d.weight≤PyData.weightAll ds
 | [],h=>by cases h
 | e :: r,h=>by
  rcases List.mem_cons.mp h with rfl |h
  ·simp only[PyData.weightAll];omega
  ·have:=PyData.wtm h
   simp only[PyData.weightAll];omega
theorem PyData.wta {i:Nat}{d:PyData}{ds:List PyData}{n:Nat}(h:ds[i]? = some d)(hw:(PyData.tuple ds).weight≤n):d.weight≤n :=
 Nat.le_trans (PyData.wtm (List.mem_of_getElem? h)) hw
theorem PyData.wtl:∀ {ds:List PyData},ds.length≤PyData.weightAll ds
 | []=>Nat.le_refl _
 | e :: r=>by
  have:=PyData.wtl (ds:=r)
  simp only[PyData.weightAll,List.length_cons];omega
end PySem
namespace Mt
open PySem L2
noncomputable def iv:PyData→Int
 | .int i=>i
 | _=>0
noncomputable def itemsD:PyData→List PyData
 | .tuple ds=>ds
 | _=>[]
noncomputable def slim (d:PyData):Prop:=∀a b ds,d = .tuple [a,b,.tuple ds]→ds.length≤1000000
noncomputable def risL (ns:List Int):Bool:=(List.range (ns.length - 1)).all fun i=>decide (ns.getD i 0<ns.getD (i+1) 0)
noncomputable def risD:PyData→Bool
 | .tuple ds=>ds.all numD && risL (ds.map iv)
 | _=>false
noncomputable def papD:PyData→Bool
 | .tuple [a,b,c]=>numD a && (numD b && risD c)
 | _=>false
noncomputable def okH (os:List (Int×Int))(house pl h:Int):Bool:=decide (h=house) || decide (pl≤(lookI os h).getD 0)
noncomputable def rdL (os:List (Int×Int))(house nd pl:Int)(hs:List Int):Bool:=decide (house∈hs) && (decide (nd≤hs.length) && hs.all (okH os house pl))
noncomputable def rdV (os:List (Int×Int))(line fork en house nd:Int):PyData→Bool
 | .tuple [a,b,c]=>papD (.tuple [a,b,c]) && (decide (iv a=line) && (decide (fork<iv b) && decide (iv b≤en)) && rdL os house nd (iv b) ((itemsD c).map iv))
 | _=>false
theorem flt_all (p:Int→Bool)(l:List Int):decide (V.int ((l.filter p).length:Int)=V.int (l.length:Int))=l.all p:=by
 have e:(V.int ((l.filter p).length:Int)=V.int (l.length:Int))↔(l.filter p).length=l.length:=by
  constructor
  ·intro h;injection h with h;omega
  ·intro h;rw[h]
 rw[decide_eq_decide.mpr e]
 cases h:l.all p with
 | true =>
  refine decide_eq_true ?_
  rw[List.filter_eq_self.mpr (List.all_eq_true.mp h)]
 | false =>
  refine decide_eq_false fun z=>?_
  have:=List.filter_sublist (p:=p) (l:=l) |>.eq_of_length z
  have h2:l.all p=true:=List.all_eq_true.mpr (List.filter_eq_self.mp this)
  rw[h]at h2;cases h2
theorem nums_int:∀ {ds:List PyData},ds.all numD=true→ds=(ds.map iv).map PyData.int
 | [],_=>rfl
 | d :: r,h=>by
  rw[List.all_cons,Bool.and_eq_true]at h
  obtain⟨i,rfl⟩:=numD_int h.1
  rw[List.map_cons,List.map_cons,← nums_int h.2];rfl
theorem risD_t (ds:List PyData):risD (.tuple ds)=(ds.all numD && risL (ds.map iv)):=rfl
theorem risD_tup {d:PyData}(h:isTupD d=false):risD d=false:=by
 cases d with
 | tuple z=>cases h
 | _=>rfl
theorem papD_tup {d:PyData}(h:isTupD d=false):papD d=false:=by
 cases d with
 | tuple z=>cases h
 | _=>rfl
theorem papD_len {ds:List PyData}(h:ds.length≠3):papD (.tuple ds)=false:=by
 unfold papD;split
 ·rename_i e;cases e;simp at h
 ·rfl
theorem rdV_pap {os:List (Int×Int)}{line fork en house nd:Int}{d:PyData}(h:papD d=false):rdV os line fork en house nd d=false:=by
 unfold rdV;split
 ·rw[h];rfl
 ·rfl
theorem papD_shape {d:PyData}(h:papD d=true):∃l p ns,d = .tuple [.int l,.int p,.tuple (ns.map PyData.int)]∧risL ns=true:=by
 unfold papD at h
 split at h
 ·rename_i a b c
  rw[Bool.and_eq_true,Bool.and_eq_true]at h
  obtain⟨h1,h2,h3⟩:=h
  obtain⟨i,rfl⟩:=numD_int h1
  obtain⟨j,rfl⟩:=numD_int h2
  cases c with
  | tuple ds =>
   rw[risD_t,Bool.and_eq_true]at h3
   refine⟨i,j,ds.map iv,?_,h3.2⟩
   rw[← nums_int h3.1]
  | _=>cases h3
 ·cases h
theorem iv_ints (ns:List Int):(ns.map PyData.int).map iv=ns:=by
 induction ns with
 | nil=>rfl
 | cons n r ih=>rw[List.map_cons,List.map_cons,ih];rfl
theorem nums_all (ns:List Int):(ns.map PyData.int).all numD=true:=by
 induction ns with
 | nil=>rfl
 | cons n r ih=>rw[List.map_cons,List.all_cons,ih];rfl
theorem slim_of {d:PyData}(h:d.weight≤1000000):slim d:=fun a b ds z=>by
 subst z
 have h1:(PyData.tuple ds).weight≤1000000:=PyData.wta (i:=2) rfl h
 exact Nat.le_trans PyData.wtl h1
theorem rdV_ints (os:List (Int×Int))(line fork en house nd l p:Int)(ns:List Int)(h:risL ns=true):rdV os line fork en house nd (.tuple [.int l,.int p,.tuple (ns.map PyData.int)])=(decide (l=line) && (decide (fork<p) && decide (p≤en)) && rdL os house nd p ns):=by
 show (papD (.tuple [.int l,.int p,.tuple (ns.map PyData.int)]) && _)=_
 have e:papD (.tuple [.int l,.int p,.tuple (ns.map PyData.int)])=true:=by
  show (numD (.int l) && (numD (.int p) && risD (.tuple (ns.map PyData.int))))=true
  rw[risD_t,nums_all,iv_ints,h];rfl
 rw[e,Bool.true_and]
 show (decide (iv (.int l)=line) && (decide (fork<iv (.int p)) && decide (iv (.int p)≤en)) && rdL os house nd (iv (.int p)) ((ns.map PyData.int).map iv))=_
 rw[iv_ints];rfl
end Mt
namespace L2
open PySem
theorem srt_ge:∀ {l:List Int}{k:Nat}{v:Int},l.Pairwise (· ≥ ·)→k<l.length→v≤l.getD k 0→k+1≤(l.filter fun a=>decide (a ≥ v)).length
 | [],_,_,_,h,_=>by simp at h
 | a :: r,0,v,_,_,h=>by
  have:v≤a:=by simpa using h
  rw[List.filter_cons,if_pos (decide_eq_true this)]
  simp
 | a :: r,k+1,v,p,hk,h=>by
  have hk':k<r.length:=by simpa using hk
  have h':v≤r.getD k 0:=by simpa using h
  have ih:=srt_ge (List.pairwise_cons.mp p).2 hk' h'
  have ha:v≤a:=by
   have:=(List.pairwise_cons.mp p).1 (r.getD k 0) (by rw[List.getD_eq_getElem?_getD,List.getElem?_eq_getElem hk'];exact List.getElem_mem _)
   omega
  rw[List.filter_cons,if_pos (decide_eq_true ha),List.length_cons]
  omega
theorem placeV_le {rk:Option Int}{vals:List Int}{en fork:Int}(hf:0≤fork)(h:¬ placeV rk vals en≤fork):placeV rk vals en≤en:=by
 unfold placeV at h ⊢
 cases rk with
 | none=>exact Int.le_refl _
 | some k =>
  dsimp only at h ⊢
  split
  ·split <;> omega
  ·rename_i z;rw[if_neg z]at h;exact absurd hf h
theorem placeV_cnt {k:Int}{vals:List Int}{en fork:Int}(hf:0≤fork)(hk:1≤k)(h:¬ placeV (some k) vals en≤fork):k≤((vals.filter fun a=>decide (a ≥ placeV (some k) vals en)).length:Int):=by
 have hc:(vals.length:Int) ≥ k:=by
  by_cases z:(vals.length:Int) ≥ k
  ·exact z
  ·unfold placeV at h
   dsimp only at h
   rw[if_neg z]at h
   exact absurd hf h
 obtain⟨n,rfl⟩:=Int.eq_ofNat_of_zero_le (show 0≤k by omega)
 have e:placeV (some (n:Int)) vals en≤(srtI vals).reverse.getD ((n:Int) - 1).toNat 0:=by
  unfold placeV
  dsimp only
  rw[if_pos hc]
  split <;> omega
 have h1:((n:Int) - 1).toNat=n - 1:=by omega
 rw[h1]at e
 have h2:=srt_ge (l:=(srtI vals).reverse) (List.pairwise_reverse.mpr (srtI_srt vals)) (by rw[List.length_reverse,srtI_len];omega) e
 have p:(((srtI vals).reverse).filter fun a=>decide (a ≥ placeV (some (n:Int)) vals en)).length=(vals.filter fun a=>decide (a ≥ placeV (some (n:Int)) vals en)).length :=
  (((List.reverse_perm _).trans (srtI_perm vals)).filter _).length_eq
 rw[p]at h2
 omega
theorem ris_of {l:List Int}(h:l.Pairwise (· < ·)):Mt.risL l=true:=by
 unfold Mt.risL
 rw[List.all_eq_true]
 intro i hi
 have hi:=List.mem_range.mp hi
 have a1:i<l.length:=by omega
 have a2:i+1<l.length:=by omega
 refine decide_eq_true ?_
 rw[List.getD_eq_getElem?_getD,List.getD_eq_getElem?_getD,List.getElem?_eq_getElem a1,List.getElem?_eq_getElem a2]
 exact List.pairwise_iff_getElem.mp h i (i+1) a1 a2 (by omega)
theorem srt_lt {l:List Int}(h:l.Pairwise (· ≤ ·))(nd:l.Nodup):l.Pairwise (· < ·):=by
 have h2:=List.pairwise_and_iff.mpr ⟨h,nd⟩
 exact h2.imp fun ⟨a,b⟩=>by omega
structure Paper (os:List (Int×Int)) (fork en one nd pl:Int) (hs:List Int):Prop where
 fk:fork<pl
 le:pl≤en
 ris:Mt.risL hs=true
 mem:one∈hs
 ok:∀h∈hs,Mt.okH os one pl h=true
 many:nd≤hs.length
 nd:hs.Nodup
 rg:∀h∈hs,0≤h∧h<8
theorem oth_mem {vs:List Sv4}(ok:∀q∈vs,okS q) {line one:Int}{ap:Bool}{p:Int×Int}(h:p∈othV vs line one ap):0≤p.1∧p.1<8∧p.1≠one:=by
 unfold othV at h
 obtain⟨q,hq,rfl⟩:=List.mem_map.mp h
 obtain⟨h1,h2⟩:=List.mem_filter.mp hq
 rw[Bool.and_eq_true,decide_eq_true_eq,decide_eq_true_eq]at h2
 have o:=ok q (said_mem h1)
 unfold okS at o
 exact⟨o.1,by show q.1.1<8;omega,h2.2⟩
theorem paper_of {vs:List Sv4}(ok:∀q∈vs,okS q)(ndv:(vs.map (·.1)).Nodup) {r:PyData}(hr:Mt.ruleD r=true) {line fork en one pl:Int}{hs:List Int}(hf:0≤fork)(o0:0≤one)(o1:one<8)(h:doneV vs line fork en one (rkD r) (apD r)=some (pl,hs)) :
  Paper (othV vs line one (apD r)) fork en one (Mt.needD r) pl hs:=by
 have ndo:=oth_nd ndv line one (apD r)
 have om:=fun p hp=>oth_mem ok (line:=line) (one:=one) (ap:=apD r) (p:=p) hp
 unfold doneV at h
 generalize othV vs line one (apD r)=os at h ndo om
 split at h
 ·cases h
 ·rename_i hp
  injection h with h
  injection h with h1 h2
  have cnt:∀k,rkD r=some k→1≤k→k≤(((os.map (·.2)).filter fun a=>decide (a ≥ pl)).length:Int):=fun k hk h1k=>by
   rw[hk]at hp h1
   rw[← h1]
   exact placeV_cnt hf h1k hp
  have hle:=placeV_le hf hp
  rw[h1]at hp h2 hle
  have hperm:hs.Perm (one :: (os.filter fun p=>decide (p.2 ≥ pl)).map (·.1)):=by rw[← h2];exact srtI_perm _
  have hsrt:hs.Pairwise (· ≤ ·):=by rw[← h2];exact srtI_srt _
  have nd1:(one :: (os.filter fun p=>decide (p.2 ≥ pl)).map (·.1)).Nodup:=by
   rw[List.nodup_cons]
   refine⟨fun z=>?_,ndo.sublist (List.Sublist.map _ List.filter_sublist)⟩
   obtain⟨p,hp1,hp2⟩:=List.mem_map.mp z
   exact(om p (List.mem_filter.mp hp1).1).2.2 hp2
  have nd:=hperm.nodup_iff.mpr nd1
  have mem:∀h,h∈hs→h=one∨∃v,(h,v)∈os∧pl≤v:=fun h hh=>by
   rcases List.mem_cons.mp (hperm.mem_iff.mp hh)with z |z
   ·exact .inl z
   ·obtain⟨p,hp1,rfl⟩:=List.mem_map.mp z
    obtain⟨g1,g2⟩:=List.mem_filter.mp hp1
    exact .inr ⟨p.2,g1,by simpa using g2⟩
  refine⟨by omega,hle,ris_of (srt_lt hsrt nd),hperm.mem_iff.mpr (List.mem_cons_self ..),fun h hh=>?_,?_,nd,fun h hh=>?_⟩
  ·unfold Mt.okH
   rcases mem h hh with rfl | ⟨v,hv,hv2⟩
   ·simp
   ·rw[lookI_of ndo hv]
    simp[hv2]
  ·have hl:=hperm.length_eq
   rw[List.length_cons,List.length_map]at hl
   have e:((os.map (·.2)).filter fun a=>decide (a ≥ pl)).length=(os.filter fun p=>decide (p.2 ≥ pl)).length:=by
    rw[List.filter_map,List.length_map];rfl
   rcases Mt.rule_shape hr with rfl | ⟨w,k,rfl,_,k1,k2⟩
   ·show (1:Int)≤_
    omega
   ·have:=cnt k rfl k1
    show k+1≤_
    omega
  ·rcases mem h hh with rfl | ⟨v,hv,_⟩
   ·exact⟨o0,o1⟩
   ·exact⟨(om _ hv).1,(om _ hv).2.1⟩
theorem can_filter (p:PyData→Bool):∀ {ds:List PyData},PyData.canLayAll0 ds=true→PyData.canLayAll0 (ds.filter p)=true
 | [],_=>rfl
 | d :: r,h=>by
  simp only[PyData.canLayAll0,Bool.and_eq_true]at h
  rw[List.filter_cons]
  split
  ·simp only[PyData.canLayAll0,Bool.and_eq_true];exact⟨h.1,can_filter p h.2⟩
  ·exact can_filter p h.2
theorem depth_filter (p:PyData→Bool):∀ {ds:List PyData},PyData.depthAll (ds.filter p)≤PyData.depthAll ds
 | []=>Nat.le_refl _
 | d :: r=>by
  have:=depth_filter p (ds:=r)
  rw[List.filter_cons]
  simp only[PyData.depthAll]
  split
  ·simp only[PyData.depthAll];omega
  ·omega
theorem comp_dts {K:PySem.W.Frag}{N:List Addr}{a:Addr}{H1:Hp}{acc:Addr}{σ0:St}{g:TG}{tt:TT}{te:TE}{Q:VK}(es:List PyData)(xs:List V)(pb:PyData→Bool)(Sg:St→Prop)(hn:es.length≤1000000)(na:H1 acc=none)(h0:Sg σ0)
  (hq:SqT K H1 a xs) (hd:DtAll K N H1 xs es)
  (hb:∀(v:V) (d:PyData) σc H (R:St→V→Hp→Prop) (S:St→Hp→Prop),d∈es→Dt K N H v d→Same H1 H→Sg σc→(pb d=true→∀ σ2,Sg σ2→R σ2 v H)→(pb d=false→∀ σ2,Sg σ2→S σ2 H) →
   g v σc H fun σ2 H2=>tt σ2 H2 fun b H3=>if b=true then te σ2 H3 (R σ2) else S σ2 H3)
  (hst:∀H ws,Same H1 H→H acc=some (.lst ws)→DtAll K N H1 ws (es.filter pb)→Q (.ref acc) H):CompW σ0 (Itt K a) H1 acc g tt te Q:=by
 have hl:=hd.length
 have big:sizeLine=16777216:=rfl
 refine comp_byF es.length (by omega) (fun i ws σc H=>Same H1 H∧Sg σc∧DtAll K N H1 ws ((es.take i).filter pb)) ⟨Same.upd na,h0,.nil⟩ ?_ ?_
 ·rintro i ws σc H hi hlw ha ⟨sm,hs,dw⟩
  have hL:=sm.tupS hq
  obtain⟨v,d,e1,e2,e3⟩:=hd.at hi
  refine⟨⟨_,_,hL,e1⟩,?_⟩
  rintro x H' ⟨rfl,hx⟩ R S hR hS
  have ex:=hx _ hL
  rw[e1]at ex;cases ex
  have tk:es.take (i+1)=es.take i ++ [d]:=by rw[List.take_add_one,e2];rfl
  refine hb v d σc H' R S (List.mem_of_getElem? e2) (e3.ext (Ext.same sm)) sm hs (fun e σ2 h2=>hR σ2 _ H' ha ⟨fun b u q=>?_,h2,?_⟩) (fun e σ2 h2=>hS σ2 H' ha ⟨sm,h2,?_⟩)
  ·rw[upd_ne (ne_of_none q na)];exact sm b u q
  ·rw[tk,List.filter_append,List.filter_cons,if_pos e];exact dw.append (.cons e3 .nil)
  ·rw[tk,List.filter_append,List.filter_cons,if_neg (by rw[e];exact Bool.false_ne_true),List.filter_nil,List.append_nil];exact dw
 ·rintro ws σc H hlw ha ⟨sm,_,dw⟩
  rw[List.take_length]at dw
  exact⟨⟨_,sm.tupS hq,by omega⟩,hst H ws sm ha dw⟩
end L2
namespace L2
open PySem PySem.Spec PyProof.Rows PySem.W
theorem adjust_rev (n:Nat):Builtin.Slice.sliceAdjust none none (-1) (n:Int)=((n:Int) - 1,-1):=by
  unfold Builtin.Slice.sliceAdjust
  simp
theorem places_rev (n:Nat):Builtin.Slice.slicePlaces ((n:Int) - 1) (-1) (-1)=n:=by
 unfold Builtin.Slice.slicePlaces
 simp
 split <;> omega
theorem rev_pick (its:List Value):((List.range its.length).filterMap fun (k:Nat)=>its.toArray[((its.length:Int) - 1+(k:Int) * (-1)).toNat]?)=its.reverse:=by
 have e:(List.range its.length).filterMap (fun (k:Nat)=>its.toArray[((its.length:Int) - 1+(k:Int) * (-1)).toNat]?)=(List.range its.length).filterMap (fun k=>its.reverse[k]?):=by
  apply fm_congr
  intro k hk
  have hk:=List.mem_range.mp hk
  have:((its.length:Int) - 1+(k:Int) * (-1)).toNat=its.length - 1 - k:=by omega
  rw[this,List.getElem?_reverse hk];simp
 rw[e]
 have g:∀xs:List Value,(List.range xs.length).filterMap (fun k=>xs[k]?)=xs:=by
  intro xs
  induction xs with
  | nil=>rfl
  | cons x xs ih=>rw[List.length_cons,List.range_succ_eq_map,List.filterMap_cons];simp[List.filterMap_map,Function.comp_def,ih]
 have:=g its.reverse
 rw[List.length_reverse]at this
 exact this
end L2
namespace HT
open PySem PySem.Spec PyProof.Rows PySem.W
section
variable {prog:Program}{w:World}{A:Around}{E:Value→Shared→Prop}{s:Shared}
theorem sliceApplied_rev {sl:Addr}{tk:Tok}{n:Nat}{Q:Int×Int×Nat→Shared→Prop}(hs:s.heap.IsSliceOf sl .none .none (.int (-1) tk))(h:Q ((n:Int) - 1,-1,n) s):wpAny (model prog w) A (Builtin.Slice.sliceApplied (.ref sl) (pure (n:Int))) Q E s:=by
 obtain⟨os,hos,hcs,hds⟩:=id hs
 unfold Builtin.Slice.sliceApplied Builtin.Slice.sliceFields
 refine wpAny_bind (wpAny_bind (wpAny_field hos hds (x:=.none) rfl (wpAny_bind (wpAny_field hos hds (x:=.none) rfl (wpAny_bind (wpAny_field hos hds (x:=.int (-1) tk) rfl (wpAny_pure ?_)))))))
 refine wpAny_bind (slicePart_ (.int (-1) tk) ?_)
 show wpAny _ _ (if ((-1:Int) == 0)=true then _ else _) _ _ s
 rw[if_neg (by decide)]
 refine wpAny_bind (slicePart_ .none (wpAny_bind (slicePart_ .none (wpAny_bind (wpAny_pure ?_)))))
 show wpAny _ _ (match Builtin.Slice.sliceAdjust none none (-1) (n:Int)with | (lo,hi)=>pure (lo,(-1:Int),Builtin.Slice.slicePlaces lo hi (-1))) _ _ s
 rw[L2.adjust_rev]
 show wpAny _ _ (pure ((n:Int) - 1,(-1:Int),Builtin.Slice.slicePlaces ((n:Int) - 1) (-1) (-1))) _ _ s
 rw[L2.places_rev]
 exact wpAny_pure h
theorem getItem_tuple_rev {t sl:Addr}{its:List Value}{tk:Tok}{Q:Value→Shared→Prop}(ht:IsTup s.heap t its.toArray)(hs:s.heap.IsSliceOf sl .none .none (.int (-1) tk))
  (h:Q (.ref s.heap.objs.size) { s with heap:=s.heap.push { cls:=.type "tuple",data:=.seq its.reverse.toArray } }) (hsz:its.length≤sizeLine):wpAny (model prog w) A (getItem (.ref t) (.ref sl)) Q E s:=by
 have htake:sizeOk (.seq its.reverse.toArray):=by
  show its.reverse.toArray.size≤sizeLine
  rw[List.size_toArray,List.length_reverse]
  exact hsz
 obtain⟨os,hos,hcs,hds⟩:=id hs
 have hTs:s.TypeIs (.ref sl) "slice":=⟨os,hos,hcs⟩
 unfold getItem
 try with_reducible refine wpAny_holding ?_
 first |refine wpAny_bind (wpAny_pure ?_) |skip
 refine wpAny_bind (wpAny_sequenceKey ht.typeIs (by decide) ?_)
 refine wpAny_bind (wpAny_callSpecial?_slot (name:=Str.ofString "__getitem__") ht.typeIs PyProof.Rows.slot_tuple_getitem
  (wpAny_call_entry PyProof.Rows.slot_tuple_getitem ht.typeIs entry_tuple_getitem ?_ (args_tuple_getitem _ _)))
 show wpAny _ _ (Builtin.Tuple.tupleItemsOf (.ref t) >>= _) _ _ s
 refine wpAny_bind (tupleItemsOf_ ht ?_)
 refine wpAny_bind (wpAny_typeOf hTs ?_)
 rw[if_pos (by decide)]
 refine wpAny_bind (sliceApplied_rev hs ?_)
 rw[List.size_toArray]
 show wpAny _ _ (if (((its.length:Int) - 1) == 0 && (-1:Int) == 1 && its.length == its.length)=true then _ else _) _ _ s
 rw[if_neg (by simp),L2.rev_pick]
 first
  | exact wpAny_bind (m:=Builtin.Tuple.tupleExact _) (wpAny_newObj_type (wpAny_pure ⟨_,rfl,wpAny_pure h⟩) htake)
  | exact wpAny_bind (m:=Builtin.Tuple.tupleExact _) (wpAny_newObj_type (wpAny_bind (wpAny_pure (wpAny_pure ⟨_,rfl,wpAny_pure h⟩))) htake)
  | exact wpAny_bind (wpAny_bind (m:=Builtin.Tuple.tupleExact _) (wpAny_newObj_type (wpAny_pure (wpAny_pure ⟨_,rfl,wpAny_pure h⟩)) htake))
  | exact wpAny_bind (wpAny_bind (m:=Builtin.Tuple.tupleExact _) (wpAny_newObj_type (wpAny_pure ⟨_,rfl,wpAny_pure h⟩) htake))
end
end HT
namespace L2
open PySem PySem.Spec PyProof.Rows PySem.W
noncomputable def tSlRevT (K:PySem.W.Frag)(te ts:TE):TE:=fun σ H Q=>te σ H fun x H1=>∃a xs,x = .ref a∧ts σ H1 fun y H2=>y = .int (-1)∧SqT K H2 a xs∧∀p H',H2 p=none→Same H2 H'→H' p=some (.tup xs.reverse)→Q (.ref p) H'
theorem pe_sliceRevT {X:Cx}{e st:Expr}{te ts:TE}{p2 pos:Pos}(he:PE X e te)(hs:PE X st ts):PE X (.Subscript e (.Slice none none (some st) p2) pos) (tSlRevT X.K te ts):=by
 intro pins s σ H Q I h
 refine Subscript_ (thn (he pins s σ H _ I h) fun v s1 ⟨x,H1,I1,r1,a,xs,ex,q1⟩=>?_)
 subst ex
 obtain rfl:v=Value.ref a:=r1
 refine wpAny_Slice ?_
 rw[evalPart_none]
 refine wpAny_pure ?_
 refine wpAny_pure ?_
 show wpAny _ _ (eval st X.env) _ _ _
 refine thn (hs pins s1 σ H1 _ I1 q1) fun vs s3 ⟨y,H3,I3,ry,ey,hx,q⟩=>?_
 subst ey
 obtain⟨tk,rfl⟩:=ry
 have I4:Inv X pins σ H3 { s3 with heap:=s3.heap.push { cls:=.type "slice",data:=.fields #[.none,.none,.int (-1) tk] } }:=I3.kept (t':=s3.toks) fun b ob q=>Heap.get?_push_of_some _ q
 obtain⟨its,r,ht,hz⟩:=I4.tuple hx
 have hlen:=r.length
 show wpAny (model X.prog X.w) X.A (subscriptTail e (.Slice none none (some st) p2) (.ref a) (.ref s3.heap.objs.size)) (EP X pins σ Q) X.xe _
 refine tail_any (ops:=[.ref a,.ref s3.heap.objs.size]) ht.typeIs slot_tuple_getitem.lookup ?_ (by with_unfolding_all rfl)
 refine HT.getItem_tuple_rev ht (Heap.IsSliceOf.new ..) ?_ (by omega)
 have hf:=I4.hok.fresh (Nat.le_refl _)
 refine⟨.ref _,_,I4.laid (t':=s3.toks) (o:=.tup xs.reverse) (fun b ob q=>Heap.get?_push_of_some _ q) (Nat.le_refl _) ?_,rfl,q _ _ hf (Same.upd hf) upd_same⟩
 exact⟨by rw[List.length_reverse];exact hz,_,vals_rev r,IsTup.new _ _⟩
theorem rd_slRevT {K:PySem.W.Frag}{te ts:TE}{σ:St}{H:Hp}{Q:VK}(h:te σ H fun x H1=>∃a xs,x = .ref a∧ts σ H1 fun y H2=>y = .int (-1)∧SqT K H2 a xs∧∀p H',H2 p=none→Same H2 H'→H' p=some (.tup xs.reverse)→Q (.ref p) H'):tSlRevT K te ts σ H Q:=h
end L2
namespace L2
open PySem
noncomputable def haveV (vs:List Sv4)(line:Int)(ap:Bool)(pl:Int):List Int:=((numV vs line ap).filter fun p=>decide (p.2 ≥ pl)).map (·.1)
theorem ok_have {vs:List Sv4}(ndv:(vs.map (·.1)).Nodup) {line one pl x:Int}{ap:Bool}(hp:1≤pl):Mt.okH (othV vs line one ap) one pl x=(decide (x=one) || decide (x∈haveV vs line ap pl)):=by
 have ndo:=oth_nd ndv line one ap
 unfold Mt.okH
 by_cases e:x=one
 ·simp[e]
 ·rw[decide_eq_false e,Bool.false_or,Bool.false_or]
  apply decide_eq_decide.mpr
  constructor
  ·intro h
   cases hl:lookI (othV vs line one ap) x with
   | none=>rw[hl]at h;simp at h;omega
   | some v =>
    rw[hl]at h
    have h:pl≤v:=h
    have hm:=lookI_mem hl
    rw[oth_num]at hm
    refine List.mem_map.mpr ⟨(x,v),List.mem_filter.mpr ⟨(List.mem_filter.mp hm).1,decide_eq_true h⟩,rfl⟩
  ·intro h
   obtain⟨p,hp1,rfl⟩:=List.mem_map.mp h
   obtain⟨g1,g2⟩:=List.mem_filter.mp hp1
   have g2:p.2 ≥ pl:=of_decide_eq_true g2
   have:(p.1,p.2)∈othV vs line one ap:=by
    rw[oth_num]
    exact List.mem_filter.mpr ⟨g1,decide_eq_true e⟩
   rw[lookI_of ndo this]
   exact g2
theorem have_rg {vs:List Sv4}(ok:∀q∈vs,okS q) {line pl x:Int}{ap:Bool}(h:x∈haveV vs line ap pl):0≤x∧x<8:=by
 obtain⟨p,hp1,rfl⟩:=List.mem_map.mp h
 obtain⟨q,hq,rfl⟩:=List.mem_map.mp (List.mem_filter.mp hp1).1
 have o:=ok q (said_mem (List.mem_filter.mp hq).1)
 unfold okS at o
 exact⟨o.1,by show q.1.1<8;omega⟩
theorem ris_cons {a b:Int}{r:List Int}(h:Mt.risL (a :: b :: r)=true):a<b∧Mt.risL (b :: r)=true:=by
 unfold Mt.risL at h ⊢
 rw[List.all_eq_true]at h ⊢
 refine⟨by have:=h 0 (by simp);simpa using this,fun i hi=>?_⟩
 have hi:=List.mem_range.mp hi
 have:=h (i+1) (List.mem_range.mpr (by simp at hi ⊢;omega))
 simpa using this
theorem ris_pw:∀ {l:List Int},Mt.risL l=true→l.Pairwise (· < ·)
 | [],_=>.nil
 | [a],_=>List.pairwise_singleton _ _
 | a :: b :: r,h=>by
  obtain⟨h1,h2⟩:=ris_cons h
  have ih:=ris_pw h2
  refine .cons (fun c hc=>?_) ih
  rcases List.mem_cons.mp hc with rfl |hc
  ·exact h1
  ·have:=(List.pairwise_cons.mp ih).1 c hc
   omega
theorem eqv_ints:∀xs ys:List Int,PyData.eqvAll (xs.map PyData.int) (ys.map PyData.int)=decide (xs=ys)
 | [],[]=>by simp[PyData.eqvAll]
 | [],_ :: _=>by simp[PyData.eqvAll]
 | _ :: _,[]=>by simp[PyData.eqvAll]
 | x :: xs,y :: ys=>by
  rw[List.map_cons,List.map_cons]
  have:=eqv_ints xs ys
  simp only[PyData.eqvAll,this,PyData.eqv]
  by_cases h:x=y <;> by_cases h2:xs=ys <;> simp[h,h2]
theorem eqv_lists (xs ys:List Int):PyData.eqv (Mt.lstI xs) (Mt.lstI ys)=decide (xs=ys):=by
 have:=eqv_ints xs ys
 unfold Mt.lstI
 simp only[PyData.eqv,this]
theorem set_same {ns:List Int}(rg:∀x∈ns,0≤x∧x<8):decide (ns=(plc (orm (ns.map Int.toNat) 0)).map fun (k:Nat)=>(k:Int))=Mt.risL ns:=by
 have h8:∀k∈ns.map Int.toNat,k<8:=fun k hk=>by
  obtain⟨x,hx,rfl⟩:=List.mem_map.mp hk
  have:=rg x hx
  omega
 have srt:((plc (orm (ns.map Int.toNat) 0)).map fun (k:Nat)=>(k:Int)).Pairwise (· < ·):=by
  rw[List.pairwise_map]
  exact(plc_sorted _).imp fun h=>by omega
 cases hr:Mt.risL ns with
 | true =>
  have pw:=ris_pw hr
  refine decide_eq_true (sorted_uniq ?_ (pw.imp fun h=>by omega) (srt.imp fun h=>by omega))
  refine(List.perm_ext_iff_of_nodup (pw.imp fun h=>Int.ne_of_lt h) (srt.imp fun h=>Int.ne_of_lt h)).mpr fun x=>?_
  constructor
  ·intro hx
   have:=rg x hx
   exact List.mem_map.mpr ⟨x.toNat,(plc_orm h8).mpr (List.mem_map_of_mem hx),by omega⟩
  ·intro hx
   obtain⟨k,hk,rfl⟩:=List.mem_map.mp hx
   obtain⟨y,hy,hy2⟩:=List.mem_map.mp ((plc_orm h8).mp hk)
   have:=rg y hy
   have:((k:Nat):Int)=y:=by omega
   rw[this];exact hy
 | false =>
  refine decide_eq_false fun z=>?_
  rw[z,ris_of srt]at hr
  cases hr
theorem rdL_bad {os:List (Int×Int)}{one nd pl:Int}{ns hv:List Int}(okE:∀x,Mt.okH os one pl x=(decide (x=one) || decide (x∈hv)))(h:((ns.map PyData.int).filter fun d=>!decide (Mt.iv d=one) && !decide (Mt.iv d∈hv)).isEmpty=false):Mt.rdL os one nd pl ns=false:=by
 have:ns.all (Mt.okH os one pl)=false:=by
  cases hall:ns.all (Mt.okH os one pl)with
  | false=>rfl
  | true =>
   have:((ns.map PyData.int).filter fun d=>!decide (Mt.iv d=one) && !decide (Mt.iv d∈hv)) = []:=List.filter_eq_nil_iff.mpr fun d hd=>by
    obtain⟨z,hz,rfl⟩:=List.mem_map.mp hd
    have:=List.all_eq_true.mp hall z hz
    rw[okE]at this
    show ¬ (!decide (z=one) && !decide (z∈hv))=true
    cases c1:decide (z=one) <;> cases c2:decide (z∈hv) <;> simp[c1,c2]at this ⊢
   rw[this]at h;cases h
 unfold Mt.rdL
 rw[this,Bool.and_false,Bool.and_false]
theorem rdL_good {os:List (Int×Int)}{one nd pl:Int}{ns hv:List Int}(okE:∀x,Mt.okH os one pl x=(decide (x=one) || decide (x∈hv)))(h1:decide (one∈ns)=true)(h:((ns.map PyData.int).filter fun d=>!decide (Mt.iv d=one) && !decide (Mt.iv d∈hv)).isEmpty=true) :
  Mt.rdL os one nd pl ns=decide (nd≤(ns.length:Int))∧∀x∈ns,x=one∨x∈hv:=by
 have e:((ns.map PyData.int).filter fun d=>!decide (Mt.iv d=one) && !decide (Mt.iv d∈hv)) = []:=List.isEmpty_iff.mp h
 have m:∀x∈ns,x=one∨x∈hv:=fun x hx=>by
  have:=List.filter_eq_nil_iff.mp e (.int x) (List.mem_map_of_mem hx)
  have this:¬ (!decide (x=one) && !decide (x∈hv))=true:=this
  by_cases c:x=one
  ·exact .inl c
  ·rw[decide_eq_false c]at this
   exact .inr (by simpa using this)
 refine⟨?_,m⟩
 have:ns.all (Mt.okH os one pl)=true:=List.all_eq_true.mpr fun x hx=>by
  rw[okE]
  rcases m x hx with c |c <;> simp[c]
 unfold Mt.rdL
 rw[this,h1,Bool.true_and,Bool.and_true]
theorem RuT.nl {H H':Hp}{t:Addr}(h:RuT H t)(x:NL H H'):RuT H' t:=by
 rcases h with h | ⟨w,k,h,g⟩
 ·exact .inl (x _ _ h (fun _ z=>by cases z))
 ·exact .inr ⟨w,k,x _ _ h (fun _ z=>by cases z),g⟩
theorem num_rg {vs:List Sv4}(ok:∀q∈vs,okS q) {line:Int}{ap:Bool}{p:Int×Int}(h:p∈numV vs line ap):0≤p.1∧p.1<8:=by
 obtain⟨q,hq,rfl⟩:=List.mem_map.mp h
 have o:=ok q (said_mem (List.mem_filter.mp hq).1)
 unfold okS at o
 exact⟨o.1,by show q.1.1<8;omega⟩
end L2
set_option maxHeartbeats 0
local macro_rules | `(tactic| walk_at "vis")=>`(tactic| first | exact Or.inl rfl | exact Or.inr (Or.inl rfl) | exact Or.inr (Or.inr rfl))
local macro_rules | `(tactic| walk_at "cond")=>`(tactic| first | assumption | decide | omega | (simp only [L2.CDiv,L2.CMul,L2.CPow]; first | decide | omega))
local macro_rules | `(tactic| walk_at "sq")=>`(tactic| first | assumption | exact L2.SqL.of (by assumption) | exact L2.SqT.of (by assumption) | exact L2.SqL.of L2.upd_same | exact L2.SqT.of L2.upd_same)
local macro_rules | `(tactic| walk_at "lk")=>`(tactic| first | assumption | exact L2.upd_same)
local macro_rules | `(tactic| walk_at "ty")=>`(tactic| first | assumption | exact L2.TyS.non | exact L2.TyS.bl _ | exact L2.TyS.int _ | exact L2.TyS.str _ | exact L2.TyS.tup (by assumption) | exact L2.TyS.lst (by assumption))
local macro_rules | `(tactic| walk_at "b1")=>`(tactic| first | (with_reducible first | refine L2.rd_if ?_ | refine L2.rd_asg ?_ | refine L2.rd_drop ?_ | refine L2.rd_ret ?_ | refine L2.rd_next ?_ | refine L2.rd_op ?_ | refine L2.rd_un ?_) | ((with_reducible apply L2.rd_var); (case e=>exact rfl)) | (with_reducible first | refine L2.rd_c ?_ | refine L2.rd_I0 ?_) | ((with_reducible apply L2.rd_I); (case hc=>walk_at "cond")) | (with_reducible first | refine L2.rd_U ?_ | refine L2.rd_test ?_ | refine L2.rd_tB ?_ | refine L2.rd_bl' ?_) | ((with_reducible apply L2.rd_eq); (case hs=>exact rfl)) | ((with_reducible apply L2.rd_ne); (case hs=>exact rfl)) | ((with_reducible apply L2.rd_ixL); (case hq=>walk_at "sq"); (case ha=>exact rfl)) | ((with_reducible apply L2.rd_ixT); (case hq=>walk_at "sq"); (case ha=>exact rfl)) | (with_reducible first | refine L2.rd_name ?_ | refine L2.rd_sub ?_) | ((with_reducible apply L2.rd_setL); (case hp=>walk_at "lk"); (case hi=>exact rfl)) | (with_reducible first | refine L2.rd_CB ?_ | refine L2.rd_nil ?_ | refine L2.rd_cons ?_ | refine L2.rd_and ?_ | refine L2.rd_or ?_ | refine L2.rd_not ?_ | refine L2.rd_andV ?_ | refine L2.rd_orV ?_ | refine L2.rd_notV ?_ | refine L2.rd_ifE ?_ | refine L2.rd_call ?_ | refine L2.rd_callX ?_ | refine L2.rd_raise0 ?_ | refine L2.rd_try ?_ | refine L2.rd_unx ?_ | refine L2.rd_slRevT ?_ | refine L2.rd_dget ?_ | refine L2.rd_dput ?_) | ((with_reducible apply L2.rd_glst); (case hq=>walk_at "sq"); (case hl=>exact rfl)) | (with_reducible first | refine L2.rd_fld ?_ | refine L2.rd_sfld ?_ | refine L2.rd_meth ?_ | refine L2.rd_make ?_ | refine L2.rd_dget2 ?_ | refine L2.rd_methX ?_ | refine L2.rd_intB ?_ | refine L2.rd_dcomp ?_ | refine L2.rd_sortSet ?_) | (with_reducible first | refine L2.rd_tup ?_ | refine L2.rd_tupA ?_ | refine L2.rd_lstA ?_ | refine L2.rd_dnewA ?_ | refine L2.rd_lst ?_ | refine L2.rd_chain ?_ | refine L2.rd_sl ?_ | refine L2.rd_nopart ?_ | refine L2.rd_part ?_ | refine L2.rd_int ?_) | ((with_reducible apply L2.rd_slL); (case hq=>walk_at "sq")) | ((with_reducible apply L2.rd_slG); (case hq=>walk_at "sq")) | (with_reducible first | refine L2.rd_gnil ?_ | refine L2.rd_gcons ?_) | ((with_reducible apply L2.rd_tupT); (case hq=>walk_at "sq"); (case hl=>exact rfl)) | (with_reducible first | refine L2.rd_for ?_ | refine L2.rd_rng1 ?_ | refine L2.rd_rngV ?_ | refine L2.rd_ilist ?_ | refine L2.rd_itup ?_ | refine L2.rd_comp ?_ | refine L2.rd_izip ?_) | ((with_reducible apply L2.rd_listAT); (case hq=>walk_at "sq")) | ((with_reducible apply L2.rd_tupleAL); (case hq=>walk_at "sq")) | ((with_reducible apply L2.rd_lenL); (case hq=>walk_at "sq")) | ((with_reducible apply L2.rd_lenT); (case hq=>walk_at "sq")) | ((with_reducible apply L2.rd_listL); (case hq=>walk_at "sq")) | ((with_reducible apply L2.rd_tupleL); (case hq=>walk_at "sq")) | ((with_reducible apply L2.rd_isiTup); (case hd=>assumption)) | ((with_reducible apply L2.rd_isiInt); (case hd=>assumption)) | ((with_reducible apply L2.rd_isiBool); (case hd=>assumption)) | ((with_reducible apply L2.rd_isiStr); (case hd=>assumption)) | (with_reducible first | refine L2.rd_min ?_ | refine L2.rd_max ?_))
local macro_rules | `(tactic| walk_at "b2")=>`(tactic| first | (with_reducible first | refine L2.rd_isN ?_) | ((with_reducible apply L2.rd_str); (case hl=>walk_at "cond")) | dsimp only)
local macro_rules | `(tactic| walk_at "rs")=>`(tactic| repeat (first | walk_at "b1" | refine L2.rd_iteT ?_ | refine L2.rd_iteF ?_ | walk_at "b2"))
local macro_rules | `(tactic| walk_at "rd")=>`(tactic| repeat (first | with_reducible refine L2.rd_seq ?_ | walk_at "b1" | refine L2.rd_iteT ?_ | refine L2.rd_iteF ?_ | walk_at "b2"))
local macro_rules | `(tactic| walk_at "rq")=>`(tactic| repeat (first | with_reducible refine L2.rd_seq ?_ | walk_at "b1" | ((with_reducible refine L2.rd_iteG ?_); first | refine L2.rd_iteT ?_ | refine L2.rd_iteF ?_) | walk_at "b2"))
namespace My
open PySem L2
noncomputable abbrev s_is_number:Stmt:=top 9
noncomputable abbrev s_is_within:Stmt:=top 10
noncomputable abbrev s_is_place:Stmt:=top 11
noncomputable abbrev s_is_line:Stmt:=top 14
noncomputable abbrev s_is_word:Stmt:=top 16
noncomputable abbrev s_is_house:Stmt:=top 20
noncomputable abbrev s_is_counted_rule:Stmt:=top 21
noncomputable abbrev s_is_rule:Stmt:=top 22
noncomputable abbrev s_require_rule:Stmt:=top 23
noncomputable abbrev s_need:Stmt:=top 24
noncomputable abbrev s_is_saying:Stmt:=top 26
noncomputable abbrev s_Book_init:Stmt:=inClass (top 27) 0
noncomputable abbrev s_Book_note:Stmt:=inClass (top 27) 1
noncomputable abbrev s_Book_said:Stmt:=inClass (top 27) 2
noncomputable abbrev s_counted:Stmt:=top 28
noncomputable abbrev s_others_told:Stmt:=top 29
noncomputable abbrev s_is_rising:Stmt:=top 30
noncomputable abbrev s_is_done_paper:Stmt:=top 31
noncomputable abbrev s_right_done:Stmt:=top 32
noncomputable abbrev s_law_deck:Stmt:=top 34
noncomputable abbrev s_law_take:Stmt:=top 35
noncomputable abbrev s_law_saying:Stmt:=top 36
noncomputable abbrev s_law_put:Stmt:=top 37
noncomputable abbrev s_law_rule:Stmt:=top 38
noncomputable abbrev s_law_numbers:Stmt:=top 39
noncomputable abbrev s_law_done:Stmt:=top 40
noncomputable abbrev s_law_asked:Stmt:=top 41
noncomputable abbrev s_law_book:Stmt:=top 42
noncomputable abbrev s_law_whole:Stmt:=top 43
noncomputable abbrev s_law_right:Stmt:=top 44
noncomputable abbrev s_law_made_up:Stmt:=top 45
noncomputable abbrev s_law_bent_houses:Stmt:=top 46
noncomputable abbrev s_law_bent:Stmt:=top 47
noncomputable abbrev s_law_says:Stmt:=top 48
noncomputable abbrev s_law_no_rule:Stmt:=top 49
noncomputable abbrev s_law:Stmt:=top 50
theorem sc_is_number:FnScope ["thing"] ["thing"] (defScope s_is_number):=⟨rfl,rfl,rfl,by decide +kernel,rfl,by decide +kernel,by decide +kernel⟩
theorem sc_is_within:FnScope ["thing","least","most"] ["thing","least","most"] (defScope s_is_within):=⟨rfl,rfl,rfl,by decide +kernel,rfl,by decide +kernel,by decide +kernel⟩
theorem sc_is_place:FnScope ["thing"] ["thing"] (defScope s_is_place):=⟨rfl,rfl,rfl,by decide +kernel,rfl,by decide +kernel,by decide +kernel⟩
theorem sc_is_line:FnScope ["thing"] ["thing"] (defScope s_is_line):=⟨rfl,rfl,rfl,by decide +kernel,rfl,by decide +kernel,by decide +kernel⟩
theorem sc_is_word:FnScope ["thing","word"] ["thing","word"] (defScope s_is_word):=⟨rfl,rfl,rfl,by decide +kernel,rfl,by decide +kernel,by decide +kernel⟩
theorem sc_is_house:FnScope ["thing","houses"] ["thing","houses"] (defScope s_is_house):=⟨rfl,rfl,rfl,by decide +kernel,rfl,by decide +kernel,by decide +kernel⟩
theorem sc_is_counted_rule:FnScope ["thing"] ["thing"] (defScope s_is_counted_rule):=⟨rfl,rfl,rfl,by decide +kernel,rfl,by decide +kernel,by decide +kernel⟩
theorem sc_is_rule:FnScope ["thing"] ["thing"] (defScope s_is_rule):=⟨rfl,rfl,rfl,by decide +kernel,rfl,by decide +kernel,by decide +kernel⟩
theorem sc_require_rule:FnScope ["thing"] ["thing"] (defScope s_require_rule):=⟨rfl,rfl,rfl,by decide +kernel,rfl,by decide +kernel,by decide +kernel⟩
theorem sc_need:FnScope ["rule"] ["rule"] (defScope s_need):=⟨rfl,rfl,rfl,by decide +kernel,rfl,by decide +kernel,by decide +kernel⟩
theorem sc_is_saying:FnScope ["thing","house","line","end","applied"] ["thing"] (defScope s_is_saying):=⟨rfl,rfl,rfl,by decide +kernel,rfl,by decide +kernel,by decide +kernel⟩
theorem sc_Book_init:FnScope ["self"] ["self"] (defScope s_Book_init):=⟨rfl,rfl,rfl,by decide +kernel,rfl,by decide +kernel,by decide +kernel⟩
theorem sc_Book_note:FnScope ["self","saying","house","line","end","applied","most_end","most_applied"] ["self","saying"] (defScope s_Book_note):=⟨rfl,rfl,rfl,by decide +kernel,rfl,by decide +kernel,by decide +kernel⟩
theorem sc_Book_said:FnScope ["self"] ["self"] (defScope s_Book_said):=⟨rfl,rfl,rfl,by decide +kernel,rfl,by decide +kernel,by decide +kernel⟩
theorem sc_counted:FnScope ["saying","rule"] ["saying","rule"] (defScope s_counted):=⟨rfl,rfl,rfl,by decide +kernel,rfl,by decide +kernel,by decide +kernel⟩
theorem sc_others_told:FnScope ["book","line","house","rule"] ["book","line","house","rule"] (defScope s_others_told):=⟨rfl,rfl,rfl,by decide +kernel,rfl,by decide +kernel,by decide +kernel⟩
theorem sc_is_rising:FnScope ["thing"] ["thing"] (defScope s_is_rising):=⟨rfl,rfl,rfl,by decide +kernel,rfl,by decide +kernel,by decide +kernel⟩
theorem sc_is_done_paper:FnScope ["thing"] ["thing"] (defScope s_is_done_paper):=⟨rfl,rfl,rfl,by decide +kernel,rfl,by decide +kernel,by decide +kernel⟩
theorem sc_right_done:FnScope ["book","line","fork","end","house","rule","paper","place","houses","told","having"] ["book","line","fork","end","house","rule","paper"] (defScope s_right_done):=⟨rfl,rfl,rfl,by decide +kernel,rfl,by decide +kernel,by decide +kernel⟩
theorem sc_law_deck:FnScope ["_law_script","_law_cells"] ["_law_script"] (defScope s_law_deck):=⟨rfl,rfl,rfl,by decide +kernel,rfl,by decide +kernel,by decide +kernel⟩
theorem sc_law_take:FnScope ["_law_deck_here","_law_many","_law_cells","_law_count","_law_rests","_law_place","_law_digits","_law_mixed"] ["_law_deck_here","_law_many"] (defScope s_law_take):=⟨rfl,rfl,rfl,by decide +kernel,rfl,by decide +kernel,by decide +kernel⟩
theorem sc_law_saying:FnScope ["_law_deck_here","_law_end","_law_line","_law_applied"] ["_law_deck_here"] (defScope s_law_saying):=⟨rfl,rfl,rfl,by decide +kernel,rfl,by decide +kernel,by decide +kernel⟩
theorem sc_law_put:FnScope ["_law_model","_law_saying_here","_law_one","_law_line","_law_end","_law_applied","_law_known"] ["_law_model","_law_saying_here"] (defScope s_law_put):=⟨rfl,rfl,rfl,by decide +kernel,rfl,by decide +kernel,by decide +kernel⟩
theorem sc_law_rule:FnScope ["_law_deck_here"] ["_law_deck_here"] (defScope s_law_rule):=⟨rfl,rfl,rfl,by decide +kernel,rfl,by decide +kernel,by decide +kernel⟩
theorem sc_law_numbers:FnScope ["_law_model","_law_line","_law_rule_here","_law_place"] ["_law_model","_law_line","_law_rule_here"] (defScope s_law_numbers):=⟨rfl,rfl,rfl,by decide +kernel,rfl,by decide +kernel,by decide +kernel⟩
theorem sc_law_done:FnScope ["_law_model","_law_asked_here","_law_line","_law_fork","_law_end","_law_one","_law_rule_here","_law_numbers_here","_law_place","_law_others","_law_have"] ["_law_model","_law_asked_here"] (defScope s_law_done):=⟨rfl,rfl,rfl,by decide +kernel,rfl,by decide +kernel,by decide +kernel⟩
theorem sc_law_asked:FnScope ["_law_deck_here","_law_end","_law_fork"] ["_law_deck_here"] (defScope s_law_asked):=⟨rfl,rfl,rfl,by decide +kernel,rfl,by decide +kernel,by decide +kernel⟩
theorem sc_law_book:FnScope ["_law_deck_here","_law_book_here","_law_model","_law_k","_law_saying_here"] ["_law_deck_here","_law_book_here","_law_model"] (defScope s_law_book):=⟨rfl,rfl,rfl,by decide +kernel,rfl,by decide +kernel,by decide +kernel⟩
theorem sc_law_whole:FnScope ["_law_thing"] ["_law_thing"] (defScope s_law_whole):=⟨rfl,rfl,rfl,by decide +kernel,rfl,by decide +kernel,by decide +kernel⟩
theorem sc_law_right:FnScope ["_law_model","_law_asked_here","_law_thing","_law_line","_law_fork","_law_end","_law_one","_law_rule_here","_law_have","_law_wanted"] ["_law_model","_law_asked_here","_law_thing"] (defScope s_law_right):=⟨rfl,rfl,rfl,by decide +kernel,rfl,by decide +kernel,by decide +kernel⟩
theorem sc_law_made_up:FnScope ["_law_deck_here","_law_model","_law_asked_here","_law_line","_law_fork","_law_end","_law_one","_law_rule_here","_law_place","_law_have","_law_some"] ["_law_deck_here","_law_model","_law_asked_here"] (defScope s_law_made_up):=⟨rfl,rfl,rfl,by decide +kernel,rfl,by decide +kernel,by decide +kernel⟩
theorem sc_law_bent_houses:FnScope ["_law_deck_here","_law_houses","_law_place","_law_more","_law_some"] ["_law_deck_here","_law_houses"] (defScope s_law_bent_houses):=⟨rfl,rfl,rfl,by decide +kernel,rfl,by decide +kernel,by decide +kernel⟩
theorem sc_law_bent:FnScope ["_law_deck_here","_law_paper","_law_way","_law_odd"] ["_law_deck_here","_law_paper"] (defScope s_law_bent):=⟨rfl,rfl,rfl,by decide +kernel,rfl,by decide +kernel,by decide +kernel⟩
theorem sc_law_says:FnScope ["_law_book_here","_law_model","_law_asked_here","_law_thing","_law_line","_law_fork","_law_end","_law_one","_law_rule_here","_law_was","_law_found"] ["_law_book_here","_law_model","_law_asked_here","_law_thing"] (defScope s_law_says):=⟨rfl,rfl,rfl,by decide +kernel,rfl,by decide +kernel,by decide +kernel⟩
theorem sc_law_no_rule:FnScope ["_law_deck_here","_law_book_here","_law_asked_here","_law_thing","_law_odd","_law_line","_law_fork","_law_end","_law_one","_law_rule_here","_law_caught","error"] ["_law_deck_here","_law_book_here","_law_asked_here","_law_thing"] (defScope s_law_no_rule):=⟨rfl,rfl,rfl,by decide +kernel,rfl,by decide +kernel,by decide +kernel⟩
theorem sc_law:FnScope ["_law_script","_law_deck_here","_law_book_here","_law_model","_law_was","_law_turn","_law_asked_here","_law_paper","_law_k","_law_thing"] ["_law_script"] (defScope s_law):=⟨rfl,rfl,rfl,by decide +kernel,rfl,by decide +kernel,by decide +kernel⟩
noncomputable abbrev t_NoRule:Stmt:=inClass (top 4) 0
noncomputable abbrev t_NoSaying:Stmt:=inClass (top 6) 0
theorem ib_NoRule:IBody0 t_NoRule:=⟨⟨rfl,rfl,rfl,by decide +kernel,rfl,rfl,rfl⟩,⟨_,rfl,rfl⟩,fun _ _ _ _ _ _ _ _ _ _=>rfl,⟨_,_,_,_,_,_,_,_,_,rfl,fun _=>rfl⟩⟩
theorem ib_NoSaying:IBody0 t_NoSaying:=⟨⟨rfl,rfl,rfl,by decide +kernel,rfl,rfl,rfl⟩,⟨_,rfl,rfl⟩,fun _ _ _ _ _ _ _ _ _ _=>rfl,⟨_,_,_,_,_,_,_,_,_,rfl,fun _=>rfl⟩⟩
set_option genInjectivity false in
set_option genSizeOfSpec false in
structure Adr where
 f_is_number:Addr
 d_is_number:FuncData
 f_is_within:Addr
 d_is_within:FuncData
 f_is_place:Addr
 d_is_place:FuncData
 f_is_line:Addr
 d_is_line:FuncData
 f_is_word:Addr
 d_is_word:FuncData
 f_is_house:Addr
 d_is_house:FuncData
 f_is_counted_rule:Addr
 d_is_counted_rule:FuncData
 f_is_rule:Addr
 d_is_rule:FuncData
 f_require_rule:Addr
 d_require_rule:FuncData
 f_need:Addr
 d_need:FuncData
 f_is_saying:Addr
 d_is_saying:FuncData
 f_Book_init:Addr
 d_Book_init:FuncData
 f_Book_note:Addr
 d_Book_note:FuncData
 f_Book_said:Addr
 d_Book_said:FuncData
 f_counted:Addr
 d_counted:FuncData
 f_others_told:Addr
 d_others_told:FuncData
 f_is_rising:Addr
 d_is_rising:FuncData
 f_is_done_paper:Addr
 d_is_done_paper:FuncData
 f_right_done:Addr
 d_right_done:FuncData
 f_law_deck:Addr
 d_law_deck:FuncData
 f_law_take:Addr
 d_law_take:FuncData
 f_law_saying:Addr
 d_law_saying:FuncData
 f_law_put:Addr
 d_law_put:FuncData
 f_law_rule:Addr
 d_law_rule:FuncData
 f_law_numbers:Addr
 d_law_numbers:FuncData
 f_law_done:Addr
 d_law_done:FuncData
 f_law_asked:Addr
 d_law_asked:FuncData
 f_law_book:Addr
 d_law_book:FuncData
 f_law_whole:Addr
 d_law_whole:FuncData
 f_law_right:Addr
 d_law_right:FuncData
 f_law_made_up:Addr
 d_law_made_up:FuncData
 f_law_bent_houses:Addr
 d_law_bent_houses:FuncData
 f_law_bent:Addr
 d_law_bent:FuncData
 f_law_says:Addr
 d_law_says:FuncData
 f_law_no_rule:Addr
 d_law_no_rule:FuncData
 f_law:Addr
 d_law:FuncData
 u_HOUSES:Value
 u_LAST_LINE:Value
 u_LAST_PLACE:Value
 u_WRITTEN:Value
 a_WRITTEN:Addr
 C_Book:Addr
 C_LineError:Addr
 C_NoCount:Addr
 C_NoHouse:Addr
 C_NoPlace:Addr
 C_NoRule:Addr
 C_NoSaying:Addr
 I_NoRule:Addr
 I_NoSaying:Addr
set_option genInjectivity false in
set_option genSizeOfSpec false in
structure Txt (P:Program) (K:PySem.W.Frag) (mg:Str→Option Value) (a:Adr):Prop where
 mC_Book:mg "Book" = some (.ref a.C_Book)
 mC_LineError:mg "LineError" = some (.ref a.C_LineError)
 mC_NoCount:mg "NoCount" = some (.ref a.C_NoCount)
 mC_NoHouse:mg "NoHouse" = some (.ref a.C_NoHouse)
 mC_NoPlace:mg "NoPlace" = some (.ref a.C_NoPlace)
 mC_NoRule:mg "NoRule" = some (.ref a.C_NoRule)
 mC_NoSaying:mg "NoSaying" = some (.ref a.C_NoSaying)
 Z_NoRule:XIni0 P K a.C_NoRule a.C_LineError a.I_NoRule "zzplace"
 Z_NoSaying:XIni0 P K a.C_NoSaying a.C_LineError a.I_NoSaying "zzplace"
 xg_NoRule:XG K a.C_NoRule
 ex_NoRule_LineError:PySem.W.exmOne K (.ref a.C_NoRule) (.ref a.C_LineError)=some true
 is_NoRule_NoCount:PySem.W.kitOne K (.ref a.C_NoRule) (.ref a.C_NoCount)=some false
 is_NoRule_NoHouse:PySem.W.kitOne K (.ref a.C_NoRule) (.ref a.C_NoHouse)=some false
 is_NoRule_NoPlace:PySem.W.kitOne K (.ref a.C_NoRule) (.ref a.C_NoPlace)=some false
 is_NoRule_NoRule:PySem.W.kitOne K (.ref a.C_NoRule) (.ref a.C_NoRule)=some true
 is_NoRule_NoSaying:PySem.W.kitOne K (.ref a.C_NoRule) (.ref a.C_NoSaying)=some false
 is_NoRule_ValueError:PySem.W.kitOne K (.ref a.C_NoRule) (.type "ValueError")=some true
 xg_NoSaying:XG K a.C_NoSaying
 ex_NoSaying_LineError:PySem.W.exmOne K (.ref a.C_NoSaying) (.ref a.C_LineError)=some true
 is_NoSaying_NoCount:PySem.W.kitOne K (.ref a.C_NoSaying) (.ref a.C_NoCount)=some false
 is_NoSaying_NoHouse:PySem.W.kitOne K (.ref a.C_NoSaying) (.ref a.C_NoHouse)=some false
 is_NoSaying_NoPlace:PySem.W.kitOne K (.ref a.C_NoSaying) (.ref a.C_NoPlace)=some false
 is_NoSaying_NoRule:PySem.W.kitOne K (.ref a.C_NoSaying) (.ref a.C_NoRule)=some false
 is_NoSaying_NoSaying:PySem.W.kitOne K (.ref a.C_NoSaying) (.ref a.C_NoSaying)=some true
 is_NoSaying_ValueError:PySem.W.kitOne K (.ref a.C_NoSaying) (.type "ValueError")=some true
 c_HOUSES:mg "HOUSES" = some a.u_HOUSES∧RelV (.int 8) a.u_HOUSES
 c_LAST_LINE:mg "LAST_LINE" = some a.u_LAST_LINE∧RelV (.int 1000000000) a.u_LAST_LINE
 c_LAST_PLACE:mg "LAST_PLACE" = some a.u_LAST_PLACE∧RelV (.int 1000000) a.u_LAST_PLACE
 c_WRITTEN:mg "WRITTEN" = some a.u_WRITTEN∧RelV (.ref a.a_WRITTEN) a.u_WRITTEN
 r_WRITTEN:∀H,SqT K H a.a_WRITTEN [.str "written"]
 b_ValueError:mg "ValueError" = none
 b_all:mg "all" = none
 b_bool:mg "bool" = none
 b_int:mg "int" = none
 b_isinstance:mg "isinstance" = none
 b_len:mg "len" = none
 b_list:mg "list" = none
 b_max:mg "max" = none
 b_min:mg "min" = none
 b_range:mg "range" = none
 b_repr:mg "repr" = none
 b_set:mg "set" = none
 b_sorted:mg "sorted" = none
 b_str:mg "str" = none
 b_tuple:mg "tuple" = none
 b_zip:mg "zip" = none
 cl_Book:Cls K a.C_Book
 na_Book_sayings:NoAttr K a.C_Book "sayings"
 mk_Book:Mk K a.C_Book a.f_Book_init
 F_is_number:Fun K "is_number" "is_number" s_is_number a.f_is_number a.d_is_number
 m_is_number:mg "is_number" = some (.ref a.f_is_number)
 k_is_number:PySem.W.keepIn K (.ref a.f_is_number)=true
 bd_is_number:Binds K a.d_is_number ["thing"] []
 F_is_within:Fun K "is_within" "is_within" s_is_within a.f_is_within a.d_is_within
 m_is_within:mg "is_within" = some (.ref a.f_is_within)
 k_is_within:PySem.W.keepIn K (.ref a.f_is_within)=true
 bd_is_within:Binds K a.d_is_within ["thing","least","most"] []
 F_is_place:Fun K "is_place" "is_place" s_is_place a.f_is_place a.d_is_place
 m_is_place:mg "is_place" = some (.ref a.f_is_place)
 k_is_place:PySem.W.keepIn K (.ref a.f_is_place)=true
 bd_is_place:Binds K a.d_is_place ["thing"] []
 F_is_line:Fun K "is_line" "is_line" s_is_line a.f_is_line a.d_is_line
 m_is_line:mg "is_line" = some (.ref a.f_is_line)
 k_is_line:PySem.W.keepIn K (.ref a.f_is_line)=true
 bd_is_line:Binds K a.d_is_line ["thing"] []
 F_is_word:Fun K "is_word" "is_word" s_is_word a.f_is_word a.d_is_word
 m_is_word:mg "is_word" = some (.ref a.f_is_word)
 k_is_word:PySem.W.keepIn K (.ref a.f_is_word)=true
 bd_is_word:Binds K a.d_is_word ["thing","word"] []
 F_is_house:Fun K "is_house" "is_house" s_is_house a.f_is_house a.d_is_house
 m_is_house:mg "is_house" = some (.ref a.f_is_house)
 k_is_house:PySem.W.keepIn K (.ref a.f_is_house)=true
 kb_is_house:KBinds K a.d_is_house ["thing","houses"] ["houses"] kg2 kg2
 F_is_counted_rule:Fun K "is_counted_rule" "is_counted_rule" s_is_counted_rule a.f_is_counted_rule a.d_is_counted_rule
 m_is_counted_rule:mg "is_counted_rule" = some (.ref a.f_is_counted_rule)
 k_is_counted_rule:PySem.W.keepIn K (.ref a.f_is_counted_rule)=true
 bd_is_counted_rule:Binds K a.d_is_counted_rule ["thing"] []
 F_is_rule:Fun K "is_rule" "is_rule" s_is_rule a.f_is_rule a.d_is_rule
 m_is_rule:mg "is_rule" = some (.ref a.f_is_rule)
 k_is_rule:PySem.W.keepIn K (.ref a.f_is_rule)=true
 bd_is_rule:Binds K a.d_is_rule ["thing"] []
 F_require_rule:Fun K "require_rule" "require_rule" s_require_rule a.f_require_rule a.d_require_rule
 m_require_rule:mg "require_rule" = some (.ref a.f_require_rule)
 k_require_rule:PySem.W.keepIn K (.ref a.f_require_rule)=true
 bd_require_rule:Binds K a.d_require_rule ["thing"] []
 F_need:Fun K "need" "need" s_need a.f_need a.d_need
 m_need:mg "need" = some (.ref a.f_need)
 k_need:PySem.W.keepIn K (.ref a.f_need)=true
 bd_need:Binds K a.d_need ["rule"] []
 F_is_saying:Fun K "is_saying" "is_saying" s_is_saying a.f_is_saying a.d_is_saying
 m_is_saying:mg "is_saying" = some (.ref a.f_is_saying)
 k_is_saying:PySem.W.keepIn K (.ref a.f_is_saying)=true
 bd_is_saying:Binds K a.d_is_saying ["thing"] []
 F_Book_init:Fun K "__init__" "Book.__init__" s_Book_init a.f_Book_init a.d_Book_init
 bd_Book_init:Binds K a.d_Book_init ["self"] []
 F_Book_note:Fun K "note" "Book.note" s_Book_note a.f_Book_note a.d_Book_note
 mt_Book_note:Meth K a.C_Book "note" a.f_Book_note
 bd_Book_note:Binds K a.d_Book_note ["self","saying"] []
 F_Book_said:Fun K "said" "Book.said" s_Book_said a.f_Book_said a.d_Book_said
 mt_Book_said:Meth K a.C_Book "said" a.f_Book_said
 bd_Book_said:Binds K a.d_Book_said ["self"] []
 F_counted:Fun K "counted" "counted" s_counted a.f_counted a.d_counted
 m_counted:mg "counted" = some (.ref a.f_counted)
 k_counted:PySem.W.keepIn K (.ref a.f_counted)=true
 bd_counted:Binds K a.d_counted ["saying","rule"] []
 F_others_told:Fun K "others_told" "others_told" s_others_told a.f_others_told a.d_others_told
 m_others_told:mg "others_told" = some (.ref a.f_others_told)
 k_others_told:PySem.W.keepIn K (.ref a.f_others_told)=true
 bd_others_told:Binds K a.d_others_told ["book","line","house","rule"] []
 F_is_rising:Fun K "is_rising" "is_rising" s_is_rising a.f_is_rising a.d_is_rising
 m_is_rising:mg "is_rising" = some (.ref a.f_is_rising)
 k_is_rising:PySem.W.keepIn K (.ref a.f_is_rising)=true
 bd_is_rising:Binds K a.d_is_rising ["thing"] []
 F_is_done_paper:Fun K "is_done_paper" "is_done_paper" s_is_done_paper a.f_is_done_paper a.d_is_done_paper
 m_is_done_paper:mg "is_done_paper" = some (.ref a.f_is_done_paper)
 k_is_done_paper:PySem.W.keepIn K (.ref a.f_is_done_paper)=true
 bd_is_done_paper:Binds K a.d_is_done_paper ["thing"] []
 F_right_done:Fun K "right_done" "right_done" s_right_done a.f_right_done a.d_right_done
 m_right_done:mg "right_done" = some (.ref a.f_right_done)
 k_right_done:PySem.W.keepIn K (.ref a.f_right_done)=true
 bd_right_done:Binds K a.d_right_done ["book","line","fork","end","house","rule","paper"] []
 F_law_deck:Fun K "_law_deck" "_law_deck" s_law_deck a.f_law_deck a.d_law_deck
 m__law_deck:mg "_law_deck" = some (.ref a.f_law_deck)
 k__law_deck:PySem.W.keepIn K (.ref a.f_law_deck)=true
 bd__law_deck:Binds K a.d_law_deck ["_law_script"] []
 F_law_take:Fun K "_law_take" "_law_take" s_law_take a.f_law_take a.d_law_take
 m__law_take:mg "_law_take" = some (.ref a.f_law_take)
 k__law_take:PySem.W.keepIn K (.ref a.f_law_take)=true
 bd__law_take:Binds K a.d_law_take ["_law_deck_here","_law_many"] []
 F_law_saying:Fun K "_law_saying" "_law_saying" s_law_saying a.f_law_saying a.d_law_saying
 m__law_saying:mg "_law_saying" = some (.ref a.f_law_saying)
 k__law_saying:PySem.W.keepIn K (.ref a.f_law_saying)=true
 bd__law_saying:Binds K a.d_law_saying ["_law_deck_here"] []
 F_law_put:Fun K "_law_put" "_law_put" s_law_put a.f_law_put a.d_law_put
 m__law_put:mg "_law_put" = some (.ref a.f_law_put)
 k__law_put:PySem.W.keepIn K (.ref a.f_law_put)=true
 bd__law_put:Binds K a.d_law_put ["_law_model","_law_saying_here"] []
 F_law_rule:Fun K "_law_rule" "_law_rule" s_law_rule a.f_law_rule a.d_law_rule
 m__law_rule:mg "_law_rule" = some (.ref a.f_law_rule)
 k__law_rule:PySem.W.keepIn K (.ref a.f_law_rule)=true
 bd__law_rule:Binds K a.d_law_rule ["_law_deck_here"] []
 F_law_numbers:Fun K "_law_numbers" "_law_numbers" s_law_numbers a.f_law_numbers a.d_law_numbers
 m__law_numbers:mg "_law_numbers" = some (.ref a.f_law_numbers)
 k__law_numbers:PySem.W.keepIn K (.ref a.f_law_numbers)=true
 bd__law_numbers:Binds K a.d_law_numbers ["_law_model","_law_line","_law_rule_here"] []
 F_law_done:Fun K "_law_done" "_law_done" s_law_done a.f_law_done a.d_law_done
 m__law_done:mg "_law_done" = some (.ref a.f_law_done)
 k__law_done:PySem.W.keepIn K (.ref a.f_law_done)=true
 bd__law_done:Binds K a.d_law_done ["_law_model","_law_asked_here"] []
 F_law_asked:Fun K "_law_asked" "_law_asked" s_law_asked a.f_law_asked a.d_law_asked
 m__law_asked:mg "_law_asked" = some (.ref a.f_law_asked)
 k__law_asked:PySem.W.keepIn K (.ref a.f_law_asked)=true
 bd__law_asked:Binds K a.d_law_asked ["_law_deck_here"] []
 F_law_book:Fun K "_law_book" "_law_book" s_law_book a.f_law_book a.d_law_book
 m__law_book:mg "_law_book" = some (.ref a.f_law_book)
 k__law_book:PySem.W.keepIn K (.ref a.f_law_book)=true
 bd__law_book:Binds K a.d_law_book ["_law_deck_here","_law_book_here","_law_model"] []
 F_law_whole:Fun K "_law_whole" "_law_whole" s_law_whole a.f_law_whole a.d_law_whole
 m__law_whole:mg "_law_whole" = some (.ref a.f_law_whole)
 k__law_whole:PySem.W.keepIn K (.ref a.f_law_whole)=true
 bd__law_whole:Binds K a.d_law_whole ["_law_thing"] []
 F_law_right:Fun K "_law_right" "_law_right" s_law_right a.f_law_right a.d_law_right
 m__law_right:mg "_law_right" = some (.ref a.f_law_right)
 k__law_right:PySem.W.keepIn K (.ref a.f_law_right)=true
 bd__law_right:Binds K a.d_law_right ["_law_model","_law_asked_here","_law_thing"] []
 F_law_made_up:Fun K "_law_made_up" "_law_made_up" s_law_made_up a.f_law_made_up a.d_law_made_up
 m__law_made_up:mg "_law_made_up" = some (.ref a.f_law_made_up)
 k__law_made_up:PySem.W.keepIn K (.ref a.f_law_made_up)=true
 bd__law_made_up:Binds K a.d_law_made_up ["_law_deck_here","_law_model","_law_asked_here"] []
 F_law_bent_houses:Fun K "_law_bent_houses" "_law_bent_houses" s_law_bent_houses a.f_law_bent_houses a.d_law_bent_houses
 m__law_bent_houses:mg "_law_bent_houses" = some (.ref a.f_law_bent_houses)
 k__law_bent_houses:PySem.W.keepIn K (.ref a.f_law_bent_houses)=true
 bd__law_bent_houses:Binds K a.d_law_bent_houses ["_law_deck_here","_law_houses"] []
 F_law_bent:Fun K "_law_bent" "_law_bent" s_law_bent a.f_law_bent a.d_law_bent
 m__law_bent:mg "_law_bent" = some (.ref a.f_law_bent)
 k__law_bent:PySem.W.keepIn K (.ref a.f_law_bent)=true
 bd__law_bent:Binds K a.d_law_bent ["_law_deck_here","_law_paper"] []
 F_law_says:Fun K "_law_says" "_law_says" s_law_says a.f_law_says a.d_law_says
 m__law_says:mg "_law_says" = some (.ref a.f_law_says)
 k__law_says:PySem.W.keepIn K (.ref a.f_law_says)=true
 bd__law_says:Binds K a.d_law_says ["_law_book_here","_law_model","_law_asked_here","_law_thing"] []
 F_law_no_rule:Fun K "_law_no_rule" "_law_no_rule" s_law_no_rule a.f_law_no_rule a.d_law_no_rule
 m__law_no_rule:mg "_law_no_rule" = some (.ref a.f_law_no_rule)
 k__law_no_rule:PySem.W.keepIn K (.ref a.f_law_no_rule)=true
 bd__law_no_rule:Binds K a.d_law_no_rule ["_law_deck_here","_law_book_here","_law_asked_here","_law_thing"] []
 F_law:Fun K "law" "law" s_law a.f_law a.d_law
 m_law:mg "law" = some (.ref a.f_law)
 k_law:PySem.W.keepIn K (.ref a.f_law)=true
 bd_law:Binds K a.d_law ["_law_script"] []
 dB_is_house:Binds K a.d_is_house ["thing","houses"] [a.u_HOUSES]
 bl_law:∀(s:Shared) (u:Value),BindsTo s a.d_law ⟨[u],[]⟩ [("_law_script",u)]
section
variable {P:Program}{w:World}{K:PySem.W.Frag}{mg:Str→Option Value}{base:Heap}{a:Adr}
noncomputable def sp_is_number (K:PySem.W.Frag):Sp:=fun vs H Q _=>∃(N:List Addr)(x:V)(d:PyData),vs = [x]∧Dt K N H x d∧Q (.bl (Mt.numD d)) H
abbrev gis_number (P:Program)(w:World)(K:PySem.W.Frag)(mg:Str→Option Value)(base:Heap)(a:Adr):Prop:=FnOk P w K mg base CX0 1 a.f_is_number a.d_is_number ["thing"] (sp_is_number K)
theorem ok_is_number (T:Txt P K mg a)  : gis_number P w K mg base a:=by
 refine T.F_is_number.ok sc_is_number (fun vs H Q E h=>?_) (fun cdv A outer s H vs Q E hr h=>?_)
 ·obtain⟨N,x,d,rfl,_⟩:=h;rfl
 ·obtain⟨N,x,d,rfl,hd,k⟩:=h
  refine exW ⟨_,(qss_one (qs_ret (pe_and (qe_callB cn_isi (by rfl) T.b_isinstance (by decide +kernel) (qa (pv 0) (qa (pe_bltn (by rfl) T.b_int (by decide +kernel) (v:=.ty "int") rfl) qa_nil))) (pe_one (pe_not (qe_callB cn_isi (by rfl) T.b_isinstance (by decide +kernel) (qa (pv 0) (qa (pe_bltn (by rfl) T.b_bool (by decide +kernel) (v:=.ty "bool") rfl) qa_nil)))))))),?_⟩
  try dsimp only[cxOf]
  walk_at"rd"
  cases d with
  | int i=>dsimp only[isIntD];walk_at"rd";dsimp only[isBoolD];walk_at"rd";exact k
  | bool b=>dsimp only[isIntD];walk_at"rd";dsimp only[isBoolD];walk_at"rd";exact k
  | _=>dsimp only[isIntD];walk_at"rd";exact k
noncomputable def sp_is_within (K:PySem.W.Frag):Sp:=fun vs H Q _=>∃(N:List Addr)(x:V)(d:PyData)(lo hi:Int),vs = [x,.int lo,.int hi]∧Dt K N H x d∧Q (.bl (Mt.withinD lo hi d)) H
abbrev gis_within (P:Program)(w:World)(K:PySem.W.Frag)(mg:Str→Option Value)(base:Heap)(a:Adr):Prop:=FnOk P w K mg base CX0 2 a.f_is_within a.d_is_within ["thing","least","most"] (sp_is_within K)
theorem ok_is_within (T:Txt P K mg a)(Z2:gis_number P w K mg base a):gis_within P w K mg base a:=by
 refine T.F_is_within.ok sc_is_within (fun vs H Q E h=>?_) (fun cdv A outer s H vs Q E hr h=>?_)
 ·obtain⟨N,x,d,lo,hi,rfl,_⟩:=h;rfl
 ·obtain⟨N,x,d,lo,hi,rfl,hd,k⟩:=h
  refine exW ⟨_,(qss_one (qs_ret (pe_and (qe_call Z2 (hr.mono (by decide)) (by rfl) T.m_is_number T.k_is_number T.bd_is_number .nil pass0 (qa (pv 0) qa_nil)) (pe_one (pe_chain op_le op_le (pv 1) (pv 0) (pv 2) (by with_unfolding_all rfl)))))),?_⟩
  try dsimp only[cxOf]
  walk_at"rd"
  refine⟨N,x,d,rfl,hd,rd_bl' ?_⟩
  cases hd with
  | int i =>
   dsimp only[Mt.numD]
   walk_at"rd"
   refine rd_ite2 (fun hc=>?_) (fun hc=>?_)
   ·walk_at"rd"
    simpa only[Mt.withinD,hc,Bool.true_and]using k
   ·simpa only[Mt.withinD,hc,Bool.false_and]using k
  | _=>dsimp only[Mt.numD];walk_at"rd";exact k
noncomputable def sp_is_place (K:PySem.W.Frag):Sp:=fun vs H Q _=>∃(N:List Addr)(x:V)(d:PyData),vs = [x]∧Dt K N H x d∧Q (.bl (Mt.withinD 0 1000000 d)) H
abbrev gis_place (P:Program)(w:World)(K:PySem.W.Frag)(mg:Str→Option Value)(base:Heap)(a:Adr):Prop:=FnOk P w K mg base CX0 3 a.f_is_place a.d_is_place ["thing"] (sp_is_place K)
theorem ok_is_place (T:Txt P K mg a)(Z1:gis_within P w K mg base a):gis_place P w K mg base a:=by
 refine T.F_is_place.ok sc_is_place (fun vs H Q E h=>?_) (fun cdv A outer s H vs Q E hr h=>?_)
 ·obtain⟨N,x,d,rfl,_⟩:=h;rfl
 ·obtain⟨N,x,d,rfl,hd,k⟩:=h
  refine exW ⟨_,(qss_one (qs_ret (qe_call Z1 (hr.mono (by decide)) (by rfl) T.m_is_within T.k_is_within T.bd_is_within .nil pass0 (qa (pv 0) (qa pe_int (qa (pe_glob (by rfl) T.c_LAST_PLACE.1 T.c_LAST_PLACE.2) qa_nil)))))),?_⟩
  try dsimp only[cxOf]
  walk_at"rd"
  exact⟨N,x,d,0,1000000,rfl,hd,k⟩
noncomputable def sp_is_line (K:PySem.W.Frag):Sp:=fun vs H Q _=>∃(N:List Addr)(x:V)(d:PyData),vs = [x]∧Dt K N H x d∧Q (.bl (Mt.withinD 0 1000000000 d)) H
abbrev gis_line (P:Program)(w:World)(K:PySem.W.Frag)(mg:Str→Option Value)(base:Heap)(a:Adr):Prop:=FnOk P w K mg base CX0 3 a.f_is_line a.d_is_line ["thing"] (sp_is_line K)
theorem ok_is_line (T:Txt P K mg a)(Z1:gis_within P w K mg base a):gis_line P w K mg base a:=by
 refine T.F_is_line.ok sc_is_line (fun vs H Q E h=>?_) (fun cdv A outer s H vs Q E hr h=>?_)
 ·obtain⟨N,x,d,rfl,_⟩:=h;rfl
 ·obtain⟨N,x,d,rfl,hd,k⟩:=h
  refine exW ⟨_,(qss_one (qs_ret (qe_call Z1 (hr.mono (by decide)) (by rfl) T.m_is_within T.k_is_within T.bd_is_within .nil pass0 (qa (pv 0) (qa pe_int (qa (pe_glob (by rfl) T.c_LAST_LINE.1 T.c_LAST_LINE.2) qa_nil)))))),?_⟩
  try dsimp only[cxOf]
  walk_at"rd"
  exact⟨N,x,d,0,1000000000,rfl,hd,k⟩
noncomputable def sp_is_word (K:PySem.W.Frag):Sp:=fun vs H Q _=>∃(N:List Addr)(x:V)(d:PyData)(w:Str),vs = [x,.str w]∧Dt K N H x d∧Q (.bl (Mt.strEq w d)) H
abbrev gis_word (P:Program)(w:World)(K:PySem.W.Frag)(mg:Str→Option Value)(base:Heap)(a:Adr):Prop:=FnOk P w K mg base CX0 1 a.f_is_word a.d_is_word ["thing","word"] (sp_is_word K)
theorem ok_is_word (T:Txt P K mg a)  : gis_word P w K mg base a:=by
 refine T.F_is_word.ok sc_is_word (fun vs H Q E h=>?_) (fun cdv A outer s H vs Q E hr h=>?_)
 ·obtain⟨N,x,d,w,rfl,_⟩:=h;rfl
 ·obtain⟨N,x,d,w,rfl,hd,k⟩:=h
  refine exW ⟨_,(qss_one (qs_ret (pe_and (qe_callB cn_isi (by rfl) T.b_isinstance (by decide +kernel) (qa (pv 0) (qa (pe_bltn (by rfl) T.b_str (by decide +kernel) (v:=.ty "str") rfl) qa_nil))) (pe_one (pe_cmpR op_eq (pv 0) (pv 1) (nomark _)))))),?_⟩
  try dsimp only[cxOf]
  walk_at"rd"
  cases hd with
  | str s =>
   dsimp only[isStrD]
   walk_at"rd"
   have e:decide (V.str s=V.str w)=Mt.strEq w (.str s):=by
    show _=decide (s=w)
    by_cases h:s=w
    ·subst h;simp
    ·simp[h]
   rw[e]
   exact k
  | _=>dsimp only[isStrD];walk_at"rd";exact k
noncomputable def sp_is_house (K:PySem.W.Frag):Sp:=fun vs H Q _=>∃(N:List Addr)(x:V)(d:PyData)(m:Int),vs = [x,.int m]∧Dt K N H x d∧Q (.bl (Mt.withinD 0 (m - 1) d)) H
abbrev gis_house (P:Program)(w:World)(K:PySem.W.Frag)(mg:Str→Option Value)(base:Heap)(a:Adr):Prop:=FnOk P w K mg base CX0 3 a.f_is_house a.d_is_house ["thing","houses"] (sp_is_house K)
theorem ok_is_house (T:Txt P K mg a)(Z1:gis_within P w K mg base a):gis_house P w K mg base a:=by
 refine T.F_is_house.ok sc_is_house (fun vs H Q E h=>?_) (fun cdv A outer s H vs Q E hr h=>?_)
 ·obtain⟨N,x,d,m,rfl,_⟩:=h;rfl
 ·obtain⟨N,x,d,m,rfl,hd,k⟩:=h
  refine exW ⟨_,(qss_one (qs_ret (qe_call Z1 (hr.mono (by decide)) (by rfl) T.m_is_within T.k_is_within T.bd_is_within .nil pass0 (qa (pv 0) (qa pe_int (qa (pe_op op_sub (pv 1) pe_int) qa_nil)))))),?_⟩
  try dsimp only[cxOf]
  walk_at"rd"
  exact⟨N,x,d,0,m - 1,rfl,hd,k⟩
noncomputable def sp_is_counted_rule (K:PySem.W.Frag):Sp:=fun vs H Q _=>∃(N:List Addr)(x:V)(ds:List PyData),vs = [x]∧Dt K N H x (.tuple ds)∧Q (.bl (Mt.cruleD ds)) H
abbrev gis_counted_rule (P:Program)(w:World)(K:PySem.W.Frag)(mg:Str→Option Value)(base:Heap)(a:Adr):Prop:=FnOk P w K mg base CX0 3 a.f_is_counted_rule a.d_is_counted_rule ["thing"] (sp_is_counted_rule K)
theorem ok_is_counted_rule (T:Txt P K mg a)(Z1:gis_within P w K mg base a)(Z4:gis_word P w K mg base a):gis_counted_rule P w K mg base a:=by
 refine T.F_is_counted_rule.ok sc_is_counted_rule (fun vs H Q E h=>?_) (fun cdv A outer s H vs Q E hr h=>?_)
 ·obtain⟨N,x,ds,rfl,_⟩:=h;rfl
 ·obtain⟨N, x, ds,rfl,hd,k⟩:=h
  refine exW ⟨_,(qss_cons (qs_if (pw_or (pt_cmpR op_ne (qe_callB cn_len (by rfl) T.b_len (by decide +kernel) (qa (pv 0) qa_nil)) pe_int (nomark _)) (pw_or1 (pt_not (pt_val (qe_call Z1 (hr.mono (by decide)) (by rfl) T.m_is_within T.k_is_within T.bd_is_within .nil pass0 (qa (pe_ix ix_tup (pv 0) pe_int (fun _ _=>rfl)) (qa pe_int (qa (pe_op op_sub (pe_glob (by rfl) T.c_HOUSES.1 T.c_HOUSES.2) pe_int) qa_nil)))) (by intro _;rfl))))).pt
    (qss_one (qs_ret pe_bl))
    qss_nil)
   (qss_one (qs_ret (pe_or (qe_call Z4 (hr.mono (by decide)) (by rfl) T.m_is_word T.k_is_word T.bd_is_word .nil pass0 (qa (pe_ix ix_tup (pv 0) pe_int (fun _ _=>rfl)) (qa pe_str qa_nil))) (pe_one (qe_call Z4 (hr.mono (by decide)) (by rfl) T.m_is_word T.k_is_word T.bd_is_word .nil pass0 (qa (pe_ix ix_tup (pv 0) pe_int (fun _ _=>rfl)) (qa pe_str qa_nil)))))))),?_⟩
  try dsimp only[cxOf]
  cases hd with
  | tup hq hn hr =>
   rename_i p xs
   have hlen:=hr.length
   walk_at"rd"
   refine rd_ite2 (fun hc=>?_) (fun hc=>?_)
   ·have e2:ds.length≠2:=by
     intro e
     rw[hlen,e]at hc
     simp at hc
    walk_at"rd"
    have:Mt.cruleD ds=false:=by
     unfold Mt.cruleD
     split
     ·rename_i heq;simp at e2
     ·rfl
    rw[this]at k
    exact k
   ·have e2 : ds.length=2:=by
     rw[hlen]at hc
     have:V.int (ds.length:Int)=V.int 2:=by simpa using hc
     injection this with this
     omega
    cases hr with
    | nil=>simp at e2
    | cons q1 hr=>cases hr with
     | nil=>simp at e2
     | cons q2 hr=>cases hr with
      | cons q3 hr=>simp at e2
      | nil =>
       rename_i _ _ x1 x2
       walk_at"rd"
       refine⟨N,_,_,_,_,rfl,q2,?_⟩
       rw[show (8 - 1:Int)=7 from rfl]
       cases h1:Mt.withinD 1 7 x2 with
       | false =>
        walk_at"rd"
        simpa only[Mt.cruleD,h1,Bool.false_and]using k
       | true =>
        walk_at"rd"
        refine⟨N,_,_,_,rfl,q1,rd_bl' ?_⟩
        refine rd_ite2 (fun h2=>?_) (fun h2=>?_)
        ·simpa only[Mt.cruleD,h1,h2,Bool.true_and,Bool.true_or]using k
        ·walk_at"rd"
         refine⟨N,_,_,_,rfl,q1,?_⟩
         simpa only[Mt.cruleD,h1,h2,Bool.true_and,Bool.false_or]using k
noncomputable def sp_is_rule (K:PySem.W.Frag):Sp:=fun vs H Q _=>∃(N:List Addr)(x:V)(d:PyData),vs = [x]∧Dt K N H x d∧Q (.bl (Mt.ruleD d)) H
abbrev gis_rule (P:Program)(w:World)(K:PySem.W.Frag)(mg:Str→Option Value)(base:Heap)(a:Adr):Prop:=FnOk P w K mg base CX0 4 a.f_is_rule a.d_is_rule ["thing"] (sp_is_rule K)
theorem ok_is_rule (T:Txt P K mg a)(Z11:gis_counted_rule P w K mg base a)(Z4:gis_word P w K mg base a):gis_rule P w K mg base a:=by
 refine T.F_is_rule.ok sc_is_rule (fun vs H Q E h=>?_) (fun cdv A outer s H vs Q E hr h=>?_)
 ·obtain⟨N,x,d,rfl,_⟩:=h;rfl
 ·obtain⟨N,x,d,rfl,hd,k⟩:=h
  refine exW ⟨_,(qss_cons (qs_if (pt_not (pt_val (qe_callB cn_isi (by rfl) T.b_isinstance (by decide +kernel) (qa (pv 0) (qa (pe_bltn (by rfl) T.b_tuple (by decide +kernel) (v:=.ty "tuple") rfl) qa_nil))) (by intro _;rfl)))
    (qss_one (qs_ret pe_bl))
    qss_nil)
   (qss_cons (qs_if (pt_cmpR op_eq (qe_callB cn_len (by rfl) T.b_len (by decide +kernel) (qa (pv 0) qa_nil)) pe_int (nomark _))
    (qss_one (qs_ret (qe_call Z4 (hr.mono (by decide)) (by rfl) T.m_is_word T.k_is_word T.bd_is_word .nil pass0 (qa (pe_ix ix_tup (pv 0) pe_int (fun _ _=>rfl)) (qa (pe_ix ix_tup (pe_glob (by rfl) T.c_WRITTEN.1 T.c_WRITTEN.2) pe_int (fun _ _=>rfl)) qa_nil)))))
    qss_nil)
   (qss_one (qs_ret (qe_call Z11 (hr.mono (by decide)) (by rfl) T.m_is_counted_rule T.k_is_counted_rule T.bd_is_counted_rule .nil pass0 (qa (pv 0) qa_nil)))))),?_⟩
  try dsimp only[cxOf]
  walk_at"rd"
  cases hd with
  | tup hq hn hr =>
   rename_i p xs ds
   have hlen:=hr.length
   dsimp only[isTupD]
   walk_at"rd"
   refine rd_ite2 (fun hc=>?_) (fun hc=>?_)
   ·have e2:ds.length=1:=by
     rw[hlen]at hc
     have:V.int (ds.length:Int)=V.int 1:=by simpa using hc
     injection this with this
     omega
    cases hr with
    | nil=>simp at e2
    | cons q1 hr=>cases hr with
     | cons q3 hr=>simp at e2
     | nil =>
      walk_at"rd"
      refine rd_ixT (T.r_WRITTEN _) (atI_nat (j:=0) rfl) ?_
      walk_at"rd"
      exact⟨N,_,_,_,rfl,q1,k⟩
   ·have e2:ds.length≠1:=by
     intro e
     rw[hlen,e]at hc
     simp at hc
    walk_at"rd"
    refine⟨N,_,ds,rfl,.tup hq hn hr,?_⟩
    have:Mt.ruleD (.tuple ds)=Mt.cruleD ds:=by
     unfold Mt.ruleD
     split
     ·rename_i heq;cases heq;simp at e2
     ·rename_i heq;cases heq;rfl
     ·rename_i h;exact(h _ rfl).elim
    rw[this]at k
    exact k
  | _=>dsimp only[isTupD];walk_at"rd";exact k
noncomputable def sp_require_rule (K:PySem.W.Frag)(a:Adr):Sp:=fun vs H Q E=>∃(N:List Addr)(x:V)(d:PyData),vs = [x]∧Dt K N H x d∧(Mt.ruleD d=true→Q .non H)∧(Mt.ruleD d=false→E (.ref a.C_NoRule) none H)
abbrev grequire_rule (P:Program)(w:World)(K:PySem.W.Frag)(mg:Str→Option Value)(base:Heap)(a:Adr):Prop:=FnOk P w K mg base (CX1 P w) 5 a.f_require_rule a.d_require_rule ["thing"] (sp_require_rule K a)
theorem ok_require_rule (T:Txt P K mg a)(Z12:gis_rule P w K mg base a):grequire_rule P w K mg base a:=by
 refine T.F_require_rule.okX sc_require_rule (fun vs H Q E h=>?_) (fun cdv A outer s H vs Q E hr h=>?_)
 ·obtain⟨N,x,d,rfl,_⟩:=h;rfl
 ·obtain⟨N,x,d,rfl,hd,k1,k2⟩:=h
  refine exW ⟨_,(qss_one (qs_if (pt_not (pt_val (qe_call Z12 (hr.mono (by decide)) (by rfl) T.m_is_rule T.k_is_rule T.bd_is_rule .nil pass0 (qa (pv 0) qa_nil)) (by intro _;rfl)))
    (qss_one (qs_raise0i px1 (by rfl) (hr.mono (by decide)) (by rfl) T.mC_NoRule T.Z_NoRule (by decide)))
    qss_nil)),?_⟩
  try dsimp only[cxOf]
  walk_at"rd"
  refine⟨N,x,d,rfl,hd,?_⟩
  cases hh:Mt.ruleD d with
  | true=>walk_at"rd";exact k1 hh
  | false=>walk_at"rd";exact k2 hh
noncomputable def sp_need (K:PySem.W.Frag)(a:Adr):Sp:=fun vs H Q E=>∃(N:List Addr)(x:V)(d:PyData),vs = [x]∧Dt K N H x d∧(Mt.ruleD d=true→Q (.int (Mt.needD d)) H)∧(Mt.ruleD d=false→E (.ref a.C_NoRule) none H)
abbrev gneed (P:Program)(w:World)(K:PySem.W.Frag)(mg:Str→Option Value)(base:Heap)(a:Adr):Prop:=FnOk P w K mg base (CX1 P w) 6 a.f_need a.d_need ["rule"] (sp_need K a)
theorem ok_need (T:Txt P K mg a)(Z6:grequire_rule P w K mg base a):gneed P w K mg base a:=by
 refine T.F_need.okX sc_need (fun vs H Q E h=>?_) (fun cdv A outer s H vs Q E hr h=>?_)
 ·obtain⟨N,x,d,rfl,_⟩:=h;rfl
 ·obtain⟨N,x,d,rfl,hd,k1,k2⟩:=h
  refine exW ⟨_,(qss_cons (qs_expr (qe_callX Z6 (hr.mono (by decide)) (by rfl) T.m_require_rule T.k_require_rule T.bd_require_rule .nil px1 (qa (pv 0) qa_nil)))
   (qss_one (qs_ret (pe_ifExp (pt_cmpR (on_eqD hr) (pv 0) (pe_glob (by rfl) T.c_WRITTEN.1 T.c_WRITTEN.2) (nomark _)) pe_int (pe_op op_add (pe_ix ix_tup (pv 0) pe_int (fun _ _=>rfl)) pe_int))))),?_⟩
  try dsimp only[cxOf]
  walk_at"rd"
  refine⟨N,x,d,rfl,hd,fun hw=>?_,k2⟩
  have k:=k1 hw
  have hW:Dt K [] H (.ref a.a_WRITTEN) (.tuple [.str "written"]):=.tup (T.r_WRITTEN H) (by simp) (.cons (.str _) .nil)
  walk_at"rd"
  rcases Mt.rule_shape hw with rfl | ⟨w,n,rfl,hv,h1,h2⟩
  ·refine rd_eqD hd.nil hW (by decide +kernel) (by decide +kernel) ?_
   rw[show PyData.eqv (.tuple [.str "written"]) (.tuple [.str "written"])=true by decide +kernel]
   walk_at"rd"
   exact k
  ·refine rd_eqD hd.nil hW (by rcases hv with rfl |rfl <;> simp[SeqAt.shaped,PyData.canLay0,PyData.canLayAll0,PyData.depth,PyData.depthAll] <;> decide +kernel) (by decide +kernel) ?_
   rw[show PyData.eqv (.tuple [.str w,.int n]) (.tuple [.str "written"])=false by simp[PyData.eqv,PyData.eqvAll]]
   walk_at"rd"
   cases hd with
   | tup hq hn hr =>
    cases hr with
    | cons q1 hr=>cases hr with
     | cons q2 hr =>
      cases hr
      cases q2
      walk_at"rd"
      exact k
noncomputable def sp_is_saying (K:PySem.W.Frag):Sp:=fun vs H Q _=>∃(N:List Addr)(x:V)(d:PyData),vs = [x]∧Dt K N H x d∧Q (.bl (Mt.sayD d)) H
abbrev gis_saying (P:Program)(w:World)(K:PySem.W.Frag)(mg:Str→Option Value)(base:Heap)(a:Adr):Prop:=FnOk P w K mg base CX0 4 a.f_is_saying a.d_is_saying ["thing"] (sp_is_saying K)
theorem ok_is_saying (T:Txt P K mg a)(Z13:gis_house P w K mg base a)(Z14:gis_line P w K mg base a)(Z15:gis_place P w K mg base a)(Z1:gis_within P w K mg base a):gis_saying P w K mg base a:=by
 refine T.F_is_saying.ok sc_is_saying (fun vs H Q E h=>?_) (fun cdv A outer s H vs Q E hr h=>?_)
 ·obtain⟨N,x,d,rfl,_⟩:=h;rfl
 ·obtain⟨N,x,d,rfl,hd,k⟩:=h
  refine exW ⟨_,(qss_cons (qs_if (pw_or (pt_not (pt_val (qe_callB cn_isi (by rfl) T.b_isinstance (by decide +kernel) (qa (pv 0) (qa (pe_bltn (by rfl) T.b_tuple (by decide +kernel) (v:=.ty "tuple") rfl) qa_nil))) (by intro _;rfl))) (pw_or1 (pt_cmpR op_ne (qe_callB cn_len (by rfl) T.b_len (by decide +kernel) (qa (pv 0) qa_nil)) pe_int (nomark _)))).pt
    (qss_one (qs_ret pe_bl))
    qss_nil)
   (qss_cons (qs_asg (pv 0) (pg_tup (n:=4) rfl (pgs_cons (pg_name (i:=1) sc_is_saying.nd rfl (Or.inl rfl)) (pgs_cons (pg_name (i:=2) sc_is_saying.nd rfl (Or.inl rfl)) (pgs_cons (pg_name (i:=3) sc_is_saying.nd rfl (Or.inl rfl)) (pgs_cons (pg_name (i:=4) sc_is_saying.nd rfl (Or.inl rfl)) pgs_nil))))))
   (qss_one (qs_ret (pe_and (qe_call Z13 (hr.mono (by decide)) (by rfl) T.m_is_house T.k_is_house T.dB_is_house (.cons T.c_HOUSES.2 .nil) pass0 (qa (pv 1) qa_nil)) (pe_and (qe_call Z14 (hr.mono (by decide)) (by rfl) T.m_is_line T.k_is_line T.bd_is_line .nil pass0 (qa (pv 2) qa_nil)) (pe_and (qe_call Z15 (hr.mono (by decide)) (by rfl) T.m_is_place T.k_is_place T.bd_is_place .nil pass0 (qa (pv 3) qa_nil)) (pe_one (qe_call Z1 (hr.mono (by decide)) (by rfl) T.m_is_within T.k_is_within T.bd_is_within .nil pass0 (qa (pv 4) (qa pe_int (qa (pv 3) qa_nil)))))))))))),?_⟩
  try dsimp only[cxOf]
  have hd0:=hd
  walk_at"rq"
  cases ht:isTupD d with
  | false =>
   refine rd_iteT ?_
   refine rd_iteT ?_
   walk_at"rq"
   rw[Mt.sayD_tup ht]at k
   exact k
  | true =>
   obtain⟨es,rfl⟩:=Mt.tup_of ht
   obtain⟨b,ys,rfl,q,r⟩:=dt_tuple hd
   have ly:=r.length
   refine rd_iteF ?_
   walk_at"rq"
   by_cases h4:ys.length=4
   ·rw[show decide (V.int (ys.length:Int)=V.int 4)=true from decide_eq_true (by rw[h4];rfl)]
    obtain⟨y1,y2,y3,y4,e1,e2,e3,e4,rfl,rfl,r1,r2,r3,r4⟩:=dt_4 r h4
    refine rd_iteF ?_
    walk_at"rq"
    refine⟨N,y1,e1,8,rfl,r1,?_⟩
    have k':Q (.bl (Mt.sayC e1 e2 e3 e4)) H:=k
    unfold Mt.sayC at k'
    rw[show (8:Int) - 1=7 from rfl]
    cases h1:Mt.withinD 0 7 e1 with
    | false=>rw[h1]at k';refine⟨_,rfl,?_⟩;refine rd_iteF ?_;exact k'
    | true =>
     refine⟨_,rfl,?_⟩
     refine rd_iteT ?_
     walk_at"rq"
     refine⟨N,y2,e2,rfl,r2,?_⟩
     cases h2:Mt.withinD 0 1000000000 e2 with
     | false=>rw[h1,h2]at k';refine⟨_,rfl,?_⟩;refine rd_iteF ?_;exact k'
     | true =>
      refine⟨_,rfl,?_⟩
      refine rd_iteT ?_
      walk_at"rq"
      refine⟨N,y3,e3,rfl,r3,?_⟩
      cases h3:Mt.withinD 0 1000000 e3 with
      | false=>rw[h1,h2,h3]at k';refine⟨_,rfl,?_⟩;refine rd_iteF ?_;exact k'
      | true =>
       obtain⟨i3,rfl,_⟩:=Mt.within_int2 h3
       obtain rfl:=dt_int r3
       refine⟨_,rfl,?_⟩
       refine rd_iteT ?_
       walk_at"rq"
       refine⟨N,y4,e4,0,i3,rfl,r4,?_⟩
       rw[h1,h2,h3]at k'
       exact k'
   ·rw[show decide (V.int (ys.length:Int)=V.int 4)=false from decide_eq_false (fun z=>h4 (by injection z with z;omega))]
    refine rd_iteT ?_
    walk_at"rq"
    rw[Mt.sayD_len (by omega)]at k
    exact k
noncomputable def sp_Book_init (K:PySem.W.Frag)(a:Adr):Sp:=fun vs H Q _=>∃(p dx:Addr),vs = [.ref p]∧H p=some (.ins a.C_Book dx [])∧∀(d:Addr)(H':Hp),H d=none→BkAt a.C_Book H' p d []→(∀b o,H b=some o→b≠p→H' b=some o)→Q .non H'
abbrev gBook_init (P:Program)(w:World)(K:PySem.W.Frag)(mg:Str→Option Value)(base:Heap)(a:Adr):Prop:=FnOk P w K mg base CX0 1 a.f_Book_init a.d_Book_init ["self"] (sp_Book_init K a)
theorem ok_Book_init (T:Txt P K mg a)  : gBook_init P w K mg base a:=by
 refine T.F_Book_init.ok sc_Book_init (fun vs H Q E h=>?_) (fun cdv A outer s H vs Q E hr h=>?_)
 ·obtain⟨p,dx,rfl,_⟩:=h;rfl
 ·obtain⟨p,dx,rfl,hp,k⟩:=h
  refine exW ⟨_,(qss_one (qs_fld (pv 0) pe_dnewT (by rfl))),?_⟩
  try dsimp only[cxOf]
  walk_at"rd"
  intro d hd
  walk_at"rd"
  have npd:p≠d:=ne_of_none hp hd
  refine⟨p,_,dx,_,rfl,by rw[upd_ne npd];exact hp,T.cl_Book,T.na_Book_sayings,by decide,?_⟩
  walk_at"rd"
  refine k d _ hd ⟨⟨dx,upd_same⟩,by rw[upd_ne npd.symm];exact upd_same,(fun q hq=>by cases hq),List.nodup_nil⟩ fun b o e hb=>?_
  rw[upd_ne hb,upd_ne (ne_of_none e hd)]
  exact e
noncomputable def sp_Book_note (K:PySem.W.Frag)(a:Adr):Sp:=fun vs H Q E=>∃(p d:Addr)(fs:List Ent)(N:List Addr)(x:V)(e:PyData),vs = [.ref p,x]∧BkAt a.C_Book H p d fs∧fs.length<64∧Dt K N H x e ∧
 (∀(q:Sv4) (H':Hp) (gs:List Ent),e=sayT q→okS q→BkAt a.C_Book H' p d gs→vw4 gs=noteV (vw4 fs) q→Ext [d] H H'→Q .non H')∧(Mt.sayD e=false→E (.ref a.C_NoSaying) none H)
abbrev gBook_note (P:Program)(w:World)(K:PySem.W.Frag)(mg:Str→Option Value)(base:Heap)(a:Adr):Prop:=FnOk P w K mg base (CX1 P w) 5 a.f_Book_note a.d_Book_note ["self","saying"] (sp_Book_note K a)
theorem ok_Book_note (T:Txt P K mg a)(Z16:gis_saying P w K mg base a):gBook_note P w K mg base a:=by
 refine T.F_Book_note.okX sc_Book_note (fun vs H Q E h=>?_) (fun cdv A outer s H vs Q E hr h=>?_)
 ·obtain⟨p,d,fs,N,x,e,rfl,_⟩:=h;rfl
 ·obtain⟨p,d,fs,N,x,e,rfl,B,hl,hx,k1,k2⟩:=h
  obtain⟨dx,h1⟩:=B.ob
  refine exW ⟨_,(qss_cons (qs_if (pt_not (pt_val (qe_call Z16 (hr.mono (by decide)) (by rfl) T.m_is_saying T.k_is_saying T.bd_is_saying .nil pass0 (qa (pv 1) qa_nil)) (by intro _;rfl)))
    (qss_one (qs_raise0i px1 (by rfl) (hr.mono (by decide)) (by rfl) T.mC_NoSaying T.Z_NoSaying (by decide)))
    qss_nil)
   (qss_cons (qs_asg (pv 1) (pg_tup (n:=4) rfl (pgs_cons (pg_name (i:=2) sc_Book_note.nd rfl (Or.inl rfl)) (pgs_cons (pg_name (i:=3) sc_Book_note.nd rfl (Or.inl rfl)) (pgs_cons (pg_name (i:=4) sc_Book_note.nd rfl (Or.inl rfl)) (pgs_cons (pg_name (i:=5) sc_Book_note.nd rfl (Or.inl rfl)) pgs_nil))))))
   (qss_cons (qs_asg (pe_dget2 (hu_of hr) (pe_fld (pv 0) (by rfl)) (qe_tup (qa (pv 2) (qa (pv 3) qa_nil))) (qe_tup (qa pe_int (qa pe_int qa_nil))) ⟨by rfl,by rfl,by rfl,by rfl⟩) (pg_tup (n:=2) rfl (pgs_cons (pg_name (i:=6) sc_Book_note.nd rfl (Or.inl rfl)) (pgs_cons (pg_name (i:=7) sc_Book_note.nd rfl (Or.inl rfl)) pgs_nil))))
   (qss_one (qs_dput (hu_of hr) (pe_fld (pv 0) (by rfl)) (qe_tup (qa (pv 2) (qa (pv 3) qa_nil))) (qe_tup (qa (qe_callB (cn_max (by rfl)) (by rfl) T.b_max (by decide +kernel) (qa (pv 4) (qa (pv 6) qa_nil))) (qa (qe_callB (cn_max (by rfl)) (by rfl) T.b_max (by decide +kernel) (qa (pv 5) (qa (pv 7) qa_nil))) qa_nil))) (by rfl)))))),?_⟩
  try dsimp only[cxOf]
  refine rd_seq ?_
  walk_at"rs"
  refine⟨N,x,e,rfl,hx,?_⟩
  cases hh:Mt.sayD e with
  | false=>walk_at"rs";exact k2 hh
  | true =>
   obtain⟨q,rfl,ok⟩:=Mt.sayD_int hh
   obtain⟨b,rfl,hq⟩:=dt_sayT hx
   walk_at"rs"
   refine rd_seq ?_
   walk_at"rs"
   refine rd_seq ?_
   walk_at"rs"
   refine⟨p,_,dx,_,_,rfl,h1,T.cl_Book,T.na_Book_sayings,bkF_s _,?_⟩
   refine⟨d,rfl,.inr ⟨_,.inl B.pb.dc⟩,?_⟩
   walk_at"rs"
   refine⟨sz (by simp),fun t1 n1=>?_⟩
   have B1:=B.same (Same.upd (o:=.tup [.int q.1.1,.int q.1.2]) n1)
   have g1:upd H t1 (.tup [.int q.1.1,.int q.1.2]) t1=some (.tup [.int q.1.1,.int q.1.2]):=upd_same
   have s1:=Same.upd (o:=.tup [.int q.1.1,.int q.1.2]) n1
   generalize upd H t1 (.tup [.int q.1.1,.int q.1.2])=H1 at B1 g1 s1 ⊢
   walk_at"rs"
   refine⟨sz (by simp),fun t2 n2=>?_⟩
   have s2:=Same.upd (o:=.tup [.int 0,.int 0]) n2
   have B2:=B1.same s2
   have g12:=s2 _ _ g1
   have g2:upd H1 t2 (.tup [.int 0,.int 0]) t2=some (.tup [.int 0,.int 0]):=upd_same
   generalize upd H1 t2 (.tup [.int 0,.int 0])=H2 at B2 g2 s2 g12 ⊢
   refine⟨_,DGet.t (k:=kP q.1) B2.pb.dc g12,?_⟩
   rw[valV_bk]
   obtain⟨z,ez,gz,lz⟩:=bk_get B2.pb q.1 g2
   rw[ez]
   walk_at"rs"
   refine⟨sz (by simp),fun t3 n3=>?_⟩
   have s3:=Same.upd (o:=.tup [.int (mx q.2.1 ((lookV (vw4 fs) q.1).getD (0,0)).1),.int (mx q.2.2 ((lookV (vw4 fs) q.1).getD (0,0)).2)]) n3
   have B3:=B2.same s3
   have g3:upd H2 t3 (.tup [.int (mx q.2.1 ((lookV (vw4 fs) q.1).getD (0,0)).1),.int (mx q.2.2 ((lookV (vw4 fs) q.1).getD (0,0)).2)]) t3=some (.tup [.int (mx q.2.1 ((lookV (vw4 fs) q.1).getD (0,0)).1),.int (mx q.2.2 ((lookV (vw4 fs) q.1).getD (0,0)).2)]):=upd_same
   rw[show (if ((lookV (vw4 fs) q.1).getD (0,0)).1 > q.2.1 then ((lookV (vw4 fs) q.1).getD (0,0)).1 else q.2.1)=mx q.2.1 ((lookV (vw4 fs) q.1).getD (0,0)).1 from rfl,show (if ((lookV (vw4 fs) q.1).getD (0,0)).2 > q.2.2 then ((lookV (vw4 fs) q.1).getD (0,0)).2 else q.2.2)=mx q.2.2 ((lookV (vw4 fs) q.1).getD (0,0)).2 from rfl]
   generalize upd H2 t3 (.tup [.int (mx q.2.1 ((lookV (vw4 fs) q.1).getD (0,0)).1),.int (mx q.2.2 ((lookV (vw4 fs) q.1).getD (0,0)).2)])=H3 at B3 g3 s3 ⊢
   walk_at"rs"
   obtain⟨dx3,h3⟩:=B3.ob
   refine⟨p,_,dx3,_,_,rfl,h3,T.cl_Book,T.na_Book_sayings,bkF_s _,?_⟩
   walk_at"rs"
   refine⟨sz (by simp),fun t4 n4=>?_⟩
   have s4:=Same.upd (o:=.tup [.int q.1.1,.int q.1.2]) n4
   have B4:=B3.same s4
   have g34:=s4 _ _ g3
   have g4:upd H3 t4 (.tup [.int q.1.1,.int q.1.2]) t4=some (.tup [.int q.1.1,.int q.1.2]):=upd_same
   generalize upd H3 t4 (.tup [.int q.1.1,.int q.1.2])=H4 at B4 g4 s4 g34 ⊢
   refine⟨d,_,rfl,DPut.t (k:=kP q.1) B4.pb.dc g4 (small1000 (by simp[bkD];omega)),?_⟩
   have e5:=putK_bk fs q.1 (t3,(mx q.2.1 ((lookV (vw4 fs) q.1).getD (0,0)).1,mx q.2.2 ((lookV (vw4 fs) q.1).getD (0,0)).2))
   have B5:=B4.pb.put (k:=q.1) (e:=(mx q.2.1 ((lookV (vw4 fs) q.1).getD (0,0)).1,mx q.2.2 ((lookV (vw4 fs) q.1).getD (0,0)).2)) g34
   rw[← e5]at B5
   obtain⟨dx4,h4⟩:=B4.ob
   walk_at"rs"
   refine k1 q _ _ rfl ok ⟨⟨dx4,?_⟩,B5⟩ (put_vw _ _ _) ((Ext.same ((s1.trans s2).trans (s3.trans s4))).trans (Ext.at (by simp)))
   rw[upd_ne (ne_of h4 B4.pb.dc (by intro z;cases z))]
   exact h4
noncomputable def sp_Book_said (K:PySem.W.Frag)(a:Adr):Sp:=fun vs H Q _=>∃(p d:Addr)(fs:List Ent),vs = [.ref p]∧BkAt a.C_Book H p d fs∧fs.length<64 ∧
 ∀(t:Addr) (ws:List V) (H':Hp),H t=none→SqT K H' t ws→SayL K H' ws (saidV (vw4 fs))→Same H H'→Q (.ref t) H'
abbrev gBook_said (P:Program)(w:World)(K:PySem.W.Frag)(mg:Str→Option Value)(base:Heap)(a:Adr):Prop:=FnOk P w K mg base CX0 1 a.f_Book_said a.d_Book_said ["self"] (sp_Book_said K a)
theorem ok_Book_said (T:Txt P K mg a)  : gBook_said P w K mg base a:=by
 refine T.F_Book_said.ok sc_Book_said (fun vs H Q E h=>?_) (fun cdv A outer s H vs Q E hr h=>?_)
 ·obtain⟨p,d,fs,rfl,_⟩:=h;rfl
 ·obtain⟨p,d,fs,rfl,B,hl,kk⟩:=h
  obtain⟨dx,h1⟩:=B.ob
  refine exW ⟨_,(qss_one (qs_ret (qe_callTy cn_tuple (by rfl) T.b_tuple (by decide +kernel) (qa (by
    refine' pe_comp (NC:=["key","self"]) (fr:=[none,some 0]) ?B1 rfl ?hi1 ?hg1 ?ht1 ?he1 (by intro _;rfl)
    case B1=>exact⟨rfl,rfl,by decide +kernel,by decide +kernel,rfl,⟨trivial,⟨rfl,rfl,Or.inl rfl⟩,trivial⟩⟩
    case hi1=>exact(pi_list (qe_callB (cn_sortDT (by rfl)) (by rfl) T.b_sorted (by decide +kernel) (qa (pe_fld (pv 0) (by rfl)) qa_nil)))
    case hg1=>intro _ _ _;exact(pg_name (i:=0) (show (["key","self"]:List Str).Nodup by decide +kernel) rfl (Or.inl rfl))
    case ht1=>intro _ _ _;exact pf_nil
    case he1=>intro _ _ _;exact(pe_op (op_catGK (K:=K) (by rfl)) (pv 0) (pe_dget (hu_of hr) (pe_fldK (K:=K) (by rfl) (pv 1) (by rfl)) (pv 0) (fun _ _=>rfl)))) qa_nil)))),?_⟩
  try dsimp only[cxOf]
  walk_at"rd"
  refine⟨p,_,dx,_,_,rfl,h1,T.cl_Book,T.na_Book_sayings,bkF_s _,?_⟩
  walk_at"rd"
  refine⟨d,fs.map (fun q=>(q.1,V.ref q.2.1)),rfl,by rw[B.pb.dc,bk_PK2],by simpa using hl,fun l as H2 nl s2 pa g2=>?_⟩
  walk_at"rd"
  rw[List.map_map,show (fun x:(Int×Int)×V=>x.fst) ∘ (fun q:Ent=>(q.fst,V.ref q.snd.fst))=(fun q:Ent=>q.1)from rfl,← vw_keys]at pa
  have lal:as.length=(srtP ((vw4 fs).map (·.1))).length:=Paired.length pa
  have lks:(srtP ((vw4 fs).map (·.1))).length=fs.length:=by rw[(srtP_perm _).length_eq,vw_keys,List.length_map]
  refine⟨l,rfl,⟨_,SqL.of g2⟩,?_⟩
  intro acc na ka
  have B2:=B.same s2
  refine comp_by as.length (small1000 (by omega)) (fun i vs σc H'=>Same H2 H'∧(∃o,σc = [o,some (.ref p)])∧SayL K H' vs ((saidV (vw4 fs)).take i)) ?_ ?_ ?_
  ·exact⟨Same.upd na,⟨none,rfl⟩,.nil⟩
  ·rintro i vs σc H' hi hlv ha ⟨sm,⟨o,rfl⟩,pv⟩
   have hL:SqL K H' l (as.map V.ref):=SqL.of (sm _ _ g2)
   have ex:(as.map V.ref)[i]? = some (.ref as[i]):=by simp[hi]
   refine⟨⟨_,_,hL,ex⟩,?_⟩
   rintro x H6 ⟨rfl,hx⟩ R hR
   have e2:=hx _ hL
   rw[ex]at e2;cases e2
   obtain⟨kk1,hk1⟩:∃k,(srtP ((vw4 fs).map (·.1)))[i]? = some k:=⟨_,List.getElem?_eq_getElem (by omega)⟩
   obtain⟨ai,hai,gk⟩:=paired_at pa hk1
   rw[List.getElem?_eq_getElem hi]at hai;cases hai
   have gk':=sm _ _ gk
   obtain⟨⟨dy,h1'⟩,P'⟩:=B2.same sm
   walk_at"rd"
   refine⟨p,_,dy,_,_,rfl,h1',T.cl_Book,T.na_Book_sayings,bkF_s _,?_⟩
   walk_at"rd"
   have hmem:kk1∈fs.map (·.1):=by rw[← vw_keys];exact(srtP_perm _).mem_iff.mp (List.mem_of_getElem? hk1)
   obtain⟨z,hz⟩:∃z,lookB fs kk1=some z:=by
    cases e:lookB fs kk1 with
    | none=>exact absurd hmem (lookB_none.mp e)
    | some v=>exact⟨v,rfl⟩
   have gz:=P'.vl _ (lookB_mem hz)
   refine⟨d,.ref z.1,rfl,by have:=DGet.t (k:=kP kk1) P'.dc gk';rw[valV_bk,hz]at this;exact this,?_⟩
   refine rd_catG (SqT.of gk') (SqT.of gz) (sz (by simp)) fun t7 H7 n7 s7 g7=>?_
   have ha7:=s7 _ _ ha
   refine hR _ _ _ ha7 ⟨fun b u e=>?_,⟨_,rfl⟩,?_⟩
   ·rw[upd_ne (ne_of_none e na)];exact s7 _ _ (sm b u e)
   ·have e8:=said_at hk1
    have tk:(saidV (vw4 fs)).take (i+1)=(saidV (vw4 fs)).take i ++ [(kk1,(lookV (vw4 fs) kk1).getD (0,0))]:=by rw[List.take_add_one,e8];rfl
    rw[tk]
    have nn:∀b ys,SqT K H7 b ys→SqT K (upd H7 acc (.lst (vs ++ [V.ref t7]))) b ys:=fun b ys hb=>SqT.updL hb ha7
    refine SayL.snoc (nn _ _ ?_) (Paired.mapP (pv.same s7) fun _ _ ⟨a,e,q⟩=>⟨a,e,nn _ _ q⟩)
    rw[look_vw,hz]
    exact g7
  ·rintro vs σc H' hlv ha ⟨sm,_,pv⟩
   refine⟨⟨_,SqL.of (sm _ _ g2),by simp⟩,?_⟩
   walk_at"rd"
   intro t8 n8
   rw[List.take_of_length_le (by rw[said_len];simp only[vw4,List.length_map];omega)]at pv
   refine kk t8 vs _ (s2.free (sm.free n8)) (SqT.of upd_same) (pv.same (Same.upd n8)) ((s2.trans sm).trans (Same.upd n8))
noncomputable def sp_counted (K:PySem.W.Frag):Sp:=fun vs H Q _=>∃(N:List Addr)(b:Addr)(q:Sv4)(x:V)(d:PyData),vs = [.ref b,x]∧SqT K H b [.int q.1.1,.int q.1.2,.int q.2.1,.int q.2.2]∧Dt K N H x d∧Mt.ruleD d=true∧Q (.int (cntV (apD d) q)) H
abbrev gcounted (P:Program)(w:World)(K:PySem.W.Frag)(mg:Str→Option Value)(base:Heap)(a:Adr):Prop:=FnOk P w K mg base CX0 1 a.f_counted a.d_counted ["saying","rule"] (sp_counted K)
theorem ok_counted (T:Txt P K mg a)  : gcounted P w K mg base a:=by
 refine T.F_counted.ok sc_counted (fun vs H Q E h=>?_) (fun cdv A outer s H vs Q E hr h=>?_)
 ·obtain⟨N,b,q,x,d,rfl,_⟩:=h;rfl
 ·obtain⟨N,b,q,x,d,rfl,hq,hd,hw,k⟩:=h
  obtain⟨w,ds,rfl⟩:=rule_head hw
  refine exW ⟨_,(qss_one (qs_ret (pe_ifExp (pt_cmpR op_eq (pe_ix ix_tup (pv 1) pe_int (fun _ _=>rfl)) pe_str (nomark _)) (pe_ix ix_tup (pv 0) pe_int (fun _ _=>rfl)) (pe_ix ix_tup (pv 0) pe_int (fun _ _=>rfl))))),?_⟩
  try dsimp only[cxOf]
  cases hd with
  | tup hr n r =>
   cases r with
   | cons r1 r =>
    cases r1
    walk_at"rd"
    refine rd_ixT hr (v:=.str w) (atI_nat (j:=0) rfl) ?_
    walk_at"rd"
    have e:decide (V.str w=V.str "applied")=apD (.tuple (.str w :: ds)):=by simp[apD]
    rw[e]
    refine rd_ite2 (fun hc=>?_) (fun hc=>?_)
    ·walk_at"rd"
     simpa only[cntV,hc,if_true]using k
    ·walk_at"rd"
     simpa only[cntV,hc,Bool.false_eq_true,if_false]using k
noncomputable def sp_others_told (K:PySem.W.Frag)(a:Adr):Sp:=fun vs H Q _=>∃(p d:Addr)(fs:List Ent)(N:List Addr)(x:V)(r:PyData)(line house:Int),vs = [.ref p,.int line,.int house,x]∧BkAt a.C_Book H p d fs∧fs.length<64∧Dt K N H x r∧Mt.ruleD r=true ∧
 ∀(t:Addr) (H':Hp),H t=none→H' t=some (.dK (FK (othV (vw4 fs) line house (apD r))))→Same H H'→Q (.ref t) H'
abbrev gothers_told (P:Program)(w:World)(K:PySem.W.Frag)(mg:Str→Option Value)(base:Heap)(a:Adr):Prop:=FnOk P w K mg base CX0 2 a.f_others_told a.d_others_told ["book","line","house","rule"] (sp_others_told K a)
theorem ok_others_told (T:Txt P K mg a)(Z5:gBook_said P w K mg base a)(Z17:gcounted P w K mg base a):gothers_told P w K mg base a:=by
 refine T.F_others_told.ok sc_others_told (fun vs H Q E h=>?_) (fun cdv A outer s H vs Q E hr h=>?_)
 ·obtain⟨p,d,fs,N,x,r,line,house,rfl,_⟩:=h;rfl
 ·obtain⟨p,d,fs,N,x,r,line,house,rfl,B,hl,hd,hw,k⟩:=h
  obtain⟨dx,h1⟩:=B.ob
  refine exW ⟨_,(qss_one (qs_ret (by
    refine' pe_dcomp (NC:=["saying","line","house","rule"]) (fr:=[none,some 1,some 2,some 3]) ?B2 rfl ?hi2 ?hg2 ?ht2 ?hk2 ?hv2 (by intro _;rfl)
    case B2=>exact⟨rfl,rfl,by decide +kernel,by decide +kernel,rfl,⟨trivial,⟨rfl,rfl,Or.inl rfl⟩,⟨rfl,rfl,Or.inl rfl⟩,⟨rfl,rfl,Or.inl rfl⟩,trivial⟩⟩
    case hi2=>exact(pi_tup (pe_meth0 (pv 0) T.cl_Book T.mt_Book_said Z5 (hr.mono (by decide)) T.bd_Book_said .nil pass0 (by rfl)))
    case hg2=>intro _ _ _;exact(pg_name (i:=0) (show (["saying","line","house","rule"]:List Str).Nodup by decide +kernel) rfl (Or.inl rfl))
    case ht2=>intro _ _ _;exact(pf_one (pw_and (pt_cmpR op_eq (pe_ix (ix_tupK (K:=K) (by rfl)) (pv 0) pe_int (fun _ _=>rfl)) (pv 1) (nomark _)) (pw_and1 (pt_cmpR op_ne (pe_ix (ix_tupK (K:=K) (by rfl)) (pv 0) pe_int (fun _ _=>rfl)) (pv 2) (nomark _)))).pt)
    case hk2=>intro _ _ _;exact(pe_ix (ix_tupK (K:=K) (by rfl)) (pv 0) pe_int (fun _ _=>rfl))
    case hv2=>intro _ _ _;exact(qe_call Z17 (hr.mono (by decide)) (by rfl) T.m_counted T.k_counted T.bd_counted .nil pass0 (qa (pv 0) (qa (pv 3) qa_nil)))))),?_⟩
  try dsimp only[cxOf]
  walk_at"rd"
  refine⟨p,_,_,rfl,h1,bkF_no _ (by decide +kernel),?_⟩
  walk_at"rd"
  refine⟨p,d,fs,rfl,B,hl,fun t ws H1 n1 q1 sl s1=>?_⟩
  walk_at"rd"
  refine⟨t,rfl,⟨_,q1⟩,?_⟩
  intro acc na ka
  refine dcomp_said (saidV (vw4 fs)) ws (fun q=>decide (q.1.2=line) && decide (q.1.1≠house)) (fun q=>(q.1.1,cntV (apD r) q)) (fun σ=>∃o,σ = [o,some (.int line),some (.int house),some x]) (by rw[said_len];simp[vw4];omega) na ⟨none,rfl⟩ q1 sl (oth_nd B.pb.vnd line house (apD r)) ?_ ?_
  ·rintro q b σc H2 R S hm hb sm ⟨o,rfl⟩ hR hS
   walk_at"rd"
   have e1:decide (V.int q.1.2=V.int line)=decide (q.1.2=line):=by simp
   have e2:(!decide (V.int q.1.1=V.int house))=decide (q.1.1≠house):=by simp
   rw[e1]
   cases c1:decide (q.1.2=line)with
   | false =>
    walk_at"rd"
    exact hS (by simp only[c1,Bool.false_and]) _ ⟨_,rfl⟩
   | true =>
    walk_at"rd"
    rw[e2]
    refine rd_ite2 (fun c2=>?_) (fun c2=>?_)
    ·walk_at"rd"
     refine⟨N,b,q,x,r,rfl,hb,hd.ext (Ext.same (s1.trans sm)),hw,?_⟩
     exact hR (by simp only[c1,c2,Bool.and_self]) _ ⟨_,rfl⟩
    ·exact hS (by simp only[c1,c2,Bool.and_false]) _ ⟨_,rfl⟩
  ·intro H2 s2 g2
   walk_at"rd"
   exact k acc H2 (s1.free na) g2 (s1.trans s2)
noncomputable def sp_is_rising (K:PySem.W.Frag):Sp:=fun vs H Q _=>∃(N:List Addr)(x:V)(d:PyData),vs = [x]∧Dt K N H x d∧(∀ds,d = .tuple ds→ds.length≤1000000)∧∀H',Same H H'→Q (.bl (Mt.risD d)) H'
abbrev gis_rising (P:Program)(w:World)(K:PySem.W.Frag)(mg:Str→Option Value)(base:Heap)(a:Adr):Prop:=FnOk P w K mg base CX0 2 a.f_is_rising a.d_is_rising ["thing"] (sp_is_rising K)
theorem ok_is_rising (T:Txt P K mg a)(Z2:gis_number P w K mg base a):gis_rising P w K mg base a:=by
 refine T.F_is_rising.ok sc_is_rising (fun vs H Q E h=>?_) (fun cdv A outer s H vs Q E hr h=>?_)
 ·obtain⟨N,x,d,rfl,_⟩:=h;rfl
 ·obtain⟨N,x,d,rfl,hd,hw,k⟩:=h
  refine exW ⟨_,(qss_cons (qs_if (pw_or (pt_not (pt_val (qe_callB cn_isi (by rfl) T.b_isinstance (by decide +kernel) (qa (pv 0) (qa (pe_bltn (by rfl) T.b_tuple (by decide +kernel) (v:=.ty "tuple") rfl) qa_nil))) (by intro _;rfl))) (pw_or1 (pt_not (pt_val (qe_callB (cn_all (by rfl)) (by rfl) T.b_all (by decide +kernel) (qa (by
    refine' pe_comp (NC:=["part"]) (fr:=[none]) ?B3 rfl ?hi3 ?hg3 ?ht3 ?he3 (by intro _;rfl)
    case B3=>exact⟨rfl,rfl,by decide +kernel,by decide +kernel,rfl,⟨trivial,trivial⟩⟩
    case hi3=>exact(pi_tup (pv 0))
    case hg3=>intro _ _ _;exact(pg_name (i:=0) (show (["part"]:List Str).Nodup by decide +kernel) rfl (Or.inl rfl))
    case ht3=>intro _ _ _;exact pf_nil
    case he3=>intro _ _ _;exact(qe_call Z2 (hr.mono (by decide)) (by rfl) T.m_is_number T.k_is_number T.bd_is_number .nil pass0 (qa (pv 0) qa_nil))) qa_nil)) (by intro _;rfl))))).pt
    (qss_one (qs_ret pe_bl))
    qss_nil)
   (qss_one (qs_ret (qe_callB (cn_all (by rfl)) (by rfl) T.b_all (by decide +kernel) (qa (by
    refine' pe_comp (NC:=["ahead","behind"]) (fr:=[none,none]) ?B4 rfl ?hi4 ?hg4 ?ht4 ?he4 (by intro _;rfl)
    case B4=>exact⟨rfl,rfl,by decide +kernel,by decide +kernel,rfl,⟨trivial,trivial,trivial⟩⟩
    case hi4=>exact(qi_zip (by rfl) T.b_zip (qa (pv 0) (qa (pe_slice sl_tupG (pv 0) (po_some pe_int) po_none) qa_nil)) (by rfl) (by rfl))
    case hg4=>intro _ _ _;exact(pg_tupK (K:=K) (n:=2) (by rfl) rfl (pgs_cons (pg_name (i:=0) (show (["ahead","behind"]:List Str).Nodup by decide +kernel) rfl (Or.inl rfl)) (pgs_cons (pg_name (i:=1) (show (["ahead","behind"]:List Str).Nodup by decide +kernel) rfl (Or.inl rfl)) pgs_nil)))
    case ht4=>intro _ _ _;exact pf_nil
    case he4=>intro _ _ _;exact(pe_cmpR op_lt (pv 0) (pv 1) (nomark _))) qa_nil))))),?_⟩
  try dsimp only[cxOf]
  walk_at"rq"
  cases ht:isTupD d with
  | false =>
   refine rd_iteT ?_
   walk_at"rq"
   have:=k H (Same.refl _)
   rwa [Mt.risD_tup ht]at this
  | true =>
   obtain⟨ds,rfl⟩:=Mt.tup_of ht
   obtain⟨p,xs,rfl,hq,hr⟩:=dt_tuple hd
   have hlen:=hr.length
   have big:sizeLine=16777216:=rfl
   have wl:ds.length≤1000000:=hw _ rfl
   refine rd_iteF ?_
   walk_at"rq"
   refine⟨p,rfl,⟨xs,hq⟩,?_⟩
   intro acc hacc nka
   refine comp_by ds.length (by omega) (fun i vs σc H'=>Same H H'∧(∃o,σc = [o])∧vs=(ds.take i).map fun d=>V.bl (Mt.numD d)) ?_ ?_ ?_
   ·exact⟨(Same.refl H).upd2 hacc,⟨none,rfl⟩,by simp⟩
   ·rintro i vs σc H' hi hl ha ⟨sm,⟨o,rfl⟩,rfl⟩
    obtain⟨v,d,e1,e2,e3⟩:=hr.at hi
    refine⟨⟨xs,v,sm.tupS hq,e1⟩,?_⟩
    rintro x H2 ⟨rfl,hx⟩ R hR
    have ex:=hx xs (sm.tupS hq)
    rw[e1]at ex;cases ex
    walk_at"rq"
    refine⟨N,v,d,rfl,e3.ext (Ext.same sm),hR _ _ _ ha ⟨sm.upd2 hacc,⟨some v,rfl⟩,?_⟩⟩
    rw[List.take_add_one,e2]
    simp
   ·rintro vs σc H' hl ha ⟨sm,_,rfl⟩
    refine⟨⟨xs,sm.tupS hq,by omega⟩,?_⟩
    rw[List.take_length]at ha
    have hbs:SqL K H' acc ((ds.map Mt.numD).map V.bl):=SqL.of (by rw[ha,List.map_map];rfl)
    walk_at"rq"
    refine rd_all hbs ?_
    have eall:(ds.map Mt.numD).all id=ds.all Mt.numD:=by rw[List.all_map];rfl
    rw[eall]
    cases hn:ds.all Mt.numD with
    | false =>
     refine rd_bl' ?_
     refine rd_iteT ?_
     walk_at"rq"
     have:=k H' sm
     rw[Mt.risD_t,hn]at this
     exact this
    | true =>
     refine rd_bl' ?_
     refine rd_iteF ?_
     rw[Mt.risD_t,hn,Bool.true_and]at k
     have en:=Mt.nums_int hn
     generalize hns:ds.map Mt.iv=ns at k en
     subst en
     rw[List.length_map]at hlen wl
     obtain rfl:=dt_ints hr
     walk_at"rq"
     refine rd_slG (sm.tupS hq) ?_
     intro q H2 _ s2 hq2
     rw[cutV_tail]at hq2
     walk_at"rq"
     have sm2:Same H H2:=sm.trans s2
     refine⟨p,q,rfl,⟨_,sm2.tupS hq⟩,⟨_,hq2⟩,?_⟩
     intro ac2 hac2 nka2
     refine comp_by (ns.length - 1) (by omega) (fun i vs σc H'=>Same H2 H'∧(∃o1 o2,σc = [o1,o2])∧vs=(List.range i).map fun j=>V.bl (decide (ns.getD j 0<ns.getD (j+1) 0))) ?_ ?_ ?_
     ·exact⟨(Same.refl H2).upd2 hac2,⟨none,none,rfl⟩,by simp⟩
     ·rintro i vs σc H3 hi hl3 ha3 ⟨s3,⟨o1,o2,rfl⟩,rfl⟩
      have m3:Same H H3:=sm2.trans s3
      have f1:(ns.map V.int)[i]? = some (.int (ns.getD i 0)):=by simp[List.getD_eq_getElem?_getD,show i<ns.length by omega]
      have f3:((ns.map V.int).drop 1)[i]? = some (.int (ns.getD (i+1) 0)):=by rw[List.getElem?_drop,Nat.add_comm];simp[List.getD_eq_getElem?_getD,show i+1<ns.length by omega]
      refine⟨⟨_,_,_,_,m3.tupS hq,s3.tupS hq2,f1,f3⟩,?_⟩
      rintro x H4 ⟨t,y1,y2,ht,hy1,hy2,rfl,rfl⟩ R hR
      have ey1:=hy1 _ (m3.tupS hq)
      have ey2:=hy2 _ (s3.tupS hq2)
      rw[f1]at ey1;cases ey1
      rw[f3]at ey2;cases ey2
      have nt:ac2≠t:=fun z=>by rw[z,ht]at ha3;cases ha3
      walk_at"rq"
      refine hR _ _ _ (by rw[upd_ne nt];exact ha3) ⟨(s3.trans (Same.upd ht)).upd2 hac2,⟨_,_,rfl⟩,?_⟩
      rw[List.range_succ,List.map_append];rfl
     ·rintro vs σc H3 hl3 ha3 ⟨s3,_,rfl⟩
      have m3:Same H H3:=sm2.trans s3
      refine⟨⟨_,_,m3.tupS hq,s3.tupS hq2,.inr (by rw[List.length_drop,List.length_map];omega)⟩,?_⟩
      have hb2:SqL K H3 ac2 (((List.range (ns.length - 1)).map fun j=>decide (ns.getD j 0<ns.getD (j+1) 0)).map V.bl):=SqL.of (by rw[ha3,List.map_map];rfl)
      walk_at"rq"
      refine rd_all hb2 ?_
      have e2:((List.range (ns.length - 1)).map fun j=>decide (ns.getD j 0<ns.getD (j+1) 0)).all id=Mt.risL ns:=by rw[List.all_map];rfl
      rw[e2]
      exact k H3 m3
noncomputable def sp_is_done_paper (K:PySem.W.Frag):Sp:=fun vs H Q _=>∃(N:List Addr)(x:V)(d:PyData),vs = [x]∧Dt K N H x d∧Mt.slim d∧∀H',Same H H'→Q (.bl (Mt.papD d)) H'
abbrev gis_done_paper (P:Program)(w:World)(K:PySem.W.Frag)(mg:Str→Option Value)(base:Heap)(a:Adr):Prop:=FnOk P w K mg base CX0 3 a.f_is_done_paper a.d_is_done_paper ["thing"] (sp_is_done_paper K)
theorem ok_is_done_paper (T:Txt P K mg a)(Z2:gis_number P w K mg base a)(Z18:gis_rising P w K mg base a):gis_done_paper P w K mg base a:=by
 refine T.F_is_done_paper.ok sc_is_done_paper (fun vs H Q E h=>?_) (fun cdv A outer s H vs Q E hr h=>?_)
 ·obtain⟨N,x,d,rfl,_⟩:=h;rfl
 ·obtain⟨N,x,d,rfl,hd,hw,k⟩:=h
  refine exW ⟨_,(qss_cons (qs_if (pw_or (pt_not (pt_val (qe_callB cn_isi (by rfl) T.b_isinstance (by decide +kernel) (qa (pv 0) (qa (pe_bltn (by rfl) T.b_tuple (by decide +kernel) (v:=.ty "tuple") rfl) qa_nil))) (by intro _;rfl))) (pw_or1 (pt_cmpR op_ne (qe_callB cn_len (by rfl) T.b_len (by decide +kernel) (qa (pv 0) qa_nil)) pe_int (nomark _)))).pt
    (qss_one (qs_ret pe_bl))
    qss_nil)
   (qss_one (qs_ret (pe_and (qe_call Z2 (hr.mono (by decide)) (by rfl) T.m_is_number T.k_is_number T.bd_is_number .nil pass0 (qa (pe_ix ix_tup (pv 0) pe_int (fun _ _=>rfl)) qa_nil)) (pe_and (qe_call Z2 (hr.mono (by decide)) (by rfl) T.m_is_number T.k_is_number T.bd_is_number .nil pass0 (qa (pe_ix ix_tup (pv 0) pe_int (fun _ _=>rfl)) qa_nil)) (pe_one (qe_call Z18 (hr.mono (by decide)) (by rfl) T.m_is_rising T.k_is_rising T.bd_is_rising .nil pass0 (qa (pe_ix ix_tup (pv 0) pe_int (fun _ _=>rfl)) qa_nil)))))))),?_⟩
  try dsimp only[cxOf]
  walk_at"rq"
  cases ht:isTupD d with
  | false =>
   rw[Mt.papD_tup ht]at k
   refine rd_iteT ?_
   refine rd_iteT ?_
   walk_at"rq"
   exact k _ (Same.refl _)
  | true =>
   obtain⟨ds,rfl⟩:=Mt.tup_of ht
   obtain⟨p,xs,rfl,hq,hr⟩:=dt_tuple hd
   refine rd_iteF ?_
   walk_at"rq"
   by_cases h3:xs.length=3
   ·rw[show decide (V.int (xs.length:Int)=V.int 3)=true from decide_eq_true (by rw[h3];rfl)]
    obtain⟨y1,y2,y3,e1,e2,e3,rfl,rfl,r1,r2,r3⟩:=dt_tri hr h3
    have w3:∀ds,e3 = .tuple ds→ds.length≤1000000:=fun ds z=>hw e1 e2 ds (by rw[z])
    have k':∀H',Same H H'→Q (.bl (Mt.numD e1 && (Mt.numD e2 && Mt.risD e3))) H':=k
    refine rd_iteF ?_
    walk_at"rq"
    refine⟨N,y1,e1,rfl,r1,?_⟩
    cases h1:Mt.numD e1 with
    | false =>
     rw[h1]at k'
     exact⟨_,rfl,rd_iteF (k' _ (Same.refl _))⟩
    | true =>
     refine⟨_,rfl,rd_iteT ?_⟩
     walk_at"rq"
     refine⟨N,y2,e2,rfl,r2,?_⟩
     cases h2:Mt.numD e2 with
     | false =>
      rw[h1,h2]at k'
      exact⟨_,rfl,rd_iteF (k' _ (Same.refl _))⟩
     | true =>
      refine⟨_,rfl,rd_iteT ?_⟩
      walk_at"rq"
      refine⟨N,y3,e3,rfl,r3,w3,fun H' s'=>?_⟩
      have:=k' H' s'
      rw[h1,h2]at this
      exact this
   ·rw[show decide (V.int (xs.length:Int)=V.int 3)=false from decide_eq_false (fun z=>h3 (by injection z with z;omega))]
    refine rd_iteT ?_
    walk_at"rq"
    have:=k H (Same.refl _)
    rw[Mt.papD_len (fun z=>h3 (by rw[hr.length];exact z))]at this
    exact this
noncomputable def sp_right_done (K:PySem.W.Frag)(a:Adr):Sp:=fun vs H Q E=>∃(p d:Addr)(fs:List Ent)(N M:List Addr)(x pw:V)(r pd:PyData)(line fork en house:Int),vs = [.ref p,.int line,.int fork,.int en,.int house,x,pw]∧BkAt a.C_Book H p d fs∧fs.length<63∧Dt K N H x r∧Dt K M H pw pd∧Mt.slim pd ∧
 (Mt.ruleD r=true→∀(H':Hp),Same H H'→Q (.bl (Mt.rdV (othV (vw4 fs) line house (apD r)) line fork en house (Mt.needD r) pd)) H')∧(Mt.ruleD r=false→E (.ref a.C_NoRule) none H)
abbrev gright_done (P:Program)(w:World)(K:PySem.W.Frag)(mg:Str→Option Value)(base:Heap)(a:Adr):Prop:=FnOk P w K mg base (CX1 P w) 7 a.f_right_done a.d_right_done ["book","line","fork","end","house","rule","paper"] (sp_right_done K a)
theorem ok_right_done (T:Txt P K mg a)(Z19:gis_done_paper P w K mg base a)(Z20:gneed P w K mg base a)(Z21:gothers_told P w K mg base a)(Z6:grequire_rule P w K mg base a):gright_done P w K mg base a:=by
 refine T.F_right_done.okX sc_right_done (fun vs H Q E h=>?_) (fun cdv A outer s H vs Q E hr h=>?_)
 ·obtain⟨p,d,fs,N,M,x,pw,r,pd,line,fork,en,house,rfl,_⟩:=h;rfl
 ·obtain⟨p, d, fs,N,M,x,pw,r,pd,line,fork,en,house,rfl,B,hl,hd,hp,hw,k1,k2⟩:=h
  refine exW ⟨_,(qss_cons (qs_expr (qe_callX Z6 (hr.mono (by decide)) (by rfl) T.m_require_rule T.k_require_rule T.bd_require_rule .nil px1 (qa (pv 5) qa_nil)))
   (qss_cons (qs_if (pw_or (pt_not (pt_val (qe_call Z19 (hr.mono (by decide)) (by rfl) T.m_is_done_paper T.k_is_done_paper T.bd_is_done_paper .nil pass0 (qa (pv 6) qa_nil)) (by intro _;rfl))) (pw_or (pt_cmpR op_ne (pe_ix ix_tup (pv 6) pe_int (fun _ _=>rfl)) (pv 1) (nomark _)) (pw_or1 (pt_not (pt_chain op_lt op_le (pv 2) (pe_ix ix_tup (pv 6) pe_int (fun _ _=>rfl)) (pv 3) (by with_unfolding_all rfl)))))).pt
    (qss_one (qs_ret pe_bl))
    qss_nil)
   (qss_cons (qs_asg (pe_slice sl_tupG (pv 6) (po_some pe_int) po_none) (pg_tup (n:=2) rfl (pgs_cons (pg_name (i:=7) sc_right_done.nd rfl (Or.inr rfl)) (pgs_cons (pg_name (i:=8) sc_right_done.nd rfl (Or.inl rfl)) pgs_nil))))
   (qss_cons (qs_set (i:=9) sc_right_done.nd rfl (Or.inr rfl) (qe_call Z21 (hr.mono (by decide)) (by rfl) T.m_others_told T.k_others_told T.bd_others_told .nil pass0 (qa (pv 0) (qa (pv 1) (qa (pv 4) (qa (pv 5) qa_nil))))))
   (qss_cons (by
    refine' qs_setComp (i:=10) (NC:=["other","house","place","told"]) (fr:=[none,some 4,some 7,some 9]) sc_right_done.nd rfl (Or.inl rfl) ?B5 rfl ?hi5 ?hg5 ?ht5 ?he5 ?hsw5 (by intro _;rfl) (by first |exact Or.inl rfl |exact Or.inr rfl)
    case B5=>exact⟨rfl,rfl,by decide +kernel,by decide +kernel,rfl,⟨trivial,⟨rfl,rfl,Or.inl rfl⟩,⟨rfl,rfl,Or.inl rfl⟩,⟨rfl,rfl,Or.inl rfl⟩,trivial⟩⟩
    case hi5=>exact(pi_tup (pv 8))
    case hg5=>intro _ _ _;exact(pg_name (i:=0) (show (["other","house","place","told"]:List Str).Nodup by decide +kernel) rfl (Or.inl rfl))
    case ht5=>intro _ _ _;exact(pf_one (pw_or (pt_cmpR op_eq (pv 0) (pv 1) (nomark _)) (pw_or1 (pt_cmpR op_ge (pe_dget2 (hu_of hr) (pv 3) (pv 0) pe_int ⟨by rfl,by rfl,by rfl,by rfl⟩) (pv 2) (nomark _)))).pt)
    case he5=>intro _ _ _;exact(pv 0)
    case hsw5=>rfl)
   (qss_one (qs_ret (pe_and (pe_cmpR on_in (pv 4) (pv 8) (by with_unfolding_all rfl)) (pe_and (pe_cmpR op_ge (qe_callB cn_len (by rfl) T.b_len (by decide +kernel) (qa (pv 8) qa_nil)) (qe_callX Z20 (hr.mono (by decide)) (by rfl) T.m_need T.k_need T.bd_need .nil px1 (qa (pv 5) qa_nil)) (nomark _)) (pe_one (pe_cmpR op_eq (qe_callB cn_len (by rfl) T.b_len (by decide +kernel) (qa (pv 10) qa_nil)) (qe_callB cn_len (by rfl) T.b_len (by decide +kernel) (qa (pv 8) qa_nil)) (nomark _)))))))))))),?_⟩
  try dsimp only[cxOf]
  refine rd_seq ?_
  walk_at"rs"
  refine⟨N,x,r,rfl,hd,fun hrl=>?_,k2⟩
  have k:=k1 hrl
  refine rd_seq ?_
  walk_at"rs"
  refine⟨M,pw,pd,rfl,hp,hw,fun H1 s1=>?_⟩
  have hpx:=hp.ext (Ext.same s1)
  cases hpd:Mt.papD pd with
  | false =>
   refine⟨_,rfl,rd_iteT (rd_iteT ?_)⟩
   walk_at"rs"
   have:=k H1 s1
   rw[Mt.rdV_pap hpd]at this
   exact this
  | true =>
   obtain⟨l,pl,ns,rfl,hr⟩:=Mt.papD_shape hpd
   have kk:∀H',Same H H'→Q (.bl (decide (l=line) && (decide (fork<pl) && decide (pl≤en)) && Mt.rdL (othV (vw4 fs) line house (apD r)) house (Mt.needD r) pl ns)) H':=fun H' s'=>by
    have:=k H' s'
    rwa [Mt.rdV_ints _ _ _ _ _ _ _ _ _ hr]at this
   obtain⟨t,xs,rfl,hq,ha⟩:=dt_tuple hpx
   obtain⟨y1,y2,y3,e1,e2,e3,rfl,ee,r1,r2,r3⟩:=dt_tri ha ha.length
   cases ee
   obtain rfl:=dt_int r1
   obtain rfl:=dt_int r2
   obtain⟨th,xs,rfl,hqh,hah⟩:=dt_tuple r3
   obtain rfl:=dt_ints hah
   refine⟨_,rfl,rd_iteF ?_⟩
   walk_at"rs"
   have el:decide (V.int l=V.int line)=decide (l=line):=by simp
   rw[el]
   cases hl1:decide (l=line)with
   | false =>
    rw[hl1]at kk
    refine rd_iteT (rd_iteT ?_)
    walk_at"rs"
    exact kk H1 s1
   | true =>
    rw[hl1]at kk
    refine rd_iteF ?_
    walk_at"rs"
    cases hc1:decide (fork<pl)with
    | false =>
     rw[hc1]at kk
     refine rd_iteF ?_
     refine⟨_,rfl,rd_iteT ?_⟩
     walk_at"rs"
     exact kk H1 s1
    | true =>
     rw[hc1]at kk
     refine rd_iteT ?_
     walk_at"rs"
     cases hc2:decide (pl≤en)with
     | false =>
      rw[hc2]at kk
      refine rd_iteT ?_
      walk_at"rs"
      exact kk H1 s1
     | true =>
      rw[hc2]at kk
      simp only[Bool.true_and]at kk
      refine rd_iteF ?_
      walk_at"rs"
      refine rd_seq ?_
      walk_at"rs"
      intro q H2 _ s2 hq2
      rw[show cutV [V.int l,V.int pl,V.ref th] (some 1) none = [V.int pl,V.ref th]from rfl]at hq2
      walk_at"rs"
      refine rd_seq ?_
      walk_at"rs"
      have s12:=s1.trans s2
      refine⟨p,d,fs,N,x,r,line,house,rfl,B.same s12,by omega,hd.ext (Ext.same s12),hrl,fun t3 H3 n3 g3 s3=>?_⟩
      have s13:=s12.trans s3
      generalize othV (vw4 fs) line house (apD r)=os at g3 kk
      have hqh3:SqT K H3 th (ns.map V.int):=(s2.trans s3).tupS hqh
      have hx3:=hd.ext (Ext.same s13)
      walk_at"rs"
      refine rd_seq ?_
      walk_at"rs"
      refine⟨th,rfl,⟨_,hqh3⟩,?_⟩
      intro acc na ka
      have nl:ns.length≤1000000:=by simpa using hw _ _ _ rfl
      have big:sizeLine=16777216:=rfl
      refine comp_byF ns.length (by omega) (fun i vs σc H'=>Same H3 H'∧(∃o,σc = [o,some (.int house),some (.int pl),some (.ref t3)])∧vs=((ns.take i).filter (Mt.okH os house pl)).map V.int) ?_ ?_ ?_
      ·exact⟨Same.upd na,⟨none,rfl⟩,rfl⟩
      ·rintro i vs σc H' hi hl ha ⟨sm,⟨o,rfl⟩,rfl⟩
       have hqi:=sm.tupS hqh3
       have fi:(ns.map V.int)[i]? = some (.int ns[i]):=by simp[hi]
       refine⟨⟨_,_,hqi,fi⟩,?_⟩
       rintro x' H4 ⟨rfl,hx⟩ R S hR hS
       have ex:=hx _ hqi
       rw[fi]at ex;cases ex
       have tk:ns.take (i+1)=ns.take i ++ [ns[i]]:=by rw[List.take_add_one];simp[hi]
       have yes:Mt.okH os house pl ns[i]=true→∀ σ2,(∃o,σ2 = [o,some (.int house),some (.int pl),some (.ref t3)])→R σ2 (.int ns[i]) H4:=fun e σ2 h2=>hR σ2 _ H4 ha ⟨fun b u q=>by rw[upd_ne (ne_of_none q na)];exact sm b u q,h2,by rw[tk,List.filter_append,List.filter_cons,if_pos e,List.map_append];rfl⟩
       have no:Mt.okH os house pl ns[i]=false→∀ σ2,(∃o,σ2 = [o,some (.int house),some (.int pl),some (.ref t3)])→S σ2 H4:=fun e σ2 h2=>hS σ2 H4 ha ⟨sm,h2,by rw[tk,List.filter_append,List.filter_cons,if_neg (by rw[e];exact Bool.false_ne_true),List.filter_nil,List.append_nil]⟩
       generalize ns[i]=hh at yes no
       walk_at"rq"
       have eh:decide (V.int hh=V.int house)=decide (hh=house):=by simp
       rw[eh]
       cases c1:decide (hh=house)with
       | true =>
        refine rd_iteT ?_
        refine rd_iteT ?_
        walk_at"rq"
        exact yes (by simp only[Mt.okH,c1,Bool.true_or]) _ ⟨_,rfl⟩
       | false =>
        refine rd_iteF ?_
        walk_at"rq"
        have g4:=sm _ _ g3
        refine⟨t3,rfl,.inl ⟨_,.inl g4⟩,?_⟩
        walk_at"rq"
        refine⟨_,dget_FR (.inl g4) hh,?_⟩
        rw[show ((lookI os hh).map V.int).getD (V.int 0)=V.int ((lookI os hh).getD 0)by cases lookI os hh <;> rfl]
        walk_at"rq"
        refine rd_ite2 (fun c2=>?_) (fun c2=>?_)
        ·walk_at"rq"
         exact yes (by simp only[Mt.okH,c1,c2,Bool.false_or]) _ ⟨_,rfl⟩
        ·exact no (by simp only[Mt.okH,c1,c2,Bool.false_or]) _ ⟨_,rfl⟩
      ·rintro vs σc H' hl ha ⟨sm,_,rfl⟩
       refine⟨⟨_,sm.tupS hqh3,by simp⟩,?_⟩
       rw[List.take_length]at ha
       walk_at"rs"
       refine rd_inT (sm.tupS hqh3) rfl (flat_ints _) ?_
       rw[inV_ints]
       have s1H:Same H H':=s13.trans sm
       unfold Mt.rdL at kk
       cases c1:decide (house∈ns)with
       | false =>
        rw[c1]at kk
        refine⟨_,rfl,rd_iteF ?_⟩
        exact kk H' s1H
       | true =>
        rw[c1]at kk
        refine⟨_,rfl,rd_iteT ?_⟩
        walk_at"rs"
        have hx4:=hx3.ext (Ext.same sm)
        refine rd_lenT (sm.tupS hqh3) ?_
        walk_at"rs"
        refine⟨N,x,r,rfl,hx4,fun _=>?_,fun z=>by rw[hrl]at z;cases z⟩
        walk_at"rs"
        rw[List.length_map]
        cases c3:decide (Mt.needD r≤(ns.length:Int))with
        | false =>
         rw[c3]at kk
         refine rd_iteF ?_
         exact kk H' s1H
        | true =>
         rw[c3]at kk
         refine rd_iteT ?_
         have hT:=sm.tupS hqh3
         have hL:SqL K H' acc ((ns.filter (Mt.okH os house pl)).map V.int):=SqL.of ha
         walk_at"rs"
         rw[List.length_map,List.length_map,Mt.flt_all]
         exact kk H' s1H
noncomputable def sp_law_deck (K:PySem.W.Frag):Sp:=fun vs H Q _=>∃(p:Addr)(ns:List Int),vs = [.ref p]∧SqL K H p (ns.map V.int)∧ns.length≤63∧∀(st c r:Addr)(H':Hp),Dk H' st c r 0→Same H H'→H st=none→Q (.ref st) H'
abbrev glaw_deck (P:Program)(w:World)(K:PySem.W.Frag)(mg:Str→Option Value)(base:Heap)(a:Adr):Prop:=FnOk P w K mg base CX0 1 a.f_law_deck a.d_law_deck ["_law_script"] (sp_law_deck K)
theorem ok_law_deck (T:Txt P K mg a)  : glaw_deck P w K mg base a:=by
 refine T.F_law_deck.ok sc_law_deck (fun vs H Q E h=>?_) (fun cdv A outer s H vs Q E hr h=>?_)
 ·obtain⟨p,ns,rfl,_⟩:=h;rfl
 ·obtain⟨p,ns,rfl,hq,hl,k⟩:=h
  refine exW ⟨_,(qss_cons (qs_set (i:=1) sc_law_deck.nd rfl (Or.inl rfl) (pe_op op_cat (qe_callTy cn_list (by rfl) T.b_list (by decide +kernel) (qa (pe_slice sl_list (pv 0) po_none (po_some pe_int)) qa_nil)) (pe_op op_rep (qe_lst (qa pe_int qa_nil)) (qe_callTy cn_int (by rfl) T.b_int (by decide +kernel) (qa (pe_cmpR op_eq (qe_callB cn_len (by rfl) T.b_len (by decide +kernel) (qa (pv 0) qa_nil)) pe_int (nomark _)) qa_nil)))))
   (qss_one (qs_ret (qe_lst (qa (pv 1) (qa pe_int (qa (by
    refine' pe_comp (NC:=["_law_cell"]) (fr:=[none]) ?B6 rfl ?hi6 ?hg6 ?ht6 ?he6 (by intro _;rfl)
    case B6=>exact⟨rfl,rfl,by decide +kernel,by decide +kernel,rfl,⟨trivial,trivial⟩⟩
    case hi6=>exact(pi_list (pv 1))
    case hg6=>intro _ _ _;exact(pg_name (i:=0) (show (["_law_cell"]:List Str).Nodup by decide +kernel) rfl (Or.inl rfl))
    case ht6=>intro _ _ _;exact pf_nil
    case he6=>intro _ _ _;exact(pe_op op_mul (pv 0) (qe_callTy cn_int (by rfl) T.b_int (by decide +kernel) (qa (pe_cmpR op_ge (pv 0) (pe_op op_pow pe_int pe_int) (nomark _)) qa_nil)))) qa_nil))))))),?_⟩
  try dsimp only[cxOf]
  walk_at"rd"
  intro l1 n1
  rw[show (some (63:Int))=some ((63:Nat):Int)from rfl,cutV_take,List.take_of_length_le (by simpa using hl)]
  walk_at"rd"
  intro l2 n2
  have s2:Same H (upd (upd H l1 (.lst (ns.map V.int))) l2 (.lst (ns.map V.int))):=(Same.upd n1).trans (Same.upd n2)
  have g2:upd (upd H l1 (.lst (ns.map V.int))) l2 (.lst (ns.map V.int)) l2=some (.lst (ns.map V.int)):=upd_same
  generalize (upd (upd H l1 (.lst (ns.map V.int))) l2 (.lst (ns.map V.int)))=H2 at s2 g2 ⊢
  walk_at"rd"
  refine⟨sz (by simp),fun l3 n3=>?_⟩
  have hq3:SqL K (upd H2 l3 (.lst [.int 0])) p (ns.map V.int):=(Ext.same (N:=[]) (s2.trans (Same.upd n3))).lst hq (by simp)
  walk_at"rd"
  refine⟨l3,_,[.int 0],rfl,rfl,upd_same,by split <;> decide,by split <;> decide,by split <;> decide,fun l4 n4=>?_⟩
  have g4:upd (upd H2 l3 (.lst [.int 0])) l4 (.lst (List.replicate ((if decide (V.int ((ns.map V.int).length:Int)=V.int 0)=true then (1:Int) else 0)).toNat [V.int 0]).flatten) l2=some (.lst (ns.map V.int)):=by
   rw[upd_ne (ne_of_none ((Same.upd n3) _ _ g2) n4),upd_ne (ne_of_none g2 n3)];exact g2
  have s4:Same H (upd (upd H2 l3 (.lst [.int 0])) l4 (.lst (List.replicate ((if decide (V.int ((ns.map V.int).length:Int)=V.int 0)=true then (1:Int) else 0)).toNat [V.int 0]).flatten)):=(s2.trans (Same.upd n3)).trans (Same.upd n4)
  obtain⟨cs,hcs,hc1,hc2⟩:∃cs:List Int,ns.map V.int ++ (List.replicate ((if decide (V.int ((ns.map V.int).length:Int)=V.int 0)=true then (1:Int) else 0)).toNat [V.int 0]).flatten=cs.map V.int∧1≤cs.length∧cs.length≤63:=by
   cases ns with
   | nil=>exact⟨[0],by simp,by decide,by decide⟩
   | cons n ns =>
    have e:decide (V.int (((n :: ns).map V.int).length:Int)=V.int 0)=false:=decide_eq_false fun z=>by injection z with z;rw[List.length_map,List.length_cons]at z;omega
    exact⟨n :: ns,by rw[e];simp,by simp,hl⟩
  have z4:upd (upd H2 l3 (.lst [.int 0])) l4 (.lst (List.replicate ((if decide (V.int ((ns.map V.int).length:Int)=V.int 0)=true then (1:Int) else 0)).toNat [V.int 0]).flatten) l4=some (.lst (List.replicate ((if decide (V.int ((ns.map V.int).length:Int)=V.int 0)=true then (1:Int) else 0)).toNat [V.int 0]).flatten):=upd_same
  generalize (List.replicate ((if decide (V.int ((ns.map V.int).length:Int)=V.int 0)=true then (1:Int) else 0)).toNat [V.int 0]).flatten=zs at hcs z4 g4 s4 ⊢
  generalize upd (upd H2 l3 (.lst [.int 0])) l4 (.lst zs)=H4 at z4 g4 s4 ⊢
  refine⟨l2,l4,_,_,rfl,rfl,g4,z4,by rw[← List.length_append,hcs,List.length_map];exact sz (by omega),fun l5 n5=>?_⟩
  rw[hcs]
  have s5:=s4.trans (Same.upd (o:=.lst (cs.map V.int)) n5)
  have g5:upd H4 l5 (.lst (cs.map V.int)) l5=some (.lst (cs.map V.int)):=upd_same
  generalize upd H4 l5 (.lst (cs.map V.int))=H5 at s5 g5 ⊢
  walk_at"rd"
  refine⟨l5,rfl,⟨_,SqL.of g5⟩,?_⟩
  intro acc na ka
  refine comp_by cs.length (small1000 (by omega)) (fun i vs σc H'=>Same H5 H'∧(∃o,σc = [o])∧∃rs:List Int,vs=rs.map V.int) ?_ ?_ ?_
  ·exact⟨Same.upd na,⟨none,rfl⟩,[],rfl⟩
  ·rintro i vs σc H' hi hl ha ⟨sm,⟨o,rfl⟩,rs,rfl⟩
   have hL:SqL K H' l5 (cs.map V.int):=SqL.of (sm _ _ g5)
   have ex:(cs.map V.int)[i]? = some (.int cs[i]):=by simp[hi]
   refine⟨⟨_,_,hL,ex⟩,?_⟩
   rintro x H6 ⟨rfl,hx⟩ R hR
   have e2:=hx _ hL
   rw[ex]at e2;cases e2
   walk_at"rd"
   refine hR _ _ _ ha ⟨fun b u e=>?_,⟨_,rfl⟩,rs ++ [_],by rw[List.map_append];rfl⟩
   rw[upd_ne (ne_of_none e na)];exact sm b u e
  ·rintro vs σc H' hl ha ⟨sm,_,rs,rfl⟩
   refine⟨⟨_,SqL.of (sm _ _ g5),by simp⟩,?_⟩
   walk_at"rd"
   refine⟨sz (by simp),fun l6 n6=>?_⟩
   have nc:l5≠acc:=ne_of_none g5 na
   have n65:l5≠l6:=ne_of_none (sm _ _ g5) n6
   have n6a:acc≠l6:=ne_of_none ha n6
   refine k l6 l5 acc _ ⟨cs,rs,0,upd_same,by rw[upd_ne n65];exact sm _ _ g5,by rw[upd_ne n6a];exact ha,n65,nc,n6a,hc1,hc2,by simpa using hl,Int.le_refl _,Int.le_refl _⟩ ((s5.trans sm).trans (Same.upd n6)) (s5.free (sm.free n6))
noncomputable def sp_law_take (K:PySem.W.Frag):Sp:=fun vs H Q _=>∃(st c r:Addr)(m:Nat)(b:Int),vs = [.ref st,.int b]∧Dk H st c r m∧m<1000000000∧0<b∧b<1073741824 ∧
 ∀(v:Int) (H':Hp),0≤v→v<b→Dk H' st c r (m+1)→Ext [st,r] H H'→Q (.int v) H'
abbrev glaw_take (P:Program)(w:World)(K:PySem.W.Frag)(mg:Str→Option Value)(base:Heap)(a:Adr):Prop:=FnOk P w K mg base CX0 1 a.f_law_take a.d_law_take ["_law_deck_here","_law_many"] (sp_law_take K)
theorem ok_law_take (T:Txt P K mg a)  : glaw_take P w K mg base a:=by
 refine T.F_law_take.ok sc_law_take (fun vs H Q E h=>?_) (fun cdv A outer s H vs Q E hr h=>?_)
 ·obtain⟨st,c,r,m,b,rfl,_⟩:=h;rfl
 ·obtain⟨st,c,r,m,b,rfl,S,hm,hb0,hb1,k⟩:=h
  obtain⟨cs,rs,n,h1,h2h,h3h,h4,h5,h6,h7,h8,h9,h10,h11⟩:=S.ex
  have h2:SqL K H c (cs.map V.int):=SqL.of h2h
  have q1:SqL K H st [.ref c,.int n,.ref r]:=SqL.of h1
  refine exW ⟨_,(qss_cons (qs_asg (pv 0) (pg_lst (n:=3) rfl (pgs_cons (pg_name (i:=2) sc_law_take.nd rfl (Or.inl rfl)) (pgs_cons (pg_name (i:=3) sc_law_take.nd rfl (Or.inl rfl)) (pgs_cons (pg_name (i:=4) sc_law_take.nd rfl (Or.inl rfl)) pgs_nil))) (by rfl) (by rfl)))
   (qss_cons (qs_set (i:=5) sc_law_take.nd rfl (Or.inl rfl) (pe_op op_mod (pv 3) (qe_callB cn_len (by rfl) T.b_len (by decide +kernel) (qa (pv 2) qa_nil))))
   (qss_cons (qs_asg (pe_op op_add (pv 3) pe_int) (pg_sub (pv 0) pe_int set_list (by intro _;rfl)))
   (qss_cons (qs_if (pt_cmpR op_gt (pe_ix ix_list (pv 4) (pv 5) (fun _ _=>rfl)) pe_int (nomark _))
    (qss_cons (qs_set (i:=6) sc_law_take.nd rfl (Or.inl rfl) (pe_ix ix_list (pv 4) (pv 5) (fun _ _=>rfl)))
    (qss_cons (qs_asg (pe_op op_fdiv (pv 6) (pv 1)) (pg_sub (pv 4) (pv 5) set_list (by intro _;rfl)))
    (qss_one (qs_ret (pe_op op_mod (pv 6) (pv 1))))))
    qss_nil)
   (qss_cons (qs_set (i:=7) sc_law_take.nd rfl (Or.inl rfl) (pe_op op_mod (pe_op op_add (pe_op op_mul (pe_op op_mod (pe_ix ix_list (pv 2) (pv 5) (fun _ _=>rfl)) pe_int) pe_int) (pe_op op_mul (pe_op op_mul (pe_op op_add (pv 3) pe_int) (pe_op op_add (pv 3) pe_int)) pe_int)) pe_int))
   (qss_cons (qs_set (i:=7) sc_law_take.nd rfl (Or.inl rfl) (pe_op op_mod (pe_op op_pow (pv 7) pe_int) pe_int))
   (qss_cons (qs_set (i:=7) sc_law_take.nd rfl (Or.inl rfl) (pe_op op_mod (pe_op op_pow (pe_op op_add (pe_op op_add (pv 7) (pe_op op_mul pe_int (pv 3))) pe_int) pe_int) pe_int))
   (qss_one (qs_ret (pe_op op_mod (pe_op op_fdiv (pv 7) pe_int) (pv 1))))))))))),?_⟩
  try dsimp only[cxOf]
  walk_at"rd"
  have hlm:((cs.map V.int).length:Int)=cs.length:=by rw[List.length_map]
  have hl0:(0:Int)<(cs.map V.int).length:=by omega
  walk_at"rd"
  have i0:=Int.emod_nonneg n (b:=((cs.map V.int).length:Int)) (by omega)
  have i1:=Int.emod_lt_of_pos n hl0
  generalize n % ((cs.map V.int).length:Int)=i at i0 i1 ⊢
  obtain⟨j,rfl⟩:=Int.eq_ofNat_of_zero_le i0
  have hj:j<cs.length:=by omega
  obtain⟨y,hy,_⟩:=atI_ints (ns:=rs) (i:=(j:Int)) i0 (by omega)
  obtain⟨x,hx,_⟩:=atI_ints (ns:=cs) (i:=(j:Int)) i0 (by omega)
  have e1:Ext [st,r] H (upd H st (.lst ([V.ref c,.int n,.ref r].set (Int.toNat 1) (.int (n+1))))):=Ext.at (by simp)
  have h3':upd H st (.lst ([V.ref c,.int n,.ref r].set (Int.toNat 1) (.int (n+1)))) r=some (.lst (rs.map V.int)):=by rw[upd_ne h6];exact h3h
  have h2':upd H st (.lst ([V.ref c,.int n,.ref r].set (Int.toNat 1) (.int (n+1)))) c=some (.lst (cs.map V.int)):=by rw[upd_ne h4];exact h2h
  have h1':upd H st (.lst ([V.ref c,.int n,.ref r].set (Int.toNat 1) (.int (n+1)))) st=some (.lst [.ref c,.int (n+1),.ref r]):=upd_same
  generalize upd H st (.lst ([V.ref c,.int n,.ref r].set (Int.toNat 1) (.int (n+1))))=H1 at e1 h3' h2' h1' ⊢
  have fin:∀v,0≤v→v<b→Q (.int v) H1:=fun v g1 g2=>k v H1 g1 g2 ⟨cs,rs,n+1,h1',h2',h3',h4,h5,h6,h7,h8,h9,by omega,by omega⟩ e1
  refine rd_ixL (SqL.of h3') hy ?_
  walk_at"rd"
  refine rd_ite2 (fun hc=>?_) (fun hc=>?_)
  ·walk_at"rd"
   refine rd_ixL (SqL.of h3') hy ?_
   walk_at"rd"
   refine rd_setL h3' (ixN_nat (by simp;omega)) ?_
   walk_at"rd"
   have e2:(rs.map V.int).set j (.int (y / b))=(rs.set j (y / b)).map V.int:=by rw[List.map_set]
   rw[e2]
   refine k _ _ (Int.emod_nonneg _ (by omega)) (Int.emod_lt_of_pos _ hb0) ⟨cs,rs.set j (y / b),n+1,?_,?_,upd_same,h4,h5,h6,h7,h8,by rw[List.length_set];exact h9,by omega,by omega⟩ (e1.trans (Ext.at (by simp)))
   ·rw[upd_ne (Ne.symm h6)];exact h1'
   ·rw[upd_ne h5];exact h2'
  ·walk_at"rd"
   refine rd_ixL (SqL.of h2') hx ?_
   walk_at"rd"
   exact fin _ (Int.emod_nonneg _ (by omega)) (Int.emod_lt_of_pos _ hb0)
noncomputable def sp_law_saying (K:PySem.W.Frag):Sp:=fun vs H Q _=>∃(st c r:Addr)(m:Nat),vs = [.ref st]∧Dk H st c r m∧m<900000000 ∧
 ∀(t:Addr) (q:Sv4) (H':Hp),okS q→H t=none→H' t=some (.tup [.int q.1.1,.int q.1.2,.int q.2.1,.int q.2.2])→Dk H' st c r (m+7)→Ext [st,r] H H'→Q (.ref t) H'
abbrev glaw_saying (P:Program)(w:World)(K:PySem.W.Frag)(mg:Str→Option Value)(base:Heap)(a:Adr):Prop:=FnOk P w K mg base CX0 2 a.f_law_saying a.d_law_saying ["_law_deck_here"] (sp_law_saying K)
theorem ok_law_saying (T:Txt P K mg a)(Z0:glaw_take P w K mg base a):glaw_saying P w K mg base a:=by
 refine T.F_law_saying.ok sc_law_saying (fun vs H Q E h=>?_) (fun cdv A outer s H vs Q E hr h=>?_)
 ·obtain⟨st,c,r,m,rfl,_⟩:=h;rfl
 ·obtain⟨st,c,r,m,rfl,S,hm,k⟩:=h
  refine exW ⟨_,(qss_cons (qs_if (pt_cmpR op_eq (qe_call Z0 (hr.mono (by decide)) (by rfl) T.m__law_take T.k__law_take T.bd__law_take .nil pass0 (qa (pv 0) (qa pe_int qa_nil))) pe_int (nomark _))
    (qss_cons (qs_set (i:=1) sc_law_saying.nd rfl (Or.inl rfl) (pe_ix ix_list (qe_lstA (qa (pe_op op_pow pe_int pe_int) (qa (qe_call Z0 (hr.mono (by decide)) (by rfl) T.m__law_take T.k__law_take T.bd__law_take .nil pass0 (qa (pv 0) (qa (pe_op op_pow pe_int pe_int) qa_nil))) qa_nil))) (qe_call Z0 (hr.mono (by decide)) (by rfl) T.m__law_take T.k__law_take T.bd__law_take .nil pass0 (qa (pv 0) (qa pe_int qa_nil))) (fun _ _=>rfl)))
    (qss_cons (qs_set (i:=2) sc_law_saying.nd rfl (Or.inl rfl) (pe_ix ix_list (qe_lstA (qa (pe_op op_pow pe_int pe_int) (qa (qe_call Z0 (hr.mono (by decide)) (by rfl) T.m__law_take T.k__law_take T.bd__law_take .nil pass0 (qa (pv 0) (qa (pe_op op_pow pe_int pe_int) qa_nil))) qa_nil))) (qe_call Z0 (hr.mono (by decide)) (by rfl) T.m__law_take T.k__law_take T.bd__law_take .nil pass0 (qa (pv 0) (qa pe_int qa_nil))) (fun _ _=>rfl)))
    (qss_one (qs_ret (qe_tupA (qa (qe_call Z0 (hr.mono (by decide)) (by rfl) T.m__law_take T.k__law_take T.bd__law_take .nil pass0 (qa (pv 0) (qa pe_int qa_nil))) (qa (pv 2) (qa (pv 1) (qa (qe_call Z0 (hr.mono (by decide)) (by rfl) T.m__law_take T.k__law_take T.bd__law_take .nil pass0 (qa (pv 0) (qa (pe_op op_add (pv 1) pe_int) qa_nil))) qa_nil)))))))))
    qss_nil)
   (qss_cons (qs_set (i:=1) sc_law_saying.nd rfl (Or.inl rfl) (qe_call Z0 (hr.mono (by decide)) (by rfl) T.m__law_take T.k__law_take T.bd__law_take .nil pass0 (qa (pv 0) (qa pe_int qa_nil))))
   (qss_cons (qs_set (i:=3) sc_law_saying.nd rfl (Or.inl rfl) (pe_ix ix_list (qe_lstA (qa (pv 1) (qa (qe_call Z0 (hr.mono (by decide)) (by rfl) T.m__law_take T.k__law_take T.bd__law_take .nil pass0 (qa (pv 0) (qa (pe_op op_add (pv 1) pe_int) qa_nil))) qa_nil))) (qe_call Z0 (hr.mono (by decide)) (by rfl) T.m__law_take T.k__law_take T.bd__law_take .nil pass0 (qa (pv 0) (qa pe_int qa_nil))) (fun _ _=>rfl)))
   (qss_one (qs_ret (qe_tupA (qa (qe_call Z0 (hr.mono (by decide)) (by rfl) T.m__law_take T.k__law_take T.bd__law_take .nil pass0 (qa (pv 0) (qa pe_int qa_nil))) (qa (pe_ix ix_list (qe_lstA (qa pe_int (qa pe_int (qa pe_int qa_nil)))) (qe_call Z0 (hr.mono (by decide)) (by rfl) T.m__law_take T.k__law_take T.bd__law_take .nil pass0 (qa (pv 0) (qa pe_int qa_nil))) (fun _ _=>rfl)) (qa (pv 1) (qa (pv 3) qa_nil)))))))))),?_⟩
  try dsimp only[cxOf]
  walk_at"rq"
  refine⟨st,c,r,_,10,rfl,S,by omega,by decide,by decide,fun v1 H1 a1 b1 S1 x1=>?_⟩
  walk_at"rq"
  have p6:(10:Int) ^ (6:Int).toNat=1000000:=by decide
  have p9:(10:Int) ^ (9:Int).toNat=1000000000:=Mt.p9
  refine rd_ite2 (fun hc=>?_) (fun hc=>?_)
  ·walk_at"rq"
   rw[p6]
   refine⟨st,c,r,_,1000000,rfl,S1,by omega,by decide,by decide,fun v2 H2 a2 b2 S2 x2=>?_⟩
   walk_at"rq"
   refine⟨sz (by simp),fun l3 H3 n3 s3 g3=>?_⟩
   have S3:=S2.same s3
   have dl3:l3 ∉ [st,c,r]:=S2.new n3
   walk_at"rq"
   refine⟨st,c,r,_,2,rfl,S3,by omega,by decide,by decide,fun v4 H4 a4 b4 S4 x4=>?_⟩
   obtain⟨en,e4,hen⟩:=av2 (x:=1000000) (y:=v2) a4 b4
   refine rd_ixL (SqL.of (x4 _ _ g3 (nin_pr dl3))) e4 ?_
   walk_at"rq"
   rw[p9]
   refine⟨st,c,r,_,1000000000,rfl,S4,by omega,by decide,by decide,fun v5 H5 a5 b5 S5 x5=>?_⟩
   walk_at"rq"
   refine⟨sz (by simp),fun l6 H6 n6 s6 g6=>?_⟩
   have S6:=S5.same s6
   have dl6:l6 ∉ [st,c,r]:=S5.new n6
   walk_at"rq"
   refine⟨st,c,r,_,2,rfl,S6,by omega,by decide,by decide,fun v7 H7 a7 b7 S7 x7=>?_⟩
   obtain⟨ln,e7,hln⟩:=av2 (x:=1000000000) (y:=v5) a7 b7
   refine rd_ixL (SqL.of (x7 _ _ g6 (nin_pr dl6))) e7 ?_
   walk_at"rq"
   refine⟨st,c,r,_,8,rfl,S7,by omega,by decide,by decide,fun v8 H8 a8 b8 S8 x8=>?_⟩
   walk_at"rq"
   refine⟨st,c,r,_,en+1,rfl,S8,by omega,by omega,by omega,fun v9 H9 a9 b9 S9 x9=>?_⟩
   walk_at"rq"
   refine⟨sz (by simp),fun t H10 n10 s10 g10=>?_⟩
   walk_at"rq"
   have x09:Ext [st,r] H H9:=x1.trans (x2.trans ((Ext.same s3).trans (x4.trans (x5.trans ((Ext.same s6).trans (x7.trans (x8.trans x9)))))))
   refine k t ((v8,ln),(en,v9)) H10 (okS_mk a8 (by omega) (by omega) (by omega) (by omega) (by omega) a9 (by omega)) (x09.free n10 (nin_pr (S9.new n10))) g10 ((S9.same s10).mono (by omega)) (x09.trans (Ext.same s10))
  ·walk_at"rq"
   refine⟨st,c,r,_,13,rfl,S1,by omega,by decide,by decide,fun en H2 a2 b2 S2 x2=>?_⟩
   walk_at"rq"
   refine⟨st,c,r,_,en+1,rfl,S2,by omega,by omega,by omega,fun v3 H3 a3 b3 S3 x3=>?_⟩
   walk_at"rq"
   refine⟨sz (by simp),fun l4 H4 n4 s4 g4=>?_⟩
   have S4:=S3.same s4
   have dl4:l4 ∉ [st,c,r]:=S3.new n4
   walk_at"rq"
   refine⟨st,c,r,_,2,rfl,S4,by omega,by decide,by decide,fun v5 H5 a5 b5 S5 x5=>?_⟩
   obtain⟨ap,e5,hap⟩:=av2 (x:=en) (y:=v3) a5 b5
   refine rd_ixL (SqL.of (x5 _ _ g4 (nin_pr dl4))) e5 ?_
   walk_at"rq"
   refine⟨st,c,r,_,8,rfl,S5,by omega,by decide,by decide,fun v8 H8 a8 b8 S8 x8=>?_⟩
   walk_at"rq"
   refine⟨sz (by simp),fun l6 H6 n6 s6 g6=>?_⟩
   have S6:=S8.same s6
   have dl6:l6 ∉ [st,c,r]:=S8.new n6
   walk_at"rq"
   refine⟨st,c,r,_,3,rfl,S6,by omega,by decide,by decide,fun v7 H7 a7 b7 S7 x7=>?_⟩
   obtain⟨ln,e7,hln⟩:=av3 (x:=0) (y:=5) (z:=9) a7 b7
   refine rd_ixL (SqL.of (x7 _ _ g6 (nin_pr dl6))) e7 ?_
   walk_at"rq"
   refine⟨sz (by simp),fun t H10 n10 s10 g10=>?_⟩
   walk_at"rq"
   have x09:Ext [st,r] H H7:=x1.trans (x2.trans (x3.trans ((Ext.same s4).trans (x5.trans (x8.trans ((Ext.same s6).trans x7))))))
   refine k t ((v8,ln),(en,ap)) H10 (okS_mk a8 (by omega) (by omega) (by omega) (by omega) (by omega) (by omega) (by omega)) (x09.free n10 (nin_pr (S7.new n10))) g10 ((S7.same s10).mono (by omega)) (x09.trans (Ext.same s10))
noncomputable def sp_law_put (K:PySem.W.Frag):Sp:=fun vs H Q _=>∃(d t:Addr)(fs:List Ent)(q:Sv4),vs = [.ref d,.ref t]∧PB H d fs∧fs.length<64∧H t=some (.tup [.int q.1.1,.int q.1.2,.int q.2.1,.int q.2.2]) ∧
 ∀(H':Hp) (gs:List Ent),PB H' d gs→vw4 gs=noteV (vw4 fs) q→Ext [d] H H'→Q .non H'
abbrev glaw_put (P:Program)(w:World)(K:PySem.W.Frag)(mg:Str→Option Value)(base:Heap)(a:Adr):Prop:=FnOk P w K mg base CX0 1 a.f_law_put a.d_law_put ["_law_model","_law_saying_here"] (sp_law_put K)
theorem ok_law_put (T:Txt P K mg a)  : glaw_put P w K mg base a:=by
 refine T.F_law_put.ok sc_law_put (fun vs H Q E h=>?_) (fun cdv A outer s H vs Q E hr h=>?_)
 ·obtain⟨d,t,fs,q,rfl,_⟩:=h;rfl
 ·obtain⟨d,t,fs,q,rfl,B,hl,ht,k⟩:=h
  refine exW ⟨_,(qss_cons (qs_asg (pv 1) (pg_tup (n:=4) rfl (pgs_cons (pg_name (i:=2) sc_law_put.nd rfl (Or.inl rfl)) (pgs_cons (pg_name (i:=3) sc_law_put.nd rfl (Or.inl rfl)) (pgs_cons (pg_name (i:=4) sc_law_put.nd rfl (Or.inl rfl)) (pgs_cons (pg_name (i:=5) sc_law_put.nd rfl (Or.inl rfl)) pgs_nil))))))
   (qss_cons (qs_set (i:=6) sc_law_put.nd rfl (Or.inl rfl) (pe_dget2 (hu_of hr) (pv 0) (qe_tupA (qa (pv 2) (qa (pv 3) qa_nil))) (qe_tupA (qa pe_int (qa pe_int qa_nil))) ⟨by rfl,by rfl,by rfl,by rfl⟩))
   (qss_one (qs_dput (hu_of hr) (pv 0) (qe_tupA (qa (pv 2) (qa (pv 3) qa_nil))) (qe_tupA (qa (qe_callB (cn_max (by rfl)) (by rfl) T.b_max (by decide +kernel) (qa (pe_ix ix_tup (pv 6) pe_int (fun _ _=>rfl)) (qa (pv 4) qa_nil))) (qa (qe_callB (cn_max (by rfl)) (by rfl) T.b_max (by decide +kernel) (qa (pe_ix ix_tup (pv 6) pe_int (fun _ _=>rfl)) (qa (pv 5) qa_nil))) qa_nil))) (by rfl))))),?_⟩
  try dsimp only[cxOf]
  walk_at"rq"
  refine⟨d,rfl,.inr ⟨_,.inl B.dc⟩,?_⟩
  walk_at"rq"
  refine⟨sz (by simp),fun t1 H1 n1 s1 g1=>?_⟩
  walk_at"rq"
  refine⟨sz (by simp),fun t2 H2 n2 s2 g2=>?_⟩
  have g12:=s2 _ _ g1
  have B2:=(B.same s1).same s2
  refine⟨_,DGet.t (k:=kP q.1) B2.dc g12,?_⟩
  rw[valV_bk]
  obtain⟨z,ez,gz,lz⟩:=bk_get B2 q.1 g2
  rw[ez]
  walk_at"rq"
  rw[show (if q.2.1 > ((lookV (vw4 fs) q.1).getD (0,0)).1 then q.2.1 else ((lookV (vw4 fs) q.1).getD (0,0)).1)=mx q.2.1 ((lookV (vw4 fs) q.1).getD (0,0)).1 from mx_comm _ _,show (if q.2.2 > ((lookV (vw4 fs) q.1).getD (0,0)).2 then q.2.2 else ((lookV (vw4 fs) q.1).getD (0,0)).2)=mx q.2.2 ((lookV (vw4 fs) q.1).getD (0,0)).2 from mx_comm _ _]
  refine⟨sz (by simp),fun t3 H3 n3 s3 g3=>?_⟩
  walk_at"rq"
  refine⟨sz (by simp),fun t4 H4 n4 s4 g4=>?_⟩
  have g34:=s4 _ _ g3
  have B4:=(B2.same s3).same s4
  refine⟨d,_,rfl,DPut.t (k:=kP q.1) B4.dc g4 (small1000 (by simp[bkD];omega)),?_⟩
  have e5:=putK_bk fs q.1 (t3,(mx q.2.1 ((lookV (vw4 fs) q.1).getD (0,0)).1,mx q.2.2 ((lookV (vw4 fs) q.1).getD (0,0)).2))
  have B5:=B4.put (k:=q.1) (e:=(mx q.2.1 ((lookV (vw4 fs) q.1).getD (0,0)).1,mx q.2.2 ((lookV (vw4 fs) q.1).getD (0,0)).2)) g34
  rw[← e5]at B5
  walk_at"rq"
  refine k _ _ B5 (put_vw _ _ _) ((Ext.same ((s1.trans s2).trans (s3.trans s4))).trans (Ext.at (by simp)))
noncomputable def sp_law_rule (K:PySem.W.Frag):Sp:=fun vs H Q _=>∃(st c r:Addr)(m:Nat),vs = [.ref st]∧Dk H st c r m∧m<900000000 ∧
 ∀(t:Addr) (H':Hp),RuT H' t→Dk H' st c r (m+5)→Ext [st,r] H H'→Q (.ref t) H'
abbrev glaw_rule (P:Program)(w:World)(K:PySem.W.Frag)(mg:Str→Option Value)(base:Heap)(a:Adr):Prop:=FnOk P w K mg base CX0 2 a.f_law_rule a.d_law_rule ["_law_deck_here"] (sp_law_rule K)
theorem ok_law_rule (T:Txt P K mg a)(Z0:glaw_take P w K mg base a):glaw_rule P w K mg base a:=by
 refine T.F_law_rule.ok sc_law_rule (fun vs H Q E h=>?_) (fun cdv A outer s H vs Q E hr h=>?_)
 ·obtain⟨st,c,r,m,rfl,_⟩:=h;rfl
 ·obtain⟨st,c,r,m,rfl,S,hm,k⟩:=h
  refine exW ⟨_,(qss_one (qs_ret (pe_ix ix_list (qe_lstA (qa (by exact(qe_tupA (qa pe_str qa_nil))) (qa (by exact(qe_tupA (qa pe_str (qa (pe_op op_add pe_int (qe_call Z0 (hr.mono (by decide)) (by rfl) T.m__law_take T.k__law_take T.bd__law_take .nil pass0 (qa (pv 0) (qa pe_int qa_nil)))) qa_nil)))) (qa (by exact(qe_tupA (qa pe_str (qa (pe_op op_add pe_int (qe_call Z0 (hr.mono (by decide)) (by rfl) T.m__law_take T.k__law_take T.bd__law_take .nil pass0 (qa (pv 0) (qa pe_int qa_nil)))) qa_nil)))) (qa (by exact(qe_tupA (qa pe_str (qa (pe_op op_add pe_int (qe_call Z0 (hr.mono (by decide)) (by rfl) T.m__law_take T.k__law_take T.bd__law_take .nil pass0 (qa (pv 0) (qa pe_int qa_nil)))) qa_nil)))) (qa (by exact(qe_tupA (qa pe_str (qa (pe_op op_add pe_int (qe_call Z0 (hr.mono (by decide)) (by rfl) T.m__law_take T.k__law_take T.bd__law_take .nil pass0 (qa (pv 0) (qa pe_int qa_nil)))) qa_nil)))) qa_nil)))))) (qe_call Z0 (hr.mono (by decide)) (by rfl) T.m__law_take T.k__law_take T.bd__law_take .nil pass0 (qa (pv 0) (qa pe_int qa_nil))) (fun _ _=>rfl)))),?_⟩
  try dsimp only[cxOf]
  walk_at"rq"
  refine⟨sz (by simp),fun t1 H1 n1 s1 g1=>?_⟩
  have S1:=S.same s1
  have d1:t1 ∉ [st,c,r]:=S.new n1
  walk_at"rq"
  refine⟨st,c,r,_,3,rfl,S1,by omega,by decide,by decide,fun v2 H2 a2 b2 S2 x2=>?_⟩
  have g12:=x2 _ _ g1 (nin_pr d1)
  walk_at"rq"
  refine⟨sz (by simp),fun t3 H3 n3 s3 g3=>?_⟩
  have S3:=S2.same s3
  have d3:t3 ∉ [st,c,r]:=S2.new n3
  walk_at"rq"
  refine⟨st,c,r,_,3,rfl,S3,by omega,by decide,by decide,fun v4 H4 a4 b4 S4 x4=>?_⟩
  have x24:=(Ext.same (N:=[st,r]) s3).trans x4
  have g14:=x24 _ _ g12 (nin_pr d1)
  have g34:=x4 _ _ g3 (nin_pr d3)
  walk_at"rq"
  refine⟨sz (by simp),fun t5 H5 n5 s5 g5=>?_⟩
  have S5:=S4.same s5
  have d5:t5 ∉ [st,c,r]:=S4.new n5
  walk_at"rq"
  refine⟨st,c,r,_,7,rfl,S5,by omega,by decide,by decide,fun v6 H6 a6 b6 S6 x6=>?_⟩
  have x46:=(Ext.same (N:=[st,r]) s5).trans x6
  have g16:=x46 _ _ g14 (nin_pr d1)
  have g36:=x46 _ _ g34 (nin_pr d3)
  have g56:=x6 _ _ g5 (nin_pr d5)
  walk_at"rq"
  refine⟨sz (by simp),fun t7 H7 n7 s7 g7=>?_⟩
  have S7:=S6.same s7
  have d7:t7 ∉ [st,c,r]:=S6.new n7
  walk_at"rq"
  refine⟨st,c,r,_,7,rfl,S7,by omega,by decide,by decide,fun v8 H8 a8 b8 S8 x8=>?_⟩
  have x68:=(Ext.same (N:=[st,r]) s7).trans x8
  have g18:=x68 _ _ g16 (nin_pr d1)
  have g38:=x68 _ _ g36 (nin_pr d3)
  have g58:=x68 _ _ g56 (nin_pr d5)
  have g78:=x8 _ _ g7 (nin_pr d7)
  walk_at"rq"
  refine⟨sz (by simp),fun t9 H9 n9 s9 g9=>?_⟩
  have S9:=S8.same s9
  have d9:t9 ∉ [st,c,r]:=S8.new n9
  walk_at"rq"
  refine⟨sz (by simp),fun l H10 n10 s10 g10=>?_⟩
  have S10:=S9.same s10
  have dl:l ∉ [st,c,r]:=S9.new n10
  walk_at"rq"
  refine⟨st,c,r,_,5,rfl,S10,by omega,by decide,by decide,fun v11 H11 a11 b11 S11 x11=>?_⟩
  have x8b:=(Ext.same (N:=[st,r]) (s9.trans s10)).trans x11
  have xall:Ext [st,r] H H11:=(Ext.same (N:=[st,r]) s1).trans (x2.trans (x24.trans (x46.trans (x68.trans x8b))))
  have gl:=x11 _ _ g10 (nin_pr dl)
  have S12:=S11.mono (m':=m+5) (by omega)
  obtain⟨n,rfl⟩:=Int.eq_ofNat_of_zero_le a11
  have hn:n<5:=by omega
  match n,hn with
  | 0,_=>exact rd_ixL (v:=.ref t1) (SqL.of gl) rfl (k _ _ (.inl (x8b _ _ g18 (nin_pr d1))) S12 xall)
  | 1,_=>exact rd_ixL (v:=.ref t3) (SqL.of gl) rfl (k _ _ (.inr ⟨_,_,x8b _ _ g38 (nin_pr d3),.inl rfl,by omega,by omega⟩) S12 xall)
  | 2,_=>exact rd_ixL (v:=.ref t5) (SqL.of gl) rfl (k _ _ (.inr ⟨_,_,x8b _ _ g58 (nin_pr d5),.inr rfl,by omega,by omega⟩) S12 xall)
  | 3,_=>exact rd_ixL (v:=.ref t7) (SqL.of gl) rfl (k _ _ (.inr ⟨_,_,x8b _ _ g78 (nin_pr d7),.inl rfl,by omega,by omega⟩) S12 xall)
  | 4,_=>exact rd_ixL (v:=.ref t9) (SqL.of gl) rfl (k _ _ (.inr ⟨_,_,((Ext.same (N:=[st,r]) s10).trans x11) _ _ g9 (nin_pr d9),.inr rfl,by omega,by omega⟩) S12 xall)
noncomputable def sp_law_numbers (K:PySem.W.Frag):Sp:=fun vs H Q _=>∃(e:Addr)(gs:List Ent)(N:List Addr)(x:V)(r:PyData)(line:Int),vs = [.ref e,.int line,x]∧PB H e gs∧gs.length<64∧Dt K N H x r∧Mt.ruleD r=true ∧
 ∀(l:Addr) (ws:List V) (H':Hp),H l=none→H' l=some (.lst ws)→DtAll K [] H' ws ((numV (vw4 gs) line (apD r)).map pairD)→Same H H'→Q (.ref l) H'
abbrev glaw_numbers (P:Program)(w:World)(K:PySem.W.Frag)(mg:Str→Option Value)(base:Heap)(a:Adr):Prop:=FnOk P w K mg base CX0 1 a.f_law_numbers a.d_law_numbers ["_law_model","_law_line","_law_rule_here"] (sp_law_numbers K)
theorem ok_law_numbers (T:Txt P K mg a)  : glaw_numbers P w K mg base a:=by
 refine T.F_law_numbers.ok sc_law_numbers (fun vs H Q E h=>?_) (fun cdv A outer s H vs Q E hr h=>?_)
 ·obtain⟨e,gs,N,x,r,line,rfl,_⟩:=h;rfl
 ·obtain⟨e,gs,N,x,r,line,rfl,G,hl,hd,hw,k⟩:=h
  obtain⟨w,ds,rfl⟩:=rule_head hw
  refine exW ⟨_,(qss_cons (qs_set (i:=3) sc_law_numbers.nd rfl (Or.inr rfl) (qe_callTy cn_int (by rfl) T.b_int (by decide +kernel) (qa (pe_cmpR op_eq (pe_ix ix_tup (pv 2) pe_int (fun _ _=>rfl)) pe_str (nomark _)) qa_nil)))
   (qss_one (qs_ret (by
    refine' pe_comp (NC:=["_law_key","_law_model","_law_line","_law_place"]) (fr:=[none,some 0,some 1,some 3]) ?B7 rfl ?hi7 ?hg7 ?ht7 ?he7 (by intro _;rfl)
    case B7=>exact⟨rfl,rfl,by decide +kernel,by decide +kernel,rfl,⟨trivial,⟨rfl,rfl,Or.inl rfl⟩,⟨rfl,rfl,Or.inl rfl⟩,⟨rfl,rfl,Or.inl rfl⟩,trivial⟩⟩
    case hi7=>exact(pi_list (qe_callB (cn_sortDT (by rfl)) (by rfl) T.b_sorted (by decide +kernel) (qa (pv 0) qa_nil)))
    case hg7=>intro _ _ _;exact(pg_name (i:=0) (show (["_law_key","_law_model","_law_line","_law_place"]:List Str).Nodup by decide +kernel) rfl (Or.inl rfl))
    case ht7=>intro _ _ _;exact(pf_one (pt_cmpR op_eq (pe_ix (ix_tupK (K:=K) (by rfl)) (pv 0) pe_int (fun _ _=>rfl)) (pv 2) (nomark _)))
    case he7=>intro _ _ _;exact(qe_tupA (qa (pe_ix (ix_tupK (K:=K) (by rfl)) (pv 0) pe_int (fun _ _=>rfl)) (qa (pe_ix (ix_tupK (K:=K) (by rfl)) (pe_dget (hu_of hr) (pv 1) (pv 0) (fun _ _=>rfl)) (pv 3) (fun _ _=>rfl)) qa_nil))))))),?_⟩
  try dsimp only[cxOf]
  cases hd with
  | tup hr n r =>
   cases r with
   | cons r1 r =>
    cases r1
    refine rd_seq ?_
    walk_at"rs"
    refine rd_ixT hr (v:=.str w) (atI_nat (j:=0) rfl) ?_
    walk_at"rs"
    have ew:decide (V.str w=V.str "applied")=apD (.tuple (.str w :: ds)):=by simp[apD]
    rw[ew]
    generalize apD (.tuple (.str w :: ds))=ap at k ⊢
    refine⟨e,gs.map (fun q=>(q.1,V.ref q.2.1)),rfl,by rw[G.dc,bk_PK2],by simp;omega,fun l as H2 nl s2 pa g2=>?_⟩
    rw[List.map_map,show (fun x:(Int×Int)×V=>x.fst) ∘ (fun q:Ent=>(q.fst,V.ref q.snd.fst))=(fun q:Ent=>q.1)from rfl,← vw_keys]at pa
    have lal:as.length=(srtP ((vw4 gs).map (·.1))).length:=Paired.length pa
    have lks:(srtP ((vw4 gs).map (·.1))).length=gs.length:=by rw[(srtP_perm _).length_eq,vw_keys,List.length_map]
    walk_at"rs"
    refine⟨l,rfl,⟨_,SqL.of g2⟩,?_⟩
    intro acc na ka
    have G2:=G.same s2
    refine comp_byF as.length (small1000 (by omega)) (fun i vs σc H'=>Same H2 H'∧(∃o,σc = [o,some (.ref e),some (.int line),some (.int (if ap=true then 1 else 0))])∧PVH K H' vs (FK ((((saidV (vw4 gs)).take i).filter fun q=>decide (q.1.2=line)).map fun q=>(q.1.1,cntV ap q)))) ?_ ?_ ?_
    ·exact⟨Same.upd na,⟨none,rfl⟩,.nil⟩
    ·rintro i vs σc H' hi hlv ha ⟨sm,⟨o,rfl⟩,pv⟩
     have hL:SqL K H' l (as.map V.ref):=SqL.of (sm _ _ g2)
     have ex:(as.map V.ref)[i]? = some (.ref as[i]):=by simp[hi]
     refine⟨⟨_,_,hL,ex⟩,?_⟩
     rintro x H6 ⟨rfl,hx⟩ R S' hR hS'
     have e2:=hx _ hL
     rw[ex]at e2;cases e2
     obtain⟨kk1,hk1⟩:∃k,(srtP ((vw4 gs).map (·.1)))[i]? = some k:=⟨_,List.getElem?_eq_getElem (by omega)⟩
     obtain⟨ai,hai,gk⟩:=paired_at pa hk1
     rw[List.getElem?_eq_getElem hi]at hai;cases hai
     have gk':=sm _ _ gk
     have P':=G2.same sm
     have e8:=said_at hk1
     have tk:(saidV (vw4 gs)).take (i+1)=(saidV (vw4 gs)).take i ++ [(kk1,(lookV (vw4 gs) kk1).getD (0,0))]:=by rw[List.take_add_one,e8];rfl
     walk_at"rd"
     have e1:decide (V.int kk1.2=V.int line)=decide (kk1.2=line):=by simp
     rw[e1]
     refine rd_ite2 (fun c1=>?_) (fun c1=>?_)
     ·have hmem:kk1∈gs.map (·.1):=by rw[← vw_keys];exact(srtP_perm _).mem_iff.mp (List.mem_of_getElem? hk1)
      obtain⟨z,hz⟩:∃z,lookB gs kk1=some z:=by
       cases e:lookB gs kk1 with
       | none=>exact absurd hmem (lookB_none.mp e)
       | some v=>exact⟨v,rfl⟩
      have gz:=P'.vl _ (lookB_mem hz)
      walk_at"rd"
      refine⟨e,.ref z.1,rfl,by have:=DGet.t (k:=kP kk1) P'.dc gk';rw[valV_bk,hz]at this;exact this,?_⟩
      walk_at"rd"
      have el:(lookV (vw4 gs) kk1).getD (0,0)=z.2:=by rw[look_vw,hz];rfl
      rw[el]at tk
      refine rd_ixT (SqT.of gz) (v:=.int (cntV ap (kk1,z.2))) (by cases ap <;> rfl) ?_
      walk_at"rd"
      refine⟨sz (by simp),fun t7 H7 n7 s7 g7=>?_⟩
      have ha7:=s7 _ _ ha
      refine hR _ _ _ ha7 ⟨fun b u e=>?_,⟨_,rfl⟩,?_⟩
      ·rw[upd_ne (ne_of_none e na)];exact s7 _ _ (sm b u e)
      ·rw[tk,List.filter_append,List.filter_cons,if_pos c1,List.map_append,List.filter_nil]
       have ef:∀(xs:List (Int×Int)) (y:Int×Int),FK (xs ++ [y])=FK xs ++ [(Sum.inl y.1,V.int y.2)]:=fun xs y=>by simp[FK]
       rw[show List.map (fun q:Sv4=>(q.1.1,cntV ap q)) [(kk1,z.2)] = [(kk1.1,cntV ap (kk1,z.2))]from rfl,ef]
       have nn:∀b ys,SqT K H7 b ys→SqT K (upd H7 acc (.lst (vs ++ [V.ref t7]))) b ys:=fun b ys hb=>SqT.updL hb ha7
       exact PVH.snoc (Paired.mapP (pv.same s7) fun _ _ ⟨a,e,q⟩=>⟨a,e,nn _ _ q⟩) (nn _ _ (SqT.of g7))
     ·refine hS' _ _ ha ⟨sm,⟨_,rfl⟩,?_⟩
      rw[tk,List.filter_append,List.filter_cons,if_neg (by rw[c1];exact Bool.false_ne_true),List.filter_nil,List.append_nil]
      exact pv
    ·rintro vs σc H' hlv ha ⟨sm,_,pv⟩
     refine⟨⟨_,SqL.of (sm _ _ g2),by simp⟩,?_⟩
     rw[List.take_of_length_le (by rw[said_len];simp only[vw4,List.length_map];omega)]at pv
     exact k acc vs H' (s2.free na) ha (pvh_dt pv rfl) (s2.trans sm)
noncomputable def sp_law_done (K:PySem.W.Frag):Sp:=fun vs H Q _=>∃(N:List Addr)(e t rt:Addr)(gs:List Ent)(r:PyData)(line fork en one:Int),vs = [.ref e,.ref t]∧PB H e gs∧gs.length<63∧H t=some (.tup [.int line,.int fork,.int en,.int one,.ref rt])∧Dt K [] H (.ref rt) r∧Mt.ruleD r=true∧0≤fork∧(∀b∈N,H b≠none) ∧
 ∀(y:V) (H':Hp),Dt K N H' y (doneD line (doneV (vw4 gs) line fork en one (rkD r) (apD r)))→Same H H'→Q y H'
abbrev glaw_done (P:Program)(w:World)(K:PySem.W.Frag)(mg:Str→Option Value)(base:Heap)(a:Adr):Prop:=FnOk P w K mg base CX0 2 a.f_law_done a.d_law_done ["_law_model","_law_asked_here"] (sp_law_done K)
theorem ok_law_done (T:Txt P K mg a)(Z3:glaw_numbers P w K mg base a):glaw_done P w K mg base a:=by
 refine T.F_law_done.ok sc_law_done (fun vs H Q E h=>?_) (fun cdv A outer s H vs Q E hr h=>?_)
 ·obtain⟨N,e,t,rt,gs,r,line,fork,en,one,rfl,_⟩:=h;rfl
 ·obtain⟨N, e, t,rt,gs,r,line,fork,en,one,rfl,G,hl,ht,hd,hw,hf,hN,k⟩:=h
  have fr:∀ {H':Hp}{b:Addr},Same H H'→H' b=none→b∉N:=fun {H' b} s n hb=>hN b hb (by
   cases e:H b with
   | none=>rfl
   | some o=>rw[s _ _ e]at n;cases n)
  have lo:(numV (vw4 gs) line (apD r)).length<63:=by have:=num_len (vw4 gs) line (apD r);simp only[vw4,List.length_map]at this ⊢;omega
  refine exW ⟨_,(qss_cons (qs_asg (pv 1) (pg_tup (n:=5) rfl (pgs_cons (pg_name (i:=2) sc_law_done.nd rfl (Or.inl rfl)) (pgs_cons (pg_name (i:=3) sc_law_done.nd rfl (Or.inl rfl)) (pgs_cons (pg_name (i:=4) sc_law_done.nd rfl (Or.inl rfl)) (pgs_cons (pg_name (i:=5) sc_law_done.nd rfl (Or.inr rfl)) (pgs_cons (pg_name (i:=6) sc_law_done.nd rfl (Or.inl rfl)) pgs_nil)))))))
   (qss_cons (qs_set (i:=7) sc_law_done.nd rfl (Or.inl rfl) (qe_call Z3 (hr.mono (by decide)) (by rfl) T.m__law_numbers T.k__law_numbers T.bd__law_numbers .nil pass0 (qa (pv 0) (qa (pv 2) (qa (pv 6) qa_nil)))))
   (qss_cons (qs_set (i:=8) sc_law_done.nd rfl (Or.inr rfl) (pv 4))
   (qss_cons (qs_if (pt_cmpR op_ne (pe_ix ix_tup (pv 6) pe_int (fun _ _=>rfl)) pe_str (nomark _))
    (qss_cons (qs_set (i:=9) sc_law_done.nd rfl (Or.inl rfl) (qe_callB cn_sort (by rfl) T.b_sorted (by decide +kernel) (qa (by
    refine' pe_comp (NC:=["_law_other","_law_number","_law_one"]) (fr:=[none,none,some 5]) ?B8 rfl ?hi8 ?hg8 ?ht8 ?he8 (by intro _;rfl)
    case B8=>exact⟨rfl,rfl,by decide +kernel,by decide +kernel,rfl,⟨trivial,trivial,⟨rfl,rfl,Or.inl rfl⟩,trivial⟩⟩
    case hi8=>exact(pi_list (pv 7))
    case hg8=>intro _ _ _;exact(pg_tupK (K:=K) (n:=2) (by rfl) rfl (pgs_cons (pg_name (i:=0) (show (["_law_other","_law_number","_law_one"]:List Str).Nodup by decide +kernel) rfl (Or.inl rfl)) (pgs_cons (pg_name (i:=1) (show (["_law_other","_law_number","_law_one"]:List Str).Nodup by decide +kernel) rfl (Or.inl rfl)) pgs_nil)))
    case ht8=>intro _ _ _;exact(pf_one (pt_cmpR op_ne (pv 0) (pv 2) (nomark _)))
    case he8=>intro _ _ _;exact(pv 1)) qa_nil)))
    (qss_cons (qs_if (pt_cmpR op_lt (qe_callB cn_len (by rfl) T.b_len (by decide +kernel) (qa (pv 9) qa_nil)) (pe_ix ix_tup (pv 6) pe_int (fun _ _=>rfl)) (nomark _))
     (qss_one (qs_ret pe_non))
     qss_nil)
    (qss_one (qs_set (i:=8) sc_law_done.nd rfl (Or.inr rfl) (qe_callB (cn_min (by rfl)) (by rfl) T.b_min (by decide +kernel) (qa (pv 4) (qa (pe_ix ix_list (pv 9) (pe_op op_sub (qe_callB cn_len (by rfl) T.b_len (by decide +kernel) (qa (pv 9) qa_nil)) (pe_ix ix_tup (pv 6) pe_int (fun _ _=>rfl))) (fun _ _=>rfl)) qa_nil)))))))
    qss_nil)
   (qss_cons (qs_if (pt_cmpR op_le (pv 8) (pv 3) (nomark _))
    (qss_one (qs_ret pe_non))
    qss_nil)
   (qss_cons (by
    refine' qs_setComp (i:=10) (NC:=["_law_other","_law_number","_law_one","_law_place"]) (fr:=[none,none,some 5,some 8]) sc_law_done.nd rfl (Or.inl rfl) ?B9 rfl ?hi9 ?hg9 ?ht9 ?he9 ?hsw9 (by intro _;rfl) (by first |exact Or.inl rfl |exact Or.inr rfl)
    case B9=>exact⟨rfl,rfl,by decide +kernel,by decide +kernel,rfl,⟨trivial,trivial,⟨rfl,rfl,Or.inl rfl⟩,⟨rfl,rfl,Or.inl rfl⟩,trivial⟩⟩
    case hi9=>exact(pi_list (pv 7))
    case hg9=>intro _ _ _;exact(pg_tupK (K:=K) (n:=2) (by rfl) rfl (pgs_cons (pg_name (i:=0) (show (["_law_other","_law_number","_law_one","_law_place"]:List Str).Nodup by decide +kernel) rfl (Or.inl rfl)) (pgs_cons (pg_name (i:=1) (show (["_law_other","_law_number","_law_one","_law_place"]:List Str).Nodup by decide +kernel) rfl (Or.inl rfl)) pgs_nil)))
    case ht9=>intro _ _ _;exact(pf_one (pw_and (pt_cmpR op_ge (pv 1) (pv 3) (nomark _)) (pw_and1 (pt_cmpR op_ne (pv 0) (pv 2) (nomark _)))).pt)
    case he9=>intro _ _ _;exact(pv 0)
    case hsw9=>rfl)
   (qss_one (qs_ret (qe_tupA (qa (pv 2) (qa (pv 8) (qa (qe_callTy (cn_tupleA (K:=K) (by rfl)) (by rfl) T.b_tuple (by decide +kernel) (qa (qe_callB cn_sort (by rfl) T.b_sorted (by decide +kernel) (qa (pe_op op_catA (pv 10) (qe_lstA (qa (pv 5) qa_nil))) qa_nil)) qa_nil)) qa_nil)))))))))))),?_⟩
  try dsimp only[cxOf]
  refine rd_seq ?_
  walk_at"rs"
  refine rd_seq ?_
  walk_at"rs"
  refine⟨e,gs,[],.ref rt,r,line,rfl,G,by omega,hd,hw,fun l ws H1 n1 g1 d1 s1=>?_⟩
  unfold doneV at k
  rw[oth_num]at k
  generalize numV (vw4 gs) line (apD r)=ns at lo d1 k
  walk_at"rs"
  refine rd_seq ?_
  walk_at"rs"
  have lof:∀pb:Int×Int→Bool,(ns.filter pb).length<63:=fun pb=>Nat.lt_of_le_of_lt (List.length_filter_le _ _) lo
  refine rd_seqK (fun σ' H'=>∃o9:Option V,σ' = [some (.ref e),some (.ref t),some (.int line),some (.int fork),some (.int en),some (.int one),some (.ref rt),some (.ref l),some (.int (placeV (rkD r) ((ns.filter fun p=>decide (p.1≠one)).map (·.2)) en)),o9,none]∧Same H1 H') ?_ ?_
  ·rintro σ' H2 ⟨o9,rfl,s2⟩
   generalize placeV (rkD r) ((ns.filter fun p=>decide (p.1≠one)).map (·.2)) en=pl at k ⊢
   have s02:=s1.trans s2
   refine rd_seq ?_
   walk_at"rs"
   refine rd_ite2 (fun hc=>?_) (fun hc=>?_)
   ·have hc':=of_decide_eq_true hc
    rw[if_pos hc']at k
    walk_at"rs"
    exact k _ _ .non s02
   ·have hc':=of_decide_eq_false hc
    rw[if_neg hc']at k
    walk_at"rs"
    refine rd_seq ?_
    walk_at"rs"
    refine⟨l,rfl,⟨_,SqL.of (s2 _ _ g1)⟩,?_⟩
    intro acc na ka
    refine comp_pairsL ns ws (fun p=>decide (p.2 ≥ pl) && decide (p.1≠one)) (·.1) (fun σ=>∃o1 o2,σ = [o1,o2,some (.int one),some (.int pl)]) (by omega) na ⟨none,none,rfl⟩ (s2 _ _ g1) (d1.ext (Ext.same s2)) ?_ ?_
    ·rintro q b σc H3 R S hm hb sm ⟨o1,o2,rfl⟩ hR hS
     walk_at"rd"
     cases c1:decide (q.2 ≥ pl)with
     | false =>
      walk_at"rd"
      exact hS (by simp only[c1,Bool.false_and]) _ ⟨_,_,rfl⟩
     | true =>
      walk_at"rd"
      have e2:(!decide (V.int q.1=V.int one))=decide (q.1≠one):=by simp
      rw[e2]
      refine rd_ite2 (fun c2=>?_) (fun c2=>?_)
      ·walk_at"rd"
       exact hR (by simp only[c1,c2,Bool.and_self]) _ ⟨_,_,rfl⟩
      ·exact hS (by simp only[c1,c2,Bool.and_false]) _ ⟨_,_,rfl⟩
    ·intro H3 s3 g3
     walk_at"rs"
     refine⟨sz (by simp),fun l4 H4 n4 s4 g4=>?_⟩
     refine rd_catA (s4 _ _ g3) g4 (sz (by have:=lof (fun p=>decide (p.2 ≥ pl) && decide (p.1≠one));simp only[List.length_map,List.length_cons,List.length_nil];omega)) fun l5 H5 n5 s5 g5=>?_
     have ll:List.map V.int (List.map (fun x=>x.1) (List.filter (fun p:Int×Int=>decide (p.2 ≥ pl) && decide (p.1≠one)) ns)) ++ [V.int one]=((ns.filter (fun p:Int×Int=>decide (p.2 ≥ pl) && decide (p.1≠one))).map (·.1) ++ [one]).map V.int:=by rw[List.map_append];rfl
     rw[ll]at g5
     walk_at"rs"
     refine rd_sort (SqL.of g5) (by have:=lof (fun p=>decide (p.2 ≥ pl) && decide (p.1≠one));simp only[List.length_append,List.length_map,List.length_cons,List.length_nil];omega) fun l6 ms n6 hp hs=>?_
     have em:ms=srtI (one :: ((ns.filter fun p=>decide (p.1≠one)).filter fun p=>decide (p.2 ≥ pl)).map (·.1)):=by
      refine srtI_of (hp.trans ?_) hs
      rw[List.filter_filter]
      exact List.perm_append_comm
     subst em
     generalize srtI (one :: ((ns.filter fun p=>decide (p.1≠one)).filter fun p=>decide (p.2 ≥ pl)).map (·.1))=ms at k ⊢
     have s6:Same H5 (upd H5 l6 (.lst (ms.map V.int))):=Same.upd n6
     have g6:upd H5 l6 (.lst (ms.map V.int)) l6=some (.lst (ms.map V.int)):=upd_same
     generalize upd H5 l6 (.lst (ms.map V.int))=H6 at s6 g6 ⊢
     walk_at"rs"
     intro l7 H7 n7 s7 q7
     walk_at"rs"
     refine⟨sz (by simp),fun l8 H8 n8 s8 g8=>?_⟩
     have s28:=(s3.trans s4).trans ((s5.trans s6).trans (s7.trans s8))
     have nl6:l6∉N:=fr (s02.trans (s3.trans (s4.trans s5))) n6
     have nl7:l7∉N:=by
      rcases n7 with rfl |h
      ·exact nl6
      ·exact fr (s02.trans (s3.trans (s4.trans (s5.trans s6)))) h
     have nl8:l8∉N:=fr (s02.trans (s3.trans (s4.trans (s5.trans (s6.trans s7))))) n8
     exact k _ _ (.tup (SqT.of g8) nl8 (.cons (.int _) (.cons (.int _) (.cons (.tup (s8.tupS q7) nl7 (Mt.dtInts _)) .nil)))) (s02.trans s28)
  ·intro hrest
   rcases Mt.rule_shape hw with rfl | ⟨w,n,rfl,hv,h1,h2⟩
   ·have hd1:=hd.ext (Ext.same s1)
    cases hd1 with
    | tup hq hn hr =>
     cases hr with
     | cons q1 hr =>
      cases hr
      cases q1
      walk_at"rs"
      exact hrest _ _ ⟨_,rfl,Same.refl _⟩
   ·have hd1 := hd.ext (Ext.same s1)
    cases hd1 with
    | tup hq hn hr =>
     cases hr with
     | cons q1 hr =>
      cases hr with
      | cons q2 hr =>
       cases hr
       cases q1
       cases q2
       walk_at"rs"
       rw[show (!decide (V.str w=V.str "written"))=true by rcases hv with rfl |rfl <;> decide +kernel]
       walk_at"rs"
       refine rd_seq ?_
       walk_at"rs"
       refine⟨l,rfl,⟨_,SqL.of g1⟩,?_⟩
       intro acc na ka
       refine comp_pairsL ns ws (fun p=>decide (p.1≠one)) (·.2) (fun σ=>∃o1 o2,σ = [o1,o2,some (.int one)]) (by omega) na ⟨none,none,rfl⟩ g1 d1 ?_ ?_
       ·rintro q b σc H3 R S hm hb sm ⟨o1,o2,rfl⟩ hR hS
        walk_at"rd"
        have e2:(!decide (V.int q.1=V.int one))=decide (q.1≠one):=by simp
        rw[e2]
        refine rd_ite2 (fun c2=>?_) (fun c2=>?_)
        ·walk_at"rd"
         exact hR c2 _ ⟨_,_,rfl⟩
        ·exact hS c2 _ ⟨_,_,rfl⟩
       ·intro H3 s3 g3
        have lf:=lof (fun p=>decide (p.1≠one))
        generalize ns.filter (fun p=>decide (p.1≠one))=os at k g3 lf hrest
        walk_at"rs"
        refine rd_sort (SqL.of g3) (by simp only[List.length_map];omega) fun l6 ms n6 hp hs=>?_
        obtain rfl:=srtI_of hp hs
        have s6:Same H3 (upd H3 l6 (.lst ((srtI (os.map (·.2))).map V.int))):=Same.upd n6
        have g6:upd H3 l6 (.lst ((srtI (os.map (·.2))).map V.int)) l6=some (.lst ((srtI (os.map (·.2))).map V.int)):=upd_same
        have hq6:=(s3.trans s6).tupS hq
        generalize upd H3 l6 (.lst ((srtI (os.map (·.2))).map V.int))=H6 at s6 g6 hq6 ⊢
        have ep:placeV (rkD (.tuple [.str w,.int n])) (os.map (·.2)) en=if ((os.map (·.2)).length:Int) ≥ n then (if en<(srtI (os.map (·.2))).reverse.getD (n - 1).toNat 0 then en else (srtI (os.map (·.2))).reverse.getD (n - 1).toNat 0) else 0:=rfl
        have sl:=srtI_len (os.map (·.2))
        walk_at"rs"
        refine rd_seq ?_
        walk_at"rs"
        rw[List.length_map,sl]
        refine rd_ite2 (fun hc=>?_) (fun hc=>?_)
        ·have hc':=of_decide_eq_true hc
         have ep2:placeV (rkD (.tuple [.str w,.int n])) (os.map (·.2)) en=0:=by rw[ep,if_neg (by omega)]
         rw[ep2,if_pos hf]at k
         walk_at"rs"
         exact k _ _ .non (s1.trans (s3.trans s6))
        ·have hc':=of_decide_eq_false hc
         walk_at"rs"
         rw[List.length_map,sl]
         refine rd_ixL (SqL.of g6) (getD_at (j:=((os.map (·.2)).length:Int) - n) (by omega) (by omega)) ?_
         walk_at"rs"
         have em:∀x:Int,(if x<en then x else en)=(if en<x then en else x):=fun x=>by split <;> split <;> omega
         have ep2:placeV (rkD (.tuple [.str w,.int n])) (os.map (·.2)) en=(if (srtI (os.map (·.2))).getD (((os.map (·.2)).length:Int) - n).toNat 0<en then (srtI (os.map (·.2))).getD (((os.map (·.2)).length:Int) - n).toNat 0 else en):=by
          rw[ep,if_pos (by omega),rev_at h1 (by omega),sl,em]
         rw[← ep2]
         exact hrest _ _ ⟨some (.ref l6),rfl,s3.trans s6⟩
noncomputable def sp_law_asked (K:PySem.W.Frag):Sp:=fun vs H Q _=>∃(st c r:Addr)(m:Nat),vs = [.ref st]∧Dk H st c r m∧m<800000000 ∧
 ∀(t rt:Addr) (line fork en one:Int) (H':Hp),H t=none→H' t=some (.tup [.int line,.int fork,.int en,.int one,.ref rt])→RuT H' rt→0≤fork→fork≤1000000→0≤en→en≤1000000→0≤line→line≤1000000000→0≤one→one<8→Dk H' st c r (m+13)→Ext [st,r] H H'→Q (.ref t) H'
abbrev glaw_asked (P:Program)(w:World)(K:PySem.W.Frag)(mg:Str→Option Value)(base:Heap)(a:Adr):Prop:=FnOk P w K mg base CX0 3 a.f_law_asked a.d_law_asked ["_law_deck_here"] (sp_law_asked K)
theorem ok_law_asked (T:Txt P K mg a)(Z22:glaw_rule P w K mg base a)(Z0:glaw_take P w K mg base a):glaw_asked P w K mg base a:=by
 refine T.F_law_asked.ok sc_law_asked (fun vs H Q E h=>?_) (fun cdv A outer s H vs Q E hr h=>?_)
 ·obtain⟨st,c,r,m,rfl,_⟩:=h;rfl
 ·obtain⟨st,c,r,m,rfl,S,hm,k⟩:=h
  refine exW ⟨_,(qss_cons (qs_set (i:=1) sc_law_asked.nd rfl (Or.inl rfl) (qe_call Z0 (hr.mono (by decide)) (by rfl) T.m__law_take T.k__law_take T.bd__law_take .nil pass0 (qa (pv 0) (qa pe_int qa_nil))))
   (qss_cons (qs_if (pt_cmpR op_eq (qe_call Z0 (hr.mono (by decide)) (by rfl) T.m__law_take T.k__law_take T.bd__law_take .nil pass0 (qa (pv 0) (qa pe_int qa_nil))) pe_int (nomark _))
    (qss_one (qs_set (i:=1) sc_law_asked.nd rfl (Or.inl rfl) (pe_op op_sub (pe_op op_pow pe_int pe_int) (qe_call Z0 (hr.mono (by decide)) (by rfl) T.m__law_take T.k__law_take T.bd__law_take .nil pass0 (qa (pv 0) (qa pe_int qa_nil))))))
    qss_nil)
   (qss_cons (qs_set (i:=2) sc_law_asked.nd rfl (Or.inl rfl) (pe_ix ix_list (qe_lstA (qa pe_int (qa (qe_call Z0 (hr.mono (by decide)) (by rfl) T.m__law_take T.k__law_take T.bd__law_take .nil pass0 (qa (pv 0) (qa (pe_op op_add (pv 1) pe_int) qa_nil))) (qa (pv 1) qa_nil)))) (qe_call Z0 (hr.mono (by decide)) (by rfl) T.m__law_take T.k__law_take T.bd__law_take .nil pass0 (qa (pv 0) (qa pe_int qa_nil))) (fun _ _=>rfl)))
   (qss_one (qs_ret (qe_tupA (qa (by exact(pe_ix ix_list (qe_lstA (qa pe_int (qa pe_int (qa pe_int qa_nil)))) (qe_call Z0 (hr.mono (by decide)) (by rfl) T.m__law_take T.k__law_take T.bd__law_take .nil pass0 (qa (pv 0) (qa pe_int qa_nil))) (fun _ _=>rfl))) (qa (pv 2) (qa (pv 1) (qa (by exact(qe_call Z0 (hr.mono (by decide)) (by rfl) T.m__law_take T.k__law_take T.bd__law_take .nil pass0 (qa (pv 0) (qa pe_int qa_nil)))) (qa (by exact(qe_call Z22 (hr.mono (by decide)) (by rfl) T.m__law_rule T.k__law_rule T.bd__law_rule .nil pass0 (qa (pv 0) qa_nil))) qa_nil))))))))))),?_⟩
  try dsimp only[cxOf]
  refine rd_seq ?_
  walk_at"rs"
  refine⟨st,c,r,_,16,rfl,S,by omega,by decide,by decide,fun v1 H1 a1 b1 S1 x1=>?_⟩
  have p6:(10:Int) ^ (6:Int).toNat=1000000:=by decide
  walk_at"rs"
  refine rd_seqK (fun σ' H'=>∃en:Int,σ' = [some (.ref st),some (.int en),none]∧0≤en∧en≤1000000∧Dk H' st c r (m+3)∧Ext [st,r] H1 H') ?_ ?_
  ·rintro σ' H3 ⟨en,rfl,e0,e1,S3,x3⟩
   refine rd_seq ?_
   walk_at"rs"
   refine⟨st,c,r,_,en+1,rfl,S3,by omega,by omega,by omega,fun v4 H4 a4 b4 S4 x4=>?_⟩
   walk_at"rs"
   refine⟨sz (by simp),fun l5 H5 n5 s5 g5=>?_⟩
   have S5:=S4.same s5
   have d5:l5 ∉ [st,c,r]:=S4.new n5
   walk_at"rs"
   refine⟨st,c,r,_,3,rfl,S5,by omega,by decide,by decide,fun v6 H6 a6 b6 S6 x6=>?_⟩
   obtain⟨fork,e6,hfk⟩:=av3 (x:=0) (y:=v4) (z:=en) a6 b6
   refine rd_ixL (SqL.of (x6 _ _ g5 (nin_pr d5))) e6 ?_
   have hf:0≤fork:=by omega
   walk_at"rs"
   refine⟨sz (by simp),fun l7 H7 n7 s7 g7=>?_⟩
   have S7:=S6.same s7
   have d7:l7 ∉ [st,c,r]:=S6.new n7
   walk_at"rs"
   refine⟨st,c,r,_,3,rfl,S7,by omega,by decide,by decide,fun v8 H8 a8 b8 S8 x8=>?_⟩
   obtain⟨ln,e8,hln⟩:=av3 (x:=0) (y:=5) (z:=9) a8 b8
   refine rd_ixL (SqL.of (x8 _ _ g7 (nin_pr d7))) e8 ?_
   walk_at"rs"
   refine⟨st,c,r,_,8,rfl,S8,by omega,by decide,by decide,fun v9 H9 a9 b9 S9 x9=>?_⟩
   walk_at"rs"
   refine⟨st,c,r,_,rfl,S9,by omega,fun rt H10 hr10 S10 x10=>?_⟩
   walk_at"rs"
   refine⟨sz (by simp),fun t H11 n11 s11 g11=>?_⟩
   have xall:Ext [st,r] H H10:=x1.trans (x3.trans (x4.trans ((Ext.same (N:=[st,r]) s5).trans (x6.trans ((Ext.same (N:=[st,r]) s7).trans (x8.trans (x9.trans x10)))))))
   refine k t rt ln fork en v9 H11 (xall.free n11 (nin_pr (S10.new n11))) g11 (hr10.ext (N:=[]) (Ext.same s11) (by simp)) hf (by omega) e0 e1 (by omega) (by omega) a9 b9 ((S10.same s11).mono (by omega)) (xall.trans (Ext.same s11))
  ·intro hrest
   walk_at"rs"
   refine⟨st,c,r,_,9,rfl,S1,by omega,by decide,by decide,fun v2 H2 a2 b2 S2 x2=>?_⟩
   walk_at"rs"
   refine rd_ite2 (fun hc=>?_) (fun hc=>?_)
   ·walk_at"rs"
    refine⟨st,c,r,_,9,rfl,S2,by omega,by decide,by decide,fun v3 H3 a3 b3 S3 x3=>?_⟩
    walk_at"rs"
    rw[p6]
    exact hrest _ _ ⟨_,rfl,by omega,by omega,S3.mono (by omega),x2.trans x3⟩
   ·walk_at"rs"
    exact hrest _ _ ⟨_,rfl,by omega,by omega,S2.mono (by omega),x2⟩
noncomputable def sp_law_book (K:PySem.W.Frag)(a:Adr):Sp:=fun vs H Q _=>∃(st c r:Addr)(m:Nat)(p d e:Addr),vs = [.ref st,.ref p,.ref e]∧Dk H st c r m∧m<700000000∧BkAt a.C_Book H p d []∧PB H e []∧d≠e ∧
 ∀(H':Hp) (fs gs:List Ent),Dk H' st c r (m+200)→BkAt a.C_Book H' p d fs→PB H' e gs→vw4 fs=vw4 gs→fs.length<24→(∀x∈vw4 fs,okS x)→Q .non H'
abbrev glaw_book (P:Program)(w:World)(K:PySem.W.Frag)(mg:Str→Option Value)(base:Heap)(a:Adr):Prop:=FnOk P w K mg base CX0 6 a.f_law_book a.d_law_book ["_law_deck_here","_law_book_here","_law_model"] (sp_law_book K a)
theorem ok_law_book (T:Txt P K mg a)(Z23:gBook_note P w K mg base a)(Z24:glaw_put P w K mg base a)(Z25:glaw_saying P w K mg base a)(Z0:glaw_take P w K mg base a):glaw_book P w K mg base a:=by
 refine T.F_law_book.ok sc_law_book (fun vs H Q E h=>?_) (fun cdv A outer s H vs Q E hr h=>?_)
 ·obtain⟨st,c,r,m,p,d,e,rfl,_⟩:=h;rfl
 ·obtain⟨st,c,r,m,p,d,e,rfl,S,hm,B,G,nde,k⟩:=h
  refine exW ⟨_,(qss_one (qs_for PassesOwn.never rfl (qi_range1 (by rfl) T.b_range (qa (qe_call Z0 (hr.mono (by decide)) (by rfl) T.m__law_take T.k__law_take T.bd__law_take .nil pass0 (qa (pv 0) (qa pe_int qa_nil))) qa_nil) (by rfl)) (pg_name (i:=3) sc_law_book.nd rfl (Or.inl rfl))
    (qss_cons (qs_set (i:=4) sc_law_book.nd rfl (Or.inl rfl) (qe_call Z25 (hr.mono (by decide)) (by rfl) T.m__law_saying T.k__law_saying T.bd__law_saying .nil pass0 (qa (pv 0) qa_nil)))
    (qss_cons (qs_expr (qe_call Z24 (hr.mono (by decide)) (by rfl) T.m__law_put T.k__law_put T.bd__law_put .nil pass0 (qa (pv 2) (qa (pv 4) qa_nil))))
    (qss_one (qs_expr (qe_methX (pv 1) T.cl_Book T.mt_Book_note Z23 (hr.mono (by decide)) T.bd_Book_note px0 (qa (pv 4) qa_nil) (by rfl) (by rfl) (by rfl)))))) (by intro _;rfl))),?_⟩
  try dsimp only[cxOf]
  walk_at"rd"
  refine⟨st,c,r,_,24,rfl,S,by omega,by decide,by decide,fun v1 H1 a1 b1 S1 x1=>?_⟩
  walk_at"rd"
  refine⟨by omega,by omega,?_⟩
  refine for_rangeW (fun i σ' H'=>∃(o3 o4:Option V) (fs gs:List Ent),σ' = [some (.ref st),some (.ref p),some (.ref e),o3,o4]∧Dk H' st c r (m+1+7 * i)∧BkAt a.C_Book H' p d fs∧PB H' e gs∧vw4 fs=vw4 gs∧fs.length≤i∧(∀x∈vw4 fs,okS x)) ?_ ?_ ?_
  ·exact⟨none,none,[],[],rfl,S1,B.nl (nl_dk S x1),G.nl (nl_dk S x1),rfl,Nat.le_refl _,fun x hx=>by cases hx⟩
  ·rintro i σ' H2 hi ⟨o3,o4,fs,gs,rfl,S2,B2,G2,hv,hl,oks⟩
   have hi24:i<24:=by have:i<v1.toNat:=hi;omega
   have hlg:=vw_len hv
   refine rd_name ?_
   refine rd_seq ?_
   walk_at"rs"
   refine⟨st,c,r,_,rfl,S2,by omega,fun t q H3 ok n3 g3 S3 x3=>?_⟩
   have B3:=B2.nl (nl_dk S2 x3)
   have G3:=G2.nl (nl_dk S2 x3)
   walk_at"rs"
   refine rd_seq ?_
   walk_at"rs"
   refine⟨e,t,gs,q,rfl,G3,by omega,g3,fun H4 gs4 G4 v4 x4=>?_⟩
   have B4:=B3.dict x4 G3.dc nde
   have g4:=x4 _ _ g3 (by simpa using ne_of g3 G3.dc (by intro z;cases z))
   have S4:=S3.dict x4 G3.dc
   obtain⟨dx4,h4⟩:=B4.ob
   walk_at"rs"
   refine⟨p,_,_,rfl,h4,bkF_no _ (by decide +kernel),?_⟩
   walk_at"rs"
   refine⟨p,d,fs,[],.ref t,sayT q,rfl,B4,by omega,.tup (SqT.of g4) (by simp) (.cons (.int _) (.cons (.int _) (.cons (.int _) (.cons (.int _) .nil)))),fun q5 H5 fs5 e5 ok5 B5 v5 x5=>?_,fun hf=>absurd (hf.symm.trans (Mt.sayD_ok ok)) (by decide)⟩
   obtain rfl:=sayT_inj e5
   have G5:=G4.dict x5 B4.pb.dc (Ne.symm nde)
   have S5:=S4.dict x5 B4.pb.dc
   walk_at"rs"
   refine⟨_,_,fs5,gs4,rfl,S5.mono (by omega),B5,G5,by rw[v5,v4,hv],?_,by rw[v5];exact noteV_ok oks ok⟩
   have e1:(vw4 fs5).length=fs5.length:=by simp[vw4]
   have e2:(vw4 fs).length=fs.length:=by simp[vw4]
   have:=noteV_len (vw4 fs) q
   rw[← v5]at this
   omega
  ·rintro σ' H2 ⟨o3,o4,fs,gs,rfl,S2,B2,G2,hv,hl,oks⟩
   have:v1.toNat≤23:=by omega
   walk_at"rd"
   exact k H2 fs gs (S2.mono (by omega)) B2 G2 hv (by omega) oks
noncomputable def sp_law_whole (K:PySem.W.Frag):Sp:=fun vs H Q _=>∃(N:List Addr)(x:V)(d:PyData),vs = [x]∧Dt K N H x d∧Q (.bl (Mt.numD d)) H
abbrev glaw_whole (P:Program)(w:World)(K:PySem.W.Frag)(mg:Str→Option Value)(base:Heap)(a:Adr):Prop:=FnOk P w K mg base CX0 1 a.f_law_whole a.d_law_whole ["_law_thing"] (sp_law_whole K)
theorem ok_law_whole (T:Txt P K mg a)  : glaw_whole P w K mg base a:=by
 refine T.F_law_whole.ok sc_law_whole (fun vs H Q E h=>?_) (fun cdv A outer s H vs Q E hr h=>?_)
 ·obtain⟨N,x,d,rfl,_⟩:=h;rfl
 ·obtain⟨N,x,d,rfl,hd,k⟩:=h
  refine exW ⟨_,(qss_one (qs_ret (pe_and (qe_callB cn_isi (by rfl) T.b_isinstance (by decide +kernel) (qa (pv 0) (qa (pe_bltn (by rfl) T.b_int (by decide +kernel) (v:=.ty "int") rfl) qa_nil))) (pe_one (pe_not (qe_callB cn_isi (by rfl) T.b_isinstance (by decide +kernel) (qa (pv 0) (qa (pe_bltn (by rfl) T.b_bool (by decide +kernel) (v:=.ty "bool") rfl) qa_nil)))))))),?_⟩
  try dsimp only[cxOf]
  walk_at"rd"
  cases d with
  | int i=>dsimp only[isIntD];walk_at"rd";dsimp only[isBoolD];walk_at"rd";exact k
  | bool b=>dsimp only[isIntD];walk_at"rd";dsimp only[isBoolD];walk_at"rd";exact k
  | _=>dsimp only[isIntD];walk_at"rd";exact k
noncomputable def sp_law_right (K:PySem.W.Frag):Sp:=fun vs H Q _=>∃(e t rt:Addr)(gs:List Ent)(M:List Addr)(x:V)(r d:PyData)(line fork en one:Int),vs = [.ref e,.ref t,x]∧PB H e gs∧gs.length<63∧(∀q∈vw4 gs,okS q)∧H t=some (.tup [.int line,.int fork,.int en,.int one,.ref rt])∧Dt K [] H (.ref rt) r∧Mt.ruleD r=true∧0≤fork∧0≤one∧one<8∧Dt K M H x d∧((∃w k,Mt.Itm w k d∧w≤200000∧k≤30)∨d = .dict []) ∧
 ∀(H':Hp),Same H H'→Q (.bl (Mt.rdV (othV (vw4 gs) line one (apD r)) line fork en one (Mt.needD r) d)) H'
abbrev glaw_right (P:Program)(w:World)(K:PySem.W.Frag)(mg:Str→Option Value)(base:Heap)(a:Adr):Prop:=FnOk P w K mg base CX0 2 a.f_law_right a.d_law_right ["_law_model","_law_asked_here","_law_thing"] (sp_law_right K)
theorem ok_law_right (T : Txt P K mg a)(Z3:glaw_numbers P w K mg base a)(Z8:glaw_whole P w K mg base a):glaw_right P w K mg base a:=by
 refine T.F_law_right.ok sc_law_right (fun vs H Q E h=>?_) (fun cdv A outer s H vs Q E hr h=>?_)
 ·obtain⟨e,t,rt,gs,M,x,r,d,line,fork,en,one,rfl,_⟩:=h;rfl
 ·obtain⟨e, t, rt, gs, M, x, r,d,line,fork,en,one,rfl,G,hl,oks,ht,hd,hw,hf,q0,q8,hx,hi,k⟩:=h
  refine exW ⟨_,(qss_cons (qs_asg (pv 1) (pg_tup (n:=5) rfl (pgs_cons (pg_name (i:=3) sc_law_right.nd rfl (Or.inl rfl)) (pgs_cons (pg_name (i:=4) sc_law_right.nd rfl (Or.inl rfl)) (pgs_cons (pg_name (i:=5) sc_law_right.nd rfl (Or.inl rfl)) (pgs_cons (pg_name (i:=6) sc_law_right.nd rfl (Or.inr rfl)) (pgs_cons (pg_name (i:=7) sc_law_right.nd rfl (Or.inl rfl)) pgs_nil)))))))
   (qss_cons (qs_if (pw_or (pt_not (pt_val (qe_callB cn_isi (by rfl) T.b_isinstance (by decide +kernel) (qa (pv 2) (qa (pe_bltn (by rfl) T.b_tuple (by decide +kernel) (v:=.ty "tuple") rfl) qa_nil))) (by intro _;rfl))) (pw_or (pt_cmpR op_ne (qe_callB cn_len (by rfl) T.b_len (by decide +kernel) (qa (pv 2) qa_nil)) pe_int (nomark _)) (pw_or (pt_not (pt_val (qe_call Z8 (hr.mono (by decide)) (by rfl) T.m__law_whole T.k__law_whole T.bd__law_whole .nil pass0 (qa (pe_ix ix_tup (pv 2) pe_int (fun _ _=>rfl)) qa_nil)) (by intro _;rfl))) (pw_or1 (pt_not (pt_val (qe_call Z8 (hr.mono (by decide)) (by rfl) T.m__law_whole T.k__law_whole T.bd__law_whole .nil pass0 (qa (pe_ix ix_tup (pv 2) pe_int (fun _ _=>rfl)) qa_nil)) (by intro _;rfl))))))).pt
    (qss_one (qs_ret pe_bl))
    qss_nil)
   (qss_cons (qs_if (pw_or (pt_cmpR op_ne (pe_ix ix_tup (pv 2) pe_int (fun _ _=>rfl)) (pv 3) (nomark _)) (pw_or (pt_cmpR op_lt (pe_ix ix_tup (pv 2) pe_int (fun _ _=>rfl)) (pe_op op_add (pv 4) pe_int) (nomark _)) (pw_or (pt_cmpR op_gt (pe_ix ix_tup (pv 2) pe_int (fun _ _=>rfl)) (pv 5) (nomark _)) (pw_or1 (pt_not (pt_val (qe_callB cn_isi (by rfl) T.b_isinstance (by decide +kernel) (qa (pe_ix ix_tup (pv 2) pe_int (fun _ _=>rfl)) (qa (pe_bltn (by rfl) T.b_tuple (by decide +kernel) (v:=.ty "tuple") rfl) qa_nil))) (by intro _;rfl))))))).pt
    (qss_one (qs_ret pe_bl))
    qss_nil)
   (qss_cons (qs_if (pt_cmpR (on_neD hr) (by
    refine' pe_comp (NC:=["_law_other"]) (fr:=[none]) ?B10 rfl ?hi10 ?hg10 ?ht10 ?he10 (by intro _;rfl)
    case B10=>exact⟨rfl,rfl,by decide +kernel,by decide +kernel,rfl,⟨trivial,trivial⟩⟩
    case hi10=>exact(pi_tup (pe_ix ix_tup (pv 2) pe_int (fun _ _=>rfl)))
    case hg10=>intro _ _ _;exact(pg_name (i:=0) (show (["_law_other"]:List Str).Nodup by decide +kernel) rfl (Or.inl rfl))
    case ht10=>intro _ _ _;exact(pf_one (pt_not (pt_val (qe_call Z8 (hr.mono (by decide)) (by rfl) T.m__law_whole T.k__law_whole T.bd__law_whole .nil pass0 (qa (pv 0) qa_nil)) (by intro _;rfl))))
    case he10=>intro _ _ _;exact(pv 0)) (qe_lstA qa_nil) (nomark _))
    (qss_one (qs_ret pe_bl))
    qss_nil)
   (qss_cons (qs_set (i:=8) sc_law_right.nd rfl (Or.inr rfl) (by
    refine' pe_comp (NC:=["_law_other","_law_number","_law_thing"]) (fr:=[none,none,some 2]) ?B11 rfl ?hi11 ?hg11 ?ht11 ?he11 (by intro _;rfl)
    case B11=>exact⟨rfl,rfl,by decide +kernel,by decide +kernel,rfl,⟨trivial,trivial,⟨rfl,rfl,Or.inl rfl⟩,trivial⟩⟩
    case hi11=>exact(pi_list (qe_call Z3 (hr.mono (by decide)) (by rfl) T.m__law_numbers T.k__law_numbers T.bd__law_numbers .nil pass0 (qa (pv 0) (qa (pv 3) (qa (pv 7) qa_nil)))))
    case hg11=>intro _ _ _;exact(pg_tupK (K:=K) (n:=2) (by rfl) rfl (pgs_cons (pg_name (i:=0) (show (["_law_other","_law_number","_law_thing"]:List Str).Nodup by decide +kernel) rfl (Or.inl rfl)) (pgs_cons (pg_name (i:=1) (show (["_law_other","_law_number","_law_thing"]:List Str).Nodup by decide +kernel) rfl (Or.inl rfl)) pgs_nil)))
    case ht11=>intro _ _ _;exact(pf_one (pt_cmpR op_ge (pv 1) (pe_ix (ix_tupK (K:=K) (by rfl)) (pv 2) pe_int (fun _ _=>rfl)) (nomark _)))
    case he11=>intro _ _ _;exact(pv 0)))
   (qss_cons (qs_if (pw_or (pt_cmpR (on_neD hr) (by
    refine' pe_comp (NC:=["_law_other","_law_one","_law_have"]) (fr:=[none,some 6,some 8]) ?B12 rfl ?hi12 ?hg12 ?ht12 ?he12 (by intro _;rfl)
    case B12=>exact⟨rfl,rfl,by decide +kernel,by decide +kernel,rfl,⟨trivial,⟨rfl,rfl,Or.inl rfl⟩,⟨rfl,rfl,Or.inl rfl⟩,trivial⟩⟩
    case hi12=>exact(pi_tup (pe_ix ix_tup (pv 2) pe_int (fun _ _=>rfl)))
    case hg12=>intro _ _ _;exact(pg_name (i:=0) (show (["_law_other","_law_one","_law_have"]:List Str).Nodup by decide +kernel) rfl (Or.inl rfl))
    case ht12=>intro _ _ _;exact(pf_one (pw_and (pt_cmpR op_ne (pv 0) (pv 1) (nomark _)) (pw_and1 (pt_cmpR (on_notInK (K:=K) (by rfl)) (pv 0) (pv 2) (by with_unfolding_all rfl)))).pt)
    case he12=>intro _ _ _;exact(pv 0)) (qe_lstA qa_nil) (nomark _)) (pw_or1 (pt_cmpR on_notIn (pv 6) (pe_ix ix_tup (pv 2) pe_int (fun _ _=>rfl)) (by with_unfolding_all rfl)))).pt
    (qss_one (qs_ret pe_bl))
    qss_nil)
   (qss_cons (qs_set (i:=9) sc_law_right.nd rfl (Or.inl rfl) (pe_op op_add (pe_ix ix_tup (pe_op op_catG (pv 7) (qe_tupA (qa pe_int qa_nil))) pe_int (fun _ _=>rfl)) pe_int))
   (qss_one (qs_ret (pe_and (pe_cmpR (on_eqD hr) (qe_callTy (cn_listA (K:=K) (by rfl)) (by rfl) T.b_list (by decide +kernel) (qa (pe_ix ix_tup (pv 2) pe_int (fun _ _=>rfl)) qa_nil)) (qe_sortSet (by rfl) (by rfl) T.b_sorted (by rfl) T.b_set (qa (pe_ix ix_tup (pv 2) pe_int (fun _ _=>rfl)) qa_nil) (by rfl)) (nomark _)) (pe_one (pe_cmpR op_ge (qe_callB cn_len (by rfl) T.b_len (by decide +kernel) (qa (pe_ix ix_tup (pv 2) pe_int (fun _ _=>rfl)) qa_nil)) (pv 9) (nomark _))))))))))))),?_⟩
  try dsimp only[cxOf]
  walk_at"rq"
  cases hti:isTupD d with
  | false =>
   refine rd_iteT (rd_iteT ?_)
   walk_at"rq"
   have:=k H (Same.refl _)
   rw[Mt.rdV_pap (Mt.papD_tup hti)]at this
   exact this
  | true =>
   obtain⟨ds,rfl⟩:=Mt.tup_of hti
   obtain⟨t1,xs,rfl,hq,hr⟩:=dt_tuple hx
   refine rd_iteF ?_
   walk_at"rq"
   by_cases h3:xs.length=3
   ·rw[show decide (V.int (xs.length:Int)=V.int 3)=true from decide_eq_true (by rw[h3];rfl)]
    obtain⟨y1,y2,y3,e1,e2,e3,rfl,rfl,r1,r2,r3⟩:=dt_tri hr h3
    refine rd_iteF ?_
    walk_at"rq"
    refine⟨M,y1,e1,rfl,r1,?_⟩
    cases h1:Mt.numD e1 with
    | false =>
     refine⟨_,rfl,rd_iteT (rd_iteT ?_)⟩
     walk_at"rq"
     have:=k H (Same.refl _)
     rw[Mt.rdV_pap (show Mt.papD (.tuple [e1,e2,e3])=false by show (Mt.numD e1 && _)=false;rw[h1];rfl)]at this
     exact this
    | true =>
     obtain⟨l,rfl⟩:=Mt.numD_int h1
     obtain rfl:=dt_int r1
     refine⟨_,rfl,rd_iteF ?_⟩
     walk_at"rq"
     refine⟨M,y2,e2,rfl,r2,?_⟩
     cases h2:Mt.numD e2 with
     | false =>
      refine⟨_,rfl,rd_iteT ?_⟩
      walk_at"rq"
      have:=k H (Same.refl _)
      rw[Mt.rdV_pap (show Mt.papD (.tuple [.int l,e2,e3])=false by show (Mt.numD (.int l) && (Mt.numD e2 && _))=false;rw[h2];rfl)]at this
      exact this
     | true =>
      obtain⟨pl,rfl⟩:=Mt.numD_int h2
      obtain rfl:=dt_int r2
      refine⟨_,rfl,rd_iteF ?_⟩
      walk_at"rq"
      walk_at"rq"
      have el:(!decide (V.int l=V.int line)) = !decide (l=line):=by simp
      rw[el]
      have none0:Mt.rdV (othV (vw4 gs) line one (apD r)) line fork en one (Mt.needD r) (.tuple [.int l,.int pl,e3])=false→Q (.bl false) H:=fun z=>by
       have:=k H (Same.refl _)
       rw[z]at this
       exact this
      have rv:Mt.rdV (othV (vw4 gs) line one (apD r)) line fork en one (Mt.needD r) (.tuple [.int l,.int pl,e3])=(Mt.risD e3 && (decide (l=line) && (decide (fork<pl) && decide (pl≤en)) && Mt.rdL (othV (vw4 gs) line one (apD r)) one (Mt.needD r) pl ((Mt.itemsD e3).map Mt.iv))):=rfl
      cases hc1:decide (l=line)with
      | false =>
       refine rd_iteT (rd_iteT ?_)
       walk_at"rq"
       exact none0 (by rw[rv,hc1];simp)
      | true =>
       refine rd_iteF ?_
       walk_at"rq"
       cases hc2:decide (pl<fork+1)with
       | true =>
        refine rd_iteT (rd_iteT ?_)
        walk_at"rq"
        have:decide (fork<pl)=false:=decide_eq_false (by have:=of_decide_eq_true hc2;omega)
        exact none0 (by rw[rv,this];simp)
       | false =>
        refine rd_iteF ?_
        walk_at"rq"
        cases hc3:decide (en<pl)with
        | true =>
         refine rd_iteT (rd_iteT ?_)
         walk_at"rq"
         have:decide (pl≤en)=false:=decide_eq_false (by have:=of_decide_eq_true hc3;omega)
         exact none0 (by rw[rv,this];simp)
        | false =>
         have d2:decide (fork<pl)=true:=decide_eq_true (by have:=of_decide_eq_false hc2;omega)
         have d3:decide (pl≤en)=true:=decide_eq_true (by have:=of_decide_eq_false hc3;omega)
         have hpl:1≤pl:=by have:=of_decide_eq_true d2;omega
         rw[hc1,d2,d3,Bool.true_and,Bool.true_and]at rv
         refine rd_iteF ?_
         walk_at"rq"
         cases ht3:isTupD e3 with
         | false =>
          refine rd_iteT ?_
          walk_at"rq"
          exact none0 (by rw[rv,Mt.risD_tup ht3];rfl)
         | true =>
          obtain⟨es,rfl⟩:=Mt.tup_of ht3
          obtain⟨th,zs,rfl,hqh,hah⟩:=dt_tuple r3
          obtain⟨cl,dp,wl⟩:PyData.canLayAll0 es=true∧PyData.depthAll es≤28∧es.length≤200000:=by
           rcases hi with ⟨w,kk,hi,hw,hk⟩ |z
           ·have c:=hi.cl
            have d:=Nat.le_trans hi.dp hk
            have w:=Nat.le_trans hi.wt hw
            simp only[PyData.canLay0,PyData.canLayAll0,Bool.and_eq_true]at c
            simp only[PyData.depth,PyData.depthAll]at d
            simp only[PyData.weight,PyData.weightAll]at w
            have:=PyData.wtl (ds:=es)
            exact⟨c.2.2.1,by omega,by omega⟩
           ·cases z
          refine rd_iteF ?_
          walk_at"rq"
          walk_at"rq"
          refine⟨th,rfl,⟨_,hqh⟩,?_⟩
          intro acc na ka
          refine comp_dts es zs (fun d=>!Mt.numD d) (fun σ=>∃o,σ = [o]) (by omega) na ⟨none,rfl⟩ hqh hah ?_ ?_
          ·rintro v d σc H2 R S hm hv sm ⟨o,rfl⟩ hR hS
           walk_at"rd"
           refine⟨M,v,d,rfl,hv,?_⟩
           refine rd_bl' ?_
           cases hnd:Mt.numD d with
           | false =>
            refine rd_iteT ?_
            walk_at"rd"
            exact hR (by rw[hnd];rfl) _ ⟨_,rfl⟩
           | true =>
            refine rd_iteF ?_
            exact hS (by rw[hnd];rfl) _ ⟨_,rfl⟩
          ·intro H2 ws s2 ha dw
           walk_at"rq"
           refine⟨sz (by simp),fun l3 H3 n3 s3 g3=>?_⟩
           have na3:acc≠l3:=ne_of_none ha n3
           have noneS:Mt.rdV (othV (vw4 gs) line one (apD r)) line fork en one (Mt.needD r) (.tuple [.int l,.int pl,.tuple es])=false→∀H',Same H H'→Q (.bl false) H':=fun z H' s'=>by
            have:=k H' s'
            rw[z]at this
            exact this
           have s23:=s2.trans s3
           refine rd_neD (N:=[]) (d:=.list (es.filter fun d=>!Mt.numD d)) (e:=.list []) (.lst (SqL.of (s3 _ _ ha)) (by simp) ((dw.sub (N':=[]) (by simp)).ext (Ext.same s23))) (.lst (SqL.of g3) (by simp) .nil) (by
            unfold SeqAt.shaped
            rw[Bool.and_eq_true,decide_eq_true_eq]
            refine⟨by simp only[PyData.canLay0];exact can_filter _ cl,?_⟩
            have:=depth_filter (fun d=>!Mt.numD d) (ds:=es)
            simp only[PyData.depth]
            omega) (by decide +kernel) ?_
           rw[eqv_empty]
           cases hn:es.all Mt.numD with
           | false =>
            have e0:(es.filter fun d=>!Mt.numD d).isEmpty=false:=by
             cases hf:es.filter fun d=>!Mt.numD d with
             | cons a r=>rfl
             | nil =>
              have:es.all Mt.numD=true:=List.all_eq_true.mpr fun d hd=>by
               have:=List.filter_eq_nil_iff.mp hf d hd
               simpa using this
              rw[hn]at this;cases this
            rw[e0]
            refine rd_bl' ?_
            refine rd_iteT ?_
            walk_at"rq"
            exact noneS (by rw[rv,Mt.risD_t,hn];rfl) _ s23
           | true =>
            have e0:(es.filter fun d=>!Mt.numD d) = []:=List.filter_eq_nil_iff.mpr fun d hd=>by
             have:=List.all_eq_true.mp hn d hd
             simp[this]
            rw[e0]
            refine rd_bl' ?_
            refine rd_iteF ?_
            have en':=Mt.nums_int hn
            rw[Mt.risD_t,hn,Bool.true_and]at rv
            generalize hns:es.map Mt.iv=ns at en' rv
            have eit:(Mt.itemsD (.tuple es)).map Mt.iv=ns:=hns
            rw[eit]at rv
            subst en'
            obtain rfl:=dt_ints hah
            have s03:=s23
            walk_at"rq"
            walk_at"rq"
            have rv':Mt.rdV (othV (vw4 gs) line one (apD r)) line fork en one (Mt.needD r) (.tuple [.int l,.int pl,.tuple (ns.map PyData.int)])=(Mt.risL ns && Mt.rdL (othV (vw4 gs) line one (apD r)) one (Mt.needD r) pl ns):=rv
            clear rv
            have okE:=fun x=>ok_have G.vnd (line:=line) (one:=one) (pl:=pl) (x:=x) (ap:=apD r) hpl
            have hvr:=fun x hx=>have_rg oks (line:=line) (pl:=pl) (ap:=apD r) (x:=x) hx
            refine⟨e,gs,[],.ref rt,r,line,rfl,G.same s03,by omega,hd.ext (Ext.same s03),hw,fun l4 ws4 H4 n4 g4 d4 s4=>?_⟩
            have s04:=s03.trans s4
            have nll:(numV (vw4 gs) line (apD r)).length<64:=by have:=num_len (vw4 gs) line (apD r);simp only[vw4,List.length_map]at this ⊢;omega
            unfold haveV at okE hvr
            generalize hnv:numV (vw4 gs) line (apD r)=nv at d4 nll okE hvr
            refine⟨l4,rfl,⟨_,SqL.of g4⟩,?_⟩
            intro ac5 na5 ka5
            refine comp_pairsL nv ws4 (fun p=>decide (p.2 ≥ pl)) (·.1) (fun σ=>∃o1 o2,σ = [o1,o2,some (.ref t1)]) (by omega) na5 ⟨none,none,rfl⟩ g4 d4 ?_ ?_
            ·rintro q b σc H5 R S hm hb sm ⟨o1,o2,rfl⟩ hR hS
             have hq5:=(s04.trans sm).tupS hq
             walk_at"rd"
             refine rd_ite2 (fun c2=>?_) (fun c2=>?_)
             ·walk_at"rd"
              exact hR c2 _ ⟨_,_,rfl⟩
             ·exact hS c2 _ ⟨_,_,rfl⟩
            ·intro H5 s5 g5
             generalize hhv:(nv.filter fun p=>decide (p.2 ≥ pl)).map (·.1)=hv at g5 okE hvr
             have s05:=s04.trans s5
             walk_at"rq"
             walk_at"rq"
             refine rd_ixT (s05.tupS hq) (atI_nat (j:=2) rfl) ?_
             walk_at"rq"
             have hqh5:=s05.tupS hqh
             refine⟨th,rfl,⟨_,hqh5⟩,?_⟩
             intro ac6 na6 ka6
             have nlen:ns.length≤200000:=by simpa using wl
             have bad:∀H',Same H H'→Mt.rdL (othV (vw4 gs) line one (apD r)) one (Mt.needD r) pl ns=false→Q (.bl false) H':=fun H' s' z=>noneS (by rw[rv',z,Bool.and_false]) H' s'
             refine comp_dts (ns.map PyData.int) (ns.map V.int) (fun d=>!decide (Mt.iv d=one) && !decide (Mt.iv d∈hv)) (fun σ=>∃o,σ = [o,some (.int one),some (.ref ac5)]) (by rw[List.length_map];omega) na6 ⟨none,rfl⟩ hqh5 (Mt.dtInts (K:=K) (N:=[]) (H:=H5) ns) ?_ ?_
             ·rintro v d σc H6 R S hm hvd sm ⟨o,rfl⟩ hR hS
              obtain⟨z,hz,rfl⟩:=List.mem_map.mp hm
              obtain rfl:=dt_int hvd
              have g6:=sm _ _ g5
              have hR':(!decide (z=one) && !decide (z∈hv))=true→∀ σ2,(∃o,σ2 = [o,some (.int one),some (.ref ac5)])→R σ2 (.int z) H6:=hR
              have hS':(!decide (z=one) && !decide (z∈hv))=false→∀ σ2,(∃o,σ2 = [o,some (.int one),some (.ref ac5)])→S σ2 H6:=hS
              walk_at"rd"
              have ez:(!decide (V.int z=V.int one)) = !decide (z=one):=by simp
              rw[ez]
              cases c1:decide (z=one)with
              | true =>
               refine rd_iteF ?_
               exact hS' (by rw[c1];rfl) _ ⟨_,rfl⟩
              | false =>
               refine rd_iteT ?_
               walk_at"rd"
               refine rd_notInL (SqL.of g6) rfl (flat_ints _) ?_
               rw[inV_ints]
               refine rd_bl' ?_
               cases c2:decide (z∈hv)with
               | true =>
                refine rd_iteF ?_
                exact hS' (by rw[c1,c2];rfl) _ ⟨_,rfl⟩
               | false =>
                refine rd_iteT ?_
                walk_at"rd"
                exact hR' (by rw[c1,c2];rfl) _ ⟨_,rfl⟩
             ·intro H6 ws6 s6 g6 dw6
              walk_at"rq"
              refine⟨sz (by simp),fun l7 H7 n7 s7 g7=>?_⟩
              have s07:=s05.trans (s6.trans s7)
              have cl6:PyData.canLayAll0 (ns.map PyData.int)=true:=cl
              refine rd_neD (N:=[]) (d:=.list ((ns.map PyData.int).filter fun d=>!decide (Mt.iv d=one) && !decide (Mt.iv d∈hv))) (e:=.list []) (.lst (SqL.of (s7 _ _ g6)) (by simp) (dw6.ext (Ext.same (s6.trans s7)))) (.lst (SqL.of g7) (by simp) .nil) (by
               unfold SeqAt.shaped
               rw[Bool.and_eq_true,decide_eq_true_eq]
               refine⟨by simp only[PyData.canLay0];exact can_filter _ cl6,?_⟩
               have:=depth_filter (fun d=>!decide (Mt.iv d=one) && !decide (Mt.iv d∈hv)) (ds:=ns.map PyData.int)
               simp only[PyData.depth]
               omega) (by decide +kernel) ?_
              rw[eqv_empty]
              refine rd_bl' ?_
              cases he:((ns.map PyData.int).filter fun d=>!decide (Mt.iv d=one) && !decide (Mt.iv d∈hv)).isEmpty with
              | false =>
               refine rd_iteT ?_
               refine rd_iteT ?_
               walk_at"rq"
               exact bad _ s07 (rdL_bad okE he)
              | true =>
               refine rd_iteF ?_
               walk_at"rq"
               refine rd_ixT (s07.tupS hq) (atI_nat (j:=2) rfl) ?_
               walk_at"rq"
               refine rd_notInT (s07.tupS hqh) rfl (flat_ints _) ?_
               rw[inV_ints]
               refine⟨_,rfl,?_⟩
               cases c1:decide (one∈ns)with
               | false =>
                refine rd_iteT ?_
                walk_at"rq"
                exact bad _ s07 (by unfold Mt.rdL;rw[c1];rfl)
               | true =>
                obtain⟨erd,mem⟩:=rdL_good (nd:=Mt.needD r) okE c1 he
                have rg8:∀x∈ns,0≤x∧x<8:=fun x hx=>by
                 rcases mem x hx with rfl |h
                 ·exact⟨q0,q8⟩
                 ·exact hvr x h
                have h8:∀k∈ns.map Int.toNat,k<8:=fun k hk=>by
                 obtain⟨x,hx,rfl⟩:=List.mem_map.mp hk
                 have:=rg8 x hx
                 omega
                have enat:(ns.map Int.toNat).map (fun (k:Nat)=>V.int (k:Int))=ns.map V.int:=by
                 rw[List.map_map]
                 refine List.map_congr_left fun x hx=>?_
                 have:=(rg8 x hx).1
                 show V.int ((x.toNat:Nat):Int)=V.int x
                 congr 1
                 omega
                obtain⟨rt',xsr,ert,hrq,hix,hxl⟩:=Mt.rule_seq hd hw
                cases ert
                refine rd_iteF ?_
                walk_at"rq"
                refine⟨sz (by simp),fun t8 H8 n8 s8 g8=>?_⟩
                walk_at"rq"
                refine rd_catG ((s07.trans s8).tupS hrq) (SqT.of g8) (sz (by simp;omega)) fun r9 H9 hr9 s9 g9=>?_
                walk_at"rq"
                refine rd_ixT g9 (atI_nat (j:=1) hix) ?_
                have s09:=s07.trans (s8.trans s9)
                walk_at"rq"
                refine rd_ixT (s09.tupS hq) (atI_nat (j:=2) rfl) ?_
                have hqh9:=s09.tupS hqh
                walk_at"rq"
                intro l10 H10 n10 s10 g10
                have s010:=s09.trans s10
                walk_at"rq"
                refine rd_ixT (s010.tupS hq) (atI_nat (j:=2) rfl) ?_
                walk_at"rq"
                refine⟨th,ns.map Int.toNat,rfl,by rw[enat];exact s010.tupS hqh,h8,fun l11 H11 n11 s11 g11=>?_⟩
                have s011:=s010.trans s11
                have e11:(plc (orm (ns.map Int.toNat) 0)).map (fun (k:Nat)=>V.int (k:Int))=((plc (orm (ns.map Int.toNat) 0)).map fun (k:Nat)=>(k:Int)).map V.int:=by rw[List.map_map];rfl
                rw[e11]at g11
                refine rd_eqD (N:=[]) (dtL (s11 _ _ g10) (by simp)) (dtL g11 (by simp)) (shapedL _) (shapedL _) ?_
                rw[eqv_lists,set_same rg8]
                refine⟨_,rfl,?_⟩
                have fin:∀H',Same H H'→Q (.bl (Mt.risL ns && decide (Mt.needD r≤(ns.length:Int)))) H':=fun H' s'=>by
                 have:=k H' s'
                 have e2:=rv'
                 rw[erd]at e2
                 rw[e2]at this
                 exact this
                cases c2:Mt.risL ns with
                | false =>
                 rw[c2]at fin
                 refine rd_iteF ?_
                 exact fin _ s011
                | true =>
                 rw[c2,Bool.true_and]at fin
                 refine rd_iteT ?_
                 walk_at"rq"
                 refine rd_ixT (s011.tupS hq) (atI_nat (j:=2) rfl) ?_
                 walk_at"rq"
                 refine rd_lenT (s011.tupS hqh) ?_
                 walk_at"rq"
                 rw[List.length_map]
                 have ew:(Mt.needD r - 1+1)=Mt.needD r:=by omega
                 rw[ew]
                 exact fin _ s011
   ·rw[show decide (V.int (xs.length:Int)=V.int 3)=false from decide_eq_false (fun z=>h3 (by injection z with z;omega))]
    refine rd_iteT (rd_iteT ?_)
    walk_at"rq"
    have:=k H (Same.refl _)
    rw[Mt.rdV_pap (Mt.papD_len (fun z=>h3 (by rw[hr.length];exact z)))]at this
    exact this
noncomputable def sp_law_made_up (K:PySem.W.Frag):Sp:=fun vs H Q _=>∃(st c r:Addr)(m:Nat)(e t rt:Addr)(gs:List Ent)(line fork en one:Int),vs = [.ref st,.ref e,.ref t]∧Dk H st c r m∧m<800000000∧PB H e gs∧gs.length<63∧(∀q∈vw4 gs,okS q)∧H t=some (.tup [.int line,.int fork,.int en,.int one,.ref rt])∧RuT H rt∧0≤fork∧fork≤1000000∧0≤en∧en≤1000000∧0≤one∧one<8 ∧
 ∀(q hp:Addr) (pl:Int) (hs:List Int) (H':Hp),SqT K H' q [.int line,.int pl,.ref hp]→SqT K H' hp (hs.map V.int)→q ∉ [st,c,r]→hp ∉ [st,c,r]→0≤pl→pl≤3000000→hs.length<70→1≤hs.length→(∀h∈hs,0≤h∧h<8)→Dk H' st c r (m+70)→Ext [st,r] H H'→Q (.ref q) H'
abbrev glaw_made_up (P:Program)(w:World)(K:PySem.W.Frag)(mg:Str→Option Value)(base:Heap)(a:Adr):Prop:=FnOk P w K mg base CX0 2 a.f_law_made_up a.d_law_made_up ["_law_deck_here","_law_model","_law_asked_here"] (sp_law_made_up K)
theorem ok_law_made_up (T:Txt P K mg a)(Z3:glaw_numbers P w K mg base a)(Z0:glaw_take P w K mg base a):glaw_made_up P w K mg base a:=by
 refine T.F_law_made_up.ok sc_law_made_up (fun vs H Q E h=>?_) (fun cdv A outer s H vs Q E hr h=>?_)
 ·obtain⟨st,c,r,m,e,t,rt,gs,line,fork,en,one,rfl,_⟩:=h;rfl
 ·obtain⟨st,c,r,m,e,t,rt,gs,line,fork,en,one,rfl,S,hm,G,hl,oks,ht,hru,hf,hf1,e0,e1,q0,q8,k⟩:=h
  refine exW ⟨_,(qss_cons (qs_asg (pv 2) (pg_tup (n:=5) rfl (pgs_cons (pg_name (i:=3) sc_law_made_up.nd rfl (Or.inl rfl)) (pgs_cons (pg_name (i:=4) sc_law_made_up.nd rfl (Or.inl rfl)) (pgs_cons (pg_name (i:=5) sc_law_made_up.nd rfl (Or.inl rfl)) (pgs_cons (pg_name (i:=6) sc_law_made_up.nd rfl (Or.inr rfl)) (pgs_cons (pg_name (i:=7) sc_law_made_up.nd rfl (Or.inl rfl)) pgs_nil)))))))
   (qss_cons (qs_set (i:=8) sc_law_made_up.nd rfl (Or.inr rfl) (pe_op op_add (pe_op op_add (pv 4) pe_int) (qe_call Z0 (hr.mono (by decide)) (by rfl) T.m__law_take T.k__law_take T.bd__law_take .nil pass0 (qa (pv 0) (qa (qe_callB (cn_max (by rfl)) (by rfl) T.b_max (by decide +kernel) (qa pe_int (qa (pe_op op_sub (pv 5) (pv 4)) qa_nil))) qa_nil)))))
   (qss_cons (by
    refine' qs_setComp (i:=9) (NC:=["_law_other","_law_number","_law_one","_law_place"]) (fr:=[none,none,some 6,some 8]) sc_law_made_up.nd rfl (Or.inl rfl) ?B13 rfl ?hi13 ?hg13 ?ht13 ?he13 ?hsw13 (by intro _;rfl) (by first |exact Or.inl rfl |exact Or.inr rfl)
    case B13=>exact⟨rfl,rfl,by decide +kernel,by decide +kernel,rfl,⟨trivial,trivial,⟨rfl,rfl,Or.inl rfl⟩,⟨rfl,rfl,Or.inl rfl⟩,trivial⟩⟩
    case hi13=>exact(pi_list (qe_call Z3 (hr.mono (by decide)) (by rfl) T.m__law_numbers T.k__law_numbers T.bd__law_numbers .nil pass0 (qa (pv 1) (qa (pv 3) (qa (pv 7) qa_nil)))))
    case hg13=>intro _ _ _;exact(pg_tupK (K:=K) (n:=2) (by rfl) rfl (pgs_cons (pg_name (i:=0) (show (["_law_other","_law_number","_law_one","_law_place"]:List Str).Nodup by decide +kernel) rfl (Or.inl rfl)) (pgs_cons (pg_name (i:=1) (show (["_law_other","_law_number","_law_one","_law_place"]:List Str).Nodup by decide +kernel) rfl (Or.inl rfl)) pgs_nil)))
    case ht13=>intro _ _ _;exact(pf_one (pw_and (pt_cmpR op_ge (pv 1) (pv 3) (nomark _)) (pw_and1 (pt_cmpR op_ne (pv 0) (pv 2) (nomark _)))).pt)
    case he13=>intro _ _ _;exact(pv 0)
    case hsw13=>rfl)
   (qss_cons (by
    refine' qs_setComp (i:=10) (NC:=["_law_other","_law_deck_here"]) (fr:=[none,some 0]) sc_law_made_up.nd rfl (Or.inl rfl) ?B14 rfl ?hi14 ?hg14 ?ht14 ?he14 ?hsw14 (by intro _;rfl) (by first |exact Or.inl rfl |exact Or.inr rfl)
    case B14=>exact⟨rfl,rfl,by decide +kernel,by decide +kernel,rfl,⟨trivial,⟨rfl,rfl,Or.inl rfl⟩,trivial⟩⟩
    case hi14=>exact(pi_list (pv 9))
    case hg14=>intro _ _ _;exact(pg_name (i:=0) (show (["_law_other","_law_deck_here"]:List Str).Nodup by decide +kernel) rfl (Or.inl rfl))
    case ht14=>intro _ _ _;exact(pf_one (pt_cmpR op_gt (qe_call Z0 (hr.mono (by decide)) (by rfl) T.m__law_take T.k__law_take T.bd__law_take .nil pass0 (qa (pv 1) (qa pe_int qa_nil))) pe_int (nomark _)))
    case he14=>intro _ _ _;exact(pv 0)
    case hsw14=>rfl)
   (qss_one (qs_ret (qe_tupA (qa (pv 3) (qa (pv 8) (qa (qe_callTy (cn_tupleA (K:=K) (by rfl)) (by rfl) T.b_tuple (by decide +kernel) (qa (qe_callB cn_sort (by rfl) T.b_sorted (by decide +kernel) (qa (pe_op op_catA (pv 10) (qe_lstA (qa (pv 6) qa_nil))) qa_nil)) qa_nil)) qa_nil)))))))))),?_⟩
  try dsimp only[cxOf]
  walk_at"rq"
  refine⟨st,c,r,_,_,rfl,S,by omega,by split <;> omega,by split <;> omega,fun v1 H1 a1 b1 S1 x1=>?_⟩
  have nl1:=nl_dk S x1
  have G1:=G.nl nl1
  obtain⟨rr,hd1,hw,_⟩:=(hru.nl nl1).dt (K:=K)
  have pl0:0≤fork+1+v1:=by omega
  have pl1:fork+1+v1≤3000000:=by split at b1 <;> omega
  walk_at"rq"
  refine⟨e,gs,[],.ref rt,rr,line,rfl,G1,by omega,hd1,hw,fun l4 ws4 H4 n4 g4 d4 s4=>?_⟩
  have S4:=S1.same s4
  have nll:(numV (vw4 gs) line (apD rr)).length<63:=by have:=num_len (vw4 gs) line (apD rr);simp only[vw4,List.length_map]at this ⊢;omega
  have nrg:=fun p hp=>num_rg oks (line:=line) (ap:=apD rr) (p:=p) hp
  generalize numV (vw4 gs) line (apD rr)=nv at d4 nll nrg
  generalize fork+1+v1=pl at pl0 pl1 ⊢
  walk_at"rq"
  refine⟨l4,rfl,⟨_,SqL.of g4⟩,?_⟩
  intro ac5 na5 ka5
  refine comp_pairsL nv ws4 (fun p=>decide (p.2 ≥ pl) && decide (p.1≠one)) (·.1) (fun σ=>∃o1 o2,σ = [o1,o2,some (.int one),some (.int pl)]) (by omega) na5 ⟨none,none,rfl⟩ g4 d4 ?_ ?_
  ·rintro q b σc H5 R S hm hb sm ⟨o1,o2,rfl⟩ hR hS
   walk_at"rd"
   cases c1:decide (q.2 ≥ pl)with
   | false =>
    walk_at"rd"
    exact hS (by simp only[c1,Bool.false_and]) _ ⟨_,_,rfl⟩
   | true =>
    walk_at"rd"
    have e2:(!decide (V.int q.1=V.int one))=decide (q.1≠one):=by simp
    rw[e2]
    refine rd_ite2 (fun c2=>?_) (fun c2=>?_)
    ·walk_at"rd"
     exact hR (by simp only[c1,c2,Bool.and_self]) _ ⟨_,_,rfl⟩
    ·exact hS (by simp only[c1,c2,Bool.and_false]) _ ⟨_,_,rfl⟩
  ·intro H5 s5 g5
   have hvl:((nv.filter fun p:Int×Int=>decide (p.2 ≥ pl) && decide (p.1≠one)).map (·.1)).length<63:=by
    rw[List.length_map]
    exact Nat.lt_of_le_of_lt (List.length_filter_le _ _) nll
   have hvr:∀x∈(nv.filter fun p:Int×Int=>decide (p.2 ≥ pl) && decide (p.1≠one)).map (·.1),0≤x∧x<8:=fun x hx=>by
    obtain⟨p,hp,rfl⟩:=List.mem_map.mp hx
    exact nrg p (List.mem_filter.mp hp).1
   generalize (nv.filter fun p:Int×Int=>decide (p.2 ≥ pl) && decide (p.1≠one)).map (·.1)=hv at g5 hvl hvr
   have S5:=S4.same s5
   have da5:ac5 ∉ [st,c,r]:=S4.new na5
   have x15:Ext [st,r] H H5:=x1.trans (Ext.same (s4.trans s5))
   walk_at"rq"
   refine⟨ac5,rfl,⟨_,SqL.of g5⟩,?_⟩
   intro ac6 na6 ka6
   have da6:ac6 ∉ [st,c,r]:=S5.new na6
   refine comp_byF hv.length (small1000 (by omega)) (fun i vs σc H'=>∃(o:Option V) (so:List Int),σc = [o,some (.ref st)]∧vs=so.map V.int∧(∀x∈so,0≤x∧x<8)∧so.length≤i∧Dk H' st c r (m+1+i)∧Ext [st,r] H5 H') ?_ ?_ ?_
   ·exact⟨none,[],rfl,rfl,by simp,by simp,S5.same (Same.upd na6),Ext.new na6⟩
   ·rintro i vs σc H' hi hlw ha ⟨o,so,rfl,rfl,rg,sl,S',x'⟩
    have hL:SqL K H' ac5 (hv.map V.int):=SqL.of (x' _ _ g5 (nin_pr da5))
    have fi:(hv.map V.int)[i]? = some (.int hv[i]):=by simp[hi]
    refine⟨⟨_,_,hL,fi⟩,?_⟩
    rintro x H6 ⟨hH6,hx⟩ R S2 hR hS
    subst hH6
    have ex:=hx _ hL
    rw[fi]at ex;cases ex
    walk_at"rd"
    refine⟨st,c,r,_,4,rfl,S',by omega,by decide,by decide,fun v7 H7 a7 b7 S7 x7=>?_⟩
    have ha7:=x7 _ _ ha (nin_pr da6)
    walk_at"rd"
    refine rd_ite2 (fun hc=>?_) (fun hc=>?_)
    ·walk_at"rd"
     refine hR _ _ _ ha7 ⟨_,so ++ [hv[i]],rfl,by rw[List.map_append];rfl,fun x hx=>?_,by rw[List.length_append];simp;omega,S7.upd da6,(x'.trans x7).upd2 na6⟩
     rcases List.mem_append.mp hx with h |h
     ·exact rg x h
     ·have h:x=hv[i]:=by simpa using h
      rw[h]
      exact hvr _ (List.getElem_mem hi)
    ·exact hS _ _ ha7 ⟨_,so,rfl,rfl,rg,by omega,S7,x'.trans x7⟩
   ·rintro vs σc H' hlw ha ⟨o,so,rfl,rfl,rg,sl,S',x'⟩
    refine⟨⟨_,SqL.of (x' _ _ g5 (nin_pr da5)),by simp⟩,?_⟩
    walk_at"rq"
    refine⟨sz (by simp),fun l8 H8 n8 s8 g8=>?_⟩
    have S8:=S'.same s8
    refine rd_catA (s8 _ _ ha) g8 (sz (by simp;omega)) fun l9 H9 n9 s9 g9=>?_
    have S9:=S8.same s9
    have e9:so.map V.int ++ [V.int one]=(so ++ [one]).map V.int:=by rw[List.map_append];rfl
    rw[e9]at g9
    walk_at"rq"
    refine rd_sort (SqL.of g9) (by rw[List.length_append];simp;omega) fun l10 ms n10 hp hs=>?_
    have s10:Same H9 (upd H9 l10 (.lst (ms.map V.int))):=Same.upd n10
    have g10:upd H9 l10 (.lst (ms.map V.int)) l10=some (.lst (ms.map V.int)):=upd_same
    generalize upd H9 l10 (.lst (ms.map V.int))=H10 at s10 g10 ⊢
    have S10:=S9.same s10
    walk_at"rq"
    intro q11 H11 hq11 s11 g11
    have S11:=S10.same s11
    have d11:q11 ∉ [st,c,r]:=by
     rcases hq11 with rfl |h
     ·exact S9.new n10
     ·exact S10.new h
    walk_at"rq"
    refine⟨sz (by simp),fun t12 H12 n12 s12 g12=>?_⟩
    have ml:=hp.length_eq
    rw[List.length_append,List.length_singleton]at ml
    refine k t12 q11 pl ms H12 (SqT.of g12) (s12.tupS g11) (S11.new n12) d11 pl0 pl1 (by omega) (by omega) (fun x hx=>?_) ((S11.same s12).mono (by omega)) (x15.trans (x'.trans (Ext.same (s8.trans (s9.trans (s10.trans (s11.trans s12)))))))
    rcases List.mem_append.mp (hp.mem_iff.mp hx)with h |h
    ·exact rg x h
    ·have h:x=one:=by simpa using h
     rw[h];exact⟨q0,q8⟩
noncomputable def sp_law_bent_houses (K:PySem.W.Frag):Sp:=fun vs H Q _=>∃(st c r:Addr)(m:Nat)(hp:Addr)(hs:List Int),vs = [.ref st,.ref hp]∧Dk H st c r m∧m<800000000∧SqT K H hp (hs.map V.int)∧hp ∉ [st,c,r]∧hs.length<70∧1≤hs.length∧(∀h∈hs,0≤h∧h<8) ∧
 ∀(y:V) (d:PyData) (H':Hp),Dt K [st,c,r] H' y d→Mt.Itm 22000 2 d→Dk H' st c r (m+10)→Ext [st,r] H H'→Q y H'
abbrev glaw_bent_houses (P:Program)(w:World)(K:PySem.W.Frag)(mg:Str→Option Value)(base:Heap)(a:Adr):Prop:=FnOk P w K mg base CX0 2 a.f_law_bent_houses a.d_law_bent_houses ["_law_deck_here","_law_houses"] (sp_law_bent_houses K)
theorem ok_law_bent_houses (T:Txt P K mg a)(Z0:glaw_take P w K mg base a):glaw_bent_houses P w K mg base a:=by
 refine T.F_law_bent_houses.ok sc_law_bent_houses (fun vs H Q E h=>?_) (fun cdv A outer s H vs Q E hr h=>?_)
 ·obtain⟨st,c,r,m,hp,hs,rfl,_⟩:=h;rfl
 ·obtain⟨st, c,r,m,hp,hs,rfl,S,hm,hq,nq,hl,hl1,rg,k⟩:=h
  refine exW ⟨_,(qss_cons (qs_set (i:=2) sc_law_bent_houses.nd rfl (Or.inl rfl) (qe_call Z0 (hr.mono (by decide)) (by rfl) T.m__law_take T.k__law_take T.bd__law_take .nil pass0 (qa (pv 0) (qa (qe_callB cn_len (by rfl) T.b_len (by decide +kernel) (qa (pv 1) qa_nil)) qa_nil))))
   (qss_cons (qs_set (i:=3) sc_law_bent_houses.nd rfl (Or.inl rfl) (pe_ix ix_list (qe_lstA (qa pe_int (qa (by exact(pe_un un_neg pe_int)) (qa pe_bl (qa pe_bl (qa pe_non (qa pe_str (qa (by exact(qe_tupA (qa pe_int qa_nil))) (qa (by exact(pe_op op_pow pe_int pe_int)) (qa (by exact(qe_call Z0 (hr.mono (by decide)) (by rfl) T.m__law_take T.k__law_take T.bd__law_take .nil pass0 (qa (pv 0) (qa pe_int qa_nil)))) qa_nil)))))))))) (qe_call Z0 (hr.mono (by decide)) (by rfl) T.m__law_take T.k__law_take T.bd__law_take .nil pass0 (qa (pv 0) (qa pe_int qa_nil))) (fun _ _=>rfl)))
   (qss_cons (qs_setLA (i:=4) sc_law_bent_houses.nd rfl (Or.inl rfl) (qa (by exact(pe_op op_catG (pe_slice sl_tupG (pv 1) po_none (po_some (pv 2))) (pe_slice sl_tupG (pv 1) (po_some (pe_op op_add (pv 2) pe_int)) po_none))) (qa (by exact(pe_op op_catG (pv 1) (pe_slice sl_tupG (pv 1) (po_some (pv 2)) (po_some (pe_op op_add (pv 2) pe_int))))) (qa (by exact(pe_sliceRevT (pv 1) (pe_un un_neg pe_int))) (qa (by exact(qe_callTy (cn_listA (K:=K) (by rfl)) (by rfl) T.b_list (by decide +kernel) (qa (pv 1) qa_nil))) (qa (by exact(qe_tupA qa_nil)) qa_nil))))) (by first |exact Or.inl rfl |exact Or.inr rfl))
   (qss_cons (qs_set (i:=4) sc_law_bent_houses.nd rfl (Or.inl rfl) (pe_op op_catA (pv 4) (qe_lstA (qa (pe_op op_catG (pe_op op_catG (pe_slice sl_tupG (pv 1) po_none (po_some (pv 2))) (qe_tupA (qa (pv 3) qa_nil))) (pe_slice sl_tupG (pv 1) (po_some (pe_op op_add (pv 2) pe_int)) po_none)) (qa pe_non qa_nil)))))
   (qss_cons (qs_if (pt_cmpR op_eq (qe_call Z0 (hr.mono (by decide)) (by rfl) T.m__law_take T.k__law_take T.bd__law_take .nil pass0 (qa (pv 0) (qa pe_int qa_nil))) pe_int (nomark _))
    (qss_one (qs_ret (qe_callTy (cn_tupleA (K:=K) (by rfl)) (by rfl) T.b_tuple (by decide +kernel) (qa (qe_sortSet (by rfl) (by rfl) T.b_sorted (by rfl) T.b_set (qa (pe_op op_catG (pv 1) (qe_tupA (qa (qe_call Z0 (hr.mono (by decide)) (by rfl) T.m__law_take T.k__law_take T.bd__law_take .nil pass0 (qa (pv 0) (qa pe_int qa_nil))) qa_nil))) qa_nil) (by rfl)) qa_nil))))
    qss_nil)
   (qss_one (qs_ret (pe_ix ix_list (pv 4) (qe_call Z0 (hr.mono (by decide)) (by rfl) T.m__law_take T.k__law_take T.bd__law_take .nil pass0 (qa (pv 0) (qa pe_int qa_nil))) (fun _ _=>rfl))))))))),?_⟩
  try dsimp only[cxOf]
  walk_at"rq"
  have hlm:((hs.map V.int).length:Int)=hs.length:=by rw[List.length_map]
  refine⟨st,c,r,_,_,rfl,S,by omega,by omega,by omega,fun v1 H1 a1 b1 S1 x1=>?_⟩
  walk_at"rq"
  refine⟨sz (by simp),fun t2 H2 n2 s2 g2=>?_⟩
  have S2:=S1.same s2
  have dt2:t2 ∉ [st,c,r]:=S1.new n2
  walk_at"rq"
  refine⟨st,c,r,_,8,rfl,S2,by omega,by decide,by decide,fun v3 H3 a3 b3 S3 x3=>?_⟩
  walk_at"rq"
  refine⟨sz (by simp),fun l4 H4 n4 s4 g4=>?_⟩
  have S4:=S3.same s4
  have dl4:l4 ∉ [st,c,r]:=S3.new n4
  walk_at"rq"
  refine⟨st,c,r,_,9,rfl,S4,by omega,by decide,by decide,fun v5 H5 a5 b5 S5 x5=>?_⟩
  have p40:(10:Int) ^ (40:Int).toNat=10000000000000000000000000000000000000000:=by decide +kernel
  obtain⟨j5,rfl⟩:=Int.eq_ofNat_of_zero_le a5
  have g45:=x5 _ _ g4 (nin_pr dl4)
  have g25:=x5 _ _ (s4 _ _ (x3 _ _ g2 (nin_pr dt2))) (nin_pr dt2)
  obtain⟨mv,md,em,hmd,him⟩:∃(mv:V) (md:PyData),([.int 8,.int (-1),.bl true,.bl false,.non,.str "0",.ref t2,.int (10 ^ (40:Int).toNat),.int v3]:List V)[j5]? = some mv∧Dt K [st,c,r] H5 mv md∧Mt.Itm 141 1 md:=by
   have hj:j5<9:=by omega
   match j5,hj with
   | 0,_=>exact⟨_,_,rfl,.int _,(Mt.itm_int (by decide)).mono (by decide) (by decide)⟩
   | 1,_=>exact⟨_,_,rfl,.int _,(Mt.itm_int (by decide)).mono (by decide) (by decide)⟩
   | 2,_=>exact⟨_,_,rfl,.bl _,(Mt.itm_bool _).mono (by decide) (by decide)⟩
   | 3,_=>exact⟨_,_,rfl,.bl _,(Mt.itm_bool _).mono (by decide) (by decide)⟩
   | 4,_=>exact⟨_,_,rfl,.non,Mt.itm_none.mono (by decide) (by decide)⟩
   | 5,_=>exact⟨_,_,rfl,.str _,(Mt.itm_str (by unfold Mt.cpsOk;decide +kernel) (by decide +kernel)).mono (by decide) (by decide)⟩
   | 6,_=>exact⟨_,_,rfl,.tup (SqT.of g25) dt2 (.cons (.int 0) .nil),Mt.itm_tuple (w:=140) (k:=0) (n:=1) (fun d hd=>by simp only[List.mem_cons,List.not_mem_nil,or_false]at hd;subst hd;exact Mt.itm_int (by decide)) (by simp)⟩
   | 7,_=>exact⟨_,_,rfl,.int _,(Mt.itm_int (by rw[p40];decide)).mono (by decide) (by decide)⟩
   | 8,_=>exact⟨_,_,rfl,.int _,(Mt.itm_int (by omega)).mono (by decide) (by decide)⟩
  refine rd_ixL (SqL.of g45) (atI_nat em) ?_
  obtain⟨j1,rfl⟩:=Int.eq_ofNat_of_zero_le a1
  have hj1:j1<hs.length:=by omega
  have x05:Ext [st,r] H H5:=x1.trans ((Ext.same s2).trans (x3.trans ((Ext.same s4).trans x5)))
  have hq5:=x05.tup hq (nin_pr nq)
  have hi:∀d∈hs.map PyData.int,Mt.Itm 141 1 d:=fun d hd=>by
   obtain⟨z,hz,rfl⟩:=List.mem_map.mp hd
   have:=rg z hz
   exact(Mt.itm_int (by omega)).mono (by decide) (by decide)
  walk_at"rq"
  have hD:∀ {H':Hp},DtAll K [st,c,r] H' (hs.map V.int) (hs.map PyData.int):=Mt.dtInts _
  have S6':=S5
  intro q6 H6 hq6 s6 g6
  have S6:=S5.same s6
  have dq6:q6 ∉ [st,c,r]:=by
   rcases hq6 with rfl |h
   ·exact nq
   ·exact S5.new h
  have h6:=s6.tupS hq5
  walk_at"rq"
  intro q7 H7 hq7 s7 g7
  have S7:=S6.same s7
  have dq7:q7 ∉ [st,c,r]:=by
   rcases hq7 with rfl |h
   ·exact nq
   ·exact S6.new h
  refine rd_catG (s7.tupS g6) g7 (sz (by simp only[cutV,List.length_take,List.length_drop,List.length_map];omega)) fun r8 H8 hr8 s8 g8=>?_
  have S8:=S7.same s8
  have dr8:r8 ∉ [st,c,r]:=by
   rcases hr8 with rfl |rfl |h
   ·exact dq6
   ·exact dq7
   ·exact S7.new h
  have h8:=(s7.trans s8).tupS h6
  walk_at"rq"
  intro q9 H9 hq9 s9 g9
  have S9:=S8.same s9
  have dq9:q9 ∉ [st,c,r]:=by
   rcases hq9 with rfl |h
   ·exact nq
   ·exact S8.new h
  refine rd_catG (s9.tupS h8) g9 (sz (by simp only[cutV,List.length_take,List.length_drop,List.length_map];omega)) fun r10 H10 hr10 s10 g10=>?_
  have S10:=S9.same s10
  have dr10:r10 ∉ [st,c,r]:=by
   rcases hr10 with rfl |rfl |h
   ·exact nq
   ·exact dq9
   ·exact S9.new h
  have h10:=(s9.trans s10).tupS h8
  walk_at"rq"
  refine⟨hp,hs.map V.int,rfl,?_⟩
  walk_at"rq"
  refine⟨rfl,h10,fun p11 H11 n11 s11 g11=>?_⟩
  have S11:=S10.same s11
  have dp11:p11 ∉ [st,c,r]:=S10.new n11
  have h11:=s11.tupS h10
  walk_at"rq"
  intro l12 H12 n12 s12 g12
  have S12:=S11.same s12
  have dl12:l12 ∉ [st,c,r]:=S11.new n12
  walk_at"rq"
  refine⟨sz (by simp),fun t13 H13 n13 s13 g13=>?_⟩
  have S13:=S12.same s13
  have dt13:t13 ∉ [st,c,r]:=S12.new n13
  walk_at"rq"
  refine⟨sz (by simp),fun l14 H14 n14 s14 g14=>?_⟩
  have S14:=S13.same s14
  have dl14:l14 ∉ [st,c,r]:=S13.new n14
  have h14:=(s12.trans (s13.trans s14)).tupS h11
  walk_at"rq"
  intro q15 H15 hq15 s15 g15
  have S15:=S14.same s15
  have dq15:q15 ∉ [st,c,r]:=by
   rcases hq15 with rfl |h
   ·exact nq
   ·exact S14.new h
  have h15:=s15.tupS h14
  walk_at"rq"
  refine⟨sz (by simp),fun t16 H16 n16 s16 g16=>?_⟩
  have S16:=S15.same s16
  have dt16:t16 ∉ [st,c,r]:=S15.new n16
  refine rd_catG (s16.tupS g15) (SqT.of g16) (sz (by simp only[cutV,List.length_take,List.length_drop,List.length_map,List.length_singleton];omega)) fun r17 H17 hr17 s17 g17=>?_
  have S17:=S16.same s17
  have dr17:r17 ∉ [st,c,r]:=by
   rcases hr17 with rfl |rfl |h
   ·exact dq15
   ·exact dt16
   ·exact S16.new h
  have h17:=(s16.trans s17).tupS h15
  walk_at"rq"
  intro q18 H18 hq18 s18 g18
  have S18:=S17.same s18
  have dq18:q18 ∉ [st,c,r]:=by
   rcases hq18 with rfl |h
   ·exact nq
   ·exact S17.new h
  refine rd_catG (s18.tupS g17) g18 (sz (by simp only[cutV,List.length_append,List.length_take,List.length_drop,List.length_map,List.length_singleton];omega)) fun r19 H19 hr19 s19 g19=>?_
  have S19:=S18.same s19
  have dr19:r19 ∉ [st,c,r]:=by
   rcases hr19 with rfl |rfl |h
   ·exact dr17
   ·exact dq18
   ·exact S18.new h
  walk_at"rq"
  refine⟨sz (by simp),fun l20 H20 n20 s20 g20=>?_⟩
  have s1420:Same H14 H20:=s15.trans (s16.trans (s17.trans (s18.trans (s19.trans s20))))
  have S20:=S19.same s20
  refine rd_catA (s1420 _ _ g14) g20 (sz (by simp)) fun l21 H21 n21 s21 g21=>?_
  have S21:=S20.same s21
  have dl21:l21 ∉ [st,c,r]:=S20.new n21
  have h21:=(s1420.trans s21).tupS h14
  have x521:Ext [st,r] H5 H21:=Ext.same (s6.trans (s7.trans (s8.trans (s9.trans (s10.trans (s11.trans (s12.trans (s13.trans (s14.trans (s1420.trans s21))))))))))
  walk_at"rq"
  refine⟨st,c,r,_,3,rfl,S21,by omega,by decide,by decide,fun v22 H22 a22 b22 S22 x22=>?_⟩
  walk_at"rq"
  have ei:∀xs:List Int,(xs.map PyData.int).length=xs.length:=fun xs=>List.length_map _
  refine rd_ite2 (fun hc=>?_) (fun hc=>?_)
  ·walk_at"rq"
   refine⟨st,c,r,_,8,rfl,S22,by omega,by decide,by decide,fun v23 H23 a23 b23 S23 x23=>?_⟩
   walk_at"rq"
   refine⟨sz (by simp),fun t24 H24 n24 s24 g24=>?_⟩
   have S24:=S23.same s24
   have h24:=s24.tupS ((x22.trans x23).tup h21 (nin_pr nq))
   refine rd_catG h24 (SqT.of g24) (sz (by simp only[List.length_map,List.length_singleton];omega)) fun r25 H25 hr25 s25 g25'=>?_
   have S25:=S24.same s25
   walk_at"rq"
   have rgk:∀k∈hs.map Int.toNat ++ [v23.toNat],k<8:=fun k hk=>by
    rcases List.mem_append.mp hk with h |h
    ·obtain⟨z,hz,rfl⟩:=List.mem_map.mp h
     have:=rg z hz
     omega
    ·have h:k=v23.toNat:=by simpa using h
     omega
   have ek:hs.map V.int ++ [V.int v23]=(hs.map Int.toNat ++ [v23.toNat]).map fun (k:Nat)=>V.int (k:Int):=by
    rw[List.map_append,List.map_map]
    congr 1
    ·exact List.map_congr_left fun z hz=>by have:=rg z hz;show V.int z=V.int (z.toNat:Int);rw[Int.toNat_of_nonneg this.1]
    ·show [V.int v23] = [V.int (v23.toNat:Int)]
     rw[Int.toNat_of_nonneg a23]
   rw[ek]at g25'
   refine⟨r25,hs.map Int.toNat ++ [v23.toNat],rfl,g25',rgk,fun l26 H26 n26 s26 g26=>?_⟩
   have S26:=S25.same s26
   have pl:=plc_len (orm (hs.map Int.toNat ++ [v23.toNat]) 0)
   have pr:∀z∈plc (orm (hs.map Int.toNat ++ [v23.toNat]) 0),z<8:=fun z hz=>rgk z ((plc_orm rgk).mp hz)
   generalize plc (orm (hs.map Int.toNat ++ [v23.toNat]) 0)=ms at g26 pl pr
   have em:(ms.map fun (k:Nat)=>V.int (k:Int))=(ms.map fun (k:Nat)=>(k:Int)).map V.int:=by rw[List.map_map];rfl
   rw[em]at g26
   walk_at"rq"
   intro q27 H27 hq27 s27 g27
   have S27:=S26.same s27
   have dq27:q27 ∉ [st,c,r]:=by
    rcases hq27 with rfl |h
    ·exact S25.new n26
    ·exact S26.new h
   have:=Mt.itm_tuple (w:=141) (k:=1) (n:=72) (ds:=(ms.map fun (k:Nat)=>(k:Int)).map PyData.int) (fun d hd=>by
    obtain⟨z,hz,rfl⟩:=List.mem_map.mp hd
    obtain⟨y,hy,rfl⟩:=List.mem_map.mp hz
    have:=pr y hy
    exact(Mt.itm_int (by omega)).mono (by decide) (by decide)) (by simp;omega)
   exact k _ _ H27 (.tup g27 dq27 (Mt.dtInts _)) (this.mono (by decide) (by decide)) (S27.mono (by omega)) (x05.trans (x521.trans (x22.trans (x23.trans (Ext.same (s24.trans (s25.trans (s26.trans s27))))))))
  ·walk_at"rq"
   refine⟨st,c,r,_,7,rfl,S22,by omega,by decide,by decide,fun v23 H23 a23 b23 S23 x23=>?_⟩
   have x2123:Ext [st,r] H21 H23:=x22.trans x23
   have g2123:=x2123 _ _ g21 (nin_pr dl21)
   have y8:Ext [st,r] H8 H23:=(Ext.same (s9.trans (s10.trans (s11.trans (s12.trans (s13.trans (s14.trans (s1420.trans s21)))))))).trans x2123
   have y10:Ext [st,r] H10 H23:=(Ext.same (s11.trans (s12.trans (s13.trans (s14.trans (s1420.trans s21)))))).trans x2123
   have y11:Ext [st,r] H11 H23:=(Ext.same (s12.trans (s13.trans (s14.trans (s1420.trans s21))))).trans x2123
   have y12:Ext [st,r] H12 H23:=(Ext.same (s13.trans (s14.trans (s1420.trans s21)))).trans x2123
   have y13:Ext [st,r] H13 H23:=(Ext.same (s14.trans (s1420.trans s21))).trans x2123
   have y19:Ext [st,r] H19 H23:=(Ext.same (s20.trans s21)).trans x2123
   have y5:Ext [st,r] H5 H23:=x521.trans x2123
   have hmd2:=hmd.ext (y5.up3 (c:=c))
   have tk:∀ {ds:List PyData},(∀d∈ds,Mt.Itm 141 1 d)→ds.length≤150→Mt.Itm 22000 2 (.tuple ds):=fun h hn=>(Mt.itm_tuple (n:=150) h hn).mono (by decide) (by decide)
   have lk:∀ {ds:List PyData},(∀d∈ds,Mt.Itm 141 1 d)→ds.length≤150→Mt.Itm 22000 2 (.list ds):=fun h hn=>(Mt.itm_list (n:=150) h hn).mono (by decide) (by decide)
   have cm:∀ {lo hi:Option Int},∀d∈cutD (hs.map PyData.int) lo hi,Mt.Itm 141 1 d:=fun d hd=>hi d (cutD_mem hd)
   have cl:∀(lo hi:Option Int),(cutD (hs.map PyData.int) lo hi).length≤1+hs.length:=fun lo hi=>Nat.le_trans cutD_len (by rw[ei];omega)
   obtain⟨j23,rfl⟩:=Int.eq_ofNat_of_zero_le a23
   obtain⟨mv',md',em',hmd',him'⟩:∃(mv:V) (md:PyData),([.ref r8,.ref r10,.ref p11,.ref l12,.ref t13] ++ [.ref r19,.non]:List V)[j23]? = some mv∧Dt K [st,c,r] H23 mv md∧Mt.Itm 22000 2 md:=by
    have hj:j23<7:=by omega
    match j23,hj with
    | 0,_ =>
     refine⟨_,_,rfl,.tup (y8.tup g8 (nin_pr dr8)) dr8 ((hD.cut _ _).append (hD.cut _ _)),tk (fun d hd=>?_) ?_⟩
     ·rcases List.mem_append.mp hd with h |h
      ·exact cm d h
      ·exact cm d h
     ·rw[List.length_append]
      have e1:=cl none (some (j1:Int))
      have e2:=cl (some ((j1:Int)+1)) none
      omega
    | 1,_ =>
     refine⟨_,_,rfl,.tup (y10.tup g10 (nin_pr dr10)) dr10 (hD.append (hD.cut _ _)),tk (fun d hd=>?_) ?_⟩
     ·rcases List.mem_append.mp hd with h |h
      ·exact hi d h
      ·exact cm d h
     ·rw[List.length_append,ei]
      have e1:=cl (some (j1:Int)) (some ((j1:Int)+1))
      omega
    | 2,_ =>
     refine⟨_,.tuple (hs.reverse.map PyData.int),rfl,.tup (y11.tup (SqT.of g11) (nin_pr dp11)) dp11 ?_,tk (fun d hd=>?_) ?_⟩
     ·rw[← List.map_reverse];exact Mt.dtInts _
     ·rw[List.map_reverse]at hd
      exact hi d (List.mem_reverse.mp hd)
     ·rw[ei,List.length_reverse];omega
    | 3,_=>exact⟨_,_,rfl,.lst (SqL.of (y12 _ _ g12 (nin_pr dl12))) dl12 hD,lk hi (by rw[ei];omega)⟩
    | 4,_=>exact⟨_,_,rfl,.tup (SqT.of (y13 _ _ g13 (nin_pr dt13))) dt13 .nil,tk (by simp) (by simp)⟩
    | 5,_ =>
     refine⟨_,_,rfl,.tup (y19.tup g19 (nin_pr dr19)) dr19 (((hD.cut none (some (j1:Int))).append (.cons hmd2 .nil)).append (hD.cut _ _)),tk (fun d hd=>?_) ?_⟩
     ·rcases List.mem_append.mp hd with h |h
      ·rcases List.mem_append.mp h with h |h
       ·exact cm d h
       ·have h:d=md:=by simpa using h
        rw[h];exact him
      ·exact cm d h
     ·rw[List.length_append,List.length_append,List.length_singleton]
      have e1:=cl none (some (j1:Int))
      have e2:=cl (some ((j1:Int)+1)) none
      omega
    | 6,_=>exact⟨_,_,rfl,.non,Mt.itm_none.mono (by decide) (by decide)⟩
   refine rd_ixL (SqL.of g2123) (atI_nat em') ?_
   exact k _ _ H23 hmd' him' (S23.mono (by omega)) (x05.trans y5)
noncomputable def sp_law_bent (K:PySem.W.Frag):Sp:=fun vs H Q _=>∃(st c r:Addr)(m:Nat)(q hp:Addr)(line pl:Int)(hs:List Int),vs = [.ref st,.ref q]∧Dk H st c r m∧m<700000000∧SqT K H q [.int line,.int pl,.ref hp]∧q ∉ [st,c,r]∧SqT K H hp (hs.map V.int)∧hp ∉ [st,c,r]∧0≤line∧line≤1000000000∧0≤pl∧pl≤3000000∧hs.length<70∧1≤hs.length∧(∀h∈hs,0≤h∧h<8) ∧
 ∀(y:V) (d:PyData) (H':Hp),Dt K [st,c,r] H' y d→((∃w k,Mt.Itm w k d∧w≤200000∧k≤30)∨d = .dict [])→Dk H' st c r (m+20)→Ext [st,r] H H'→Q y H'
abbrev glaw_bent (P:Program)(w:World)(K:PySem.W.Frag)(mg:Str→Option Value)(base:Heap)(a:Adr):Prop:=FnOk P w K mg base CX0 3 a.f_law_bent a.d_law_bent ["_law_deck_here","_law_paper"] (sp_law_bent K)
theorem ok_law_bent (T:Txt P K mg a)(Z26:glaw_bent_houses P w K mg base a)(Z0:glaw_take P w K mg base a):glaw_bent P w K mg base a:=by
 refine T.F_law_bent.ok sc_law_bent (fun vs H Q E h=>?_) (fun cdv A outer s H vs Q E hr h=>?_)
 ·obtain⟨st,c,r,m,q,hp,line,pl,hs,rfl,_⟩:=h;rfl
 ·obtain⟨st,c,r,m,q,hp,line,pl,hs,rfl,S,hm,hq,nq,hh,nh,l0,l1,p0,p1,hl,hl1,rg,k⟩:=h
  refine exW ⟨_,(qss_cons (qs_set (i:=2) sc_law_bent.nd rfl (Or.inl rfl) (qe_call Z0 (hr.mono (by decide)) (by rfl) T.m__law_take T.k__law_take T.bd__law_take .nil pass0 (qa (pv 0) (qa pe_int qa_nil))))
   (qss_cons (qs_if (pt_cmpR op_eq (pv 2) pe_int (nomark _))
    (qss_one (qs_ret (pe_ix ix_list (qe_lstA (qa pe_non (qa (by exact(qe_tupA qa_nil)) (qa (by exact(qe_callTy (cn_listA (K:=K) (by rfl)) (by rfl) T.b_list (by decide +kernel) (qa (pv 1) qa_nil))) (qa (by exact(pe_slice sl_tupG (pv 1) po_none (po_some pe_int))) (qa (by exact(pe_op op_catG (pv 1) (qe_tupA (qa pe_int qa_nil)))) (qa pe_str (qa pe_dnewA (qa (by exact(pe_ix ix_tup (pv 1) pe_int (fun _ _=>rfl))) (qa (by exact(qe_lstA (qa (pv 1) qa_nil))) qa_nil)))))))))) (qe_call Z0 (hr.mono (by decide)) (by rfl) T.m__law_take T.k__law_take T.bd__law_take .nil pass0 (qa (pv 0) (qa pe_int qa_nil))) (fun _ _=>rfl))))
    qss_nil)
   (qss_cons (qs_if (pt_cmpR op_eq (pv 2) pe_int (nomark _))
    (qss_cons (qs_set (i:=3) sc_law_bent.nd rfl (Or.inl rfl) (pe_ix ix_list (qe_lstA (qa (by exact(pe_op op_add (pe_ix ix_tup (pv 1) pe_int (fun _ _=>rfl)) pe_int)) (qa (by exact(pe_op op_sub (pe_ix ix_tup (pv 1) pe_int (fun _ _=>rfl)) pe_int)) (qa pe_bl (qa pe_bl (qa pe_non (qa (by exact(qe_callTy cn_str (by rfl) T.b_str (by decide +kernel) (qa (pe_ix ix_tup (pv 1) pe_int (fun _ _=>rfl)) qa_nil))) (qa pe_int (qa pe_int qa_nil))))))))) (qe_call Z0 (hr.mono (by decide)) (by rfl) T.m__law_take T.k__law_take T.bd__law_take .nil pass0 (qa (pv 0) (qa pe_int qa_nil))) (fun _ _=>rfl)))
    (qss_one (qs_ret (pe_op op_catG (qe_tupA (qa (pv 3) qa_nil)) (pe_slice sl_tupG (pv 1) (po_some pe_int) po_none)))))
    qss_nil)
   (qss_cons (qs_if (pt_cmpR op_eq (pv 2) pe_int (nomark _))
    (qss_cons (qs_set (i:=3) sc_law_bent.nd rfl (Or.inl rfl) (pe_ix ix_list (qe_lstA (qa (by exact(pe_op op_add (pe_ix ix_tup (pv 1) pe_int (fun _ _=>rfl)) pe_int)) (qa (by exact(pe_op op_sub (pe_ix ix_tup (pv 1) pe_int (fun _ _=>rfl)) pe_int)) (qa pe_int (qa pe_int (qa (by exact(pe_op op_pow pe_int pe_int)) (qa (by exact(pe_op op_pow pe_int pe_int)) (qa pe_bl (qa pe_non (qa (by exact(qe_callTy cn_str (by rfl) T.b_str (by decide +kernel) (qa (pe_ix ix_tup (pv 1) pe_int (fun _ _=>rfl)) qa_nil))) qa_nil)))))))))) (qe_call Z0 (hr.mono (by decide)) (by rfl) T.m__law_take T.k__law_take T.bd__law_take .nil pass0 (qa (pv 0) (qa pe_int qa_nil))) (fun _ _=>rfl)))
    (qss_one (qs_ret (qe_tupA (qa (pe_ix ix_tup (pv 1) pe_int (fun _ _=>rfl)) (qa (pv 3) (qa (pe_ix ix_tup (pv 1) pe_int (fun _ _=>rfl)) qa_nil)))))))
    qss_nil)
   (qss_one (qs_ret (pe_op op_catG (pe_slice sl_tupG (pv 1) po_none (po_some pe_int)) (qe_tupA (qa (qe_call Z26 (hr.mono (by decide)) (by rfl) T.m__law_bent_houses T.k__law_bent_houses T.bd__law_bent_houses .nil pass0 (qa (pv 0) (qa (pe_ix ix_tup (pv 1) pe_int (fun _ _=>rfl)) qa_nil))) qa_nil))))))))),?_⟩
  try dsimp only[cxOf]
  walk_at"rq"
  have p40:(10:Int) ^ (40:Int).toNat=10000000000000000000000000000000000000000:=by decide +kernel
  have p6:(10:Int) ^ (6:Int).toNat=1000000:=by decide +kernel
  have hD:∀ {H':Hp},DtAll K [st,c,r] H' (hs.map V.int) (hs.map PyData.int):=Mt.dtInts _
  have hi:∀d∈hs.map PyData.int,Mt.Itm 141 1 d:=fun d hd=>by
   obtain⟨z,hz,rfl⟩:=List.mem_map.mp hd
   have:=rg z hz
   exact(Mt.itm_int (by omega)).mono (by decide) (by decide)
  have hhi:Mt.Itm 22000 2 (.tuple (hs.map PyData.int)):=(Mt.itm_tuple (n:=150) hi (by rw[List.length_map];omega)).mono (by decide) (by decide)
  have il:Mt.Itm 22000 2 (.int line):=(Mt.itm_int (by omega)).mono (by decide) (by decide)
  have ip:Mt.Itm 22000 2 (.int pl):=(Mt.itm_int (by omega)).mono (by decide) (by decide)
  have i0:∀z:Int,-1000000000001<z→z<1000000000001→Mt.Itm 22000 2 (.int z):=fun z h1 h2=>(Mt.itm_int (by omega)).mono (by decide) (by decide)
  have hp3:∀d∈([.int line,.int pl,.tuple (hs.map PyData.int)]:List PyData),Mt.Itm 22000 2 d:=fun d hd=>by
   simp only[List.mem_cons,List.not_mem_nil,or_false]at hd
   rcases hd with rfl |rfl |rfl
   ·exact il
   ·exact ip
   ·exact hhi
  have dtH:∀ {H':Hp},SqT K H' hp (hs.map V.int)→Dt K [st,c,r] H' (.ref hp) (.tuple (hs.map PyData.int)):=fun h=>.tup h nh hD
  have dt3:∀ {H':Hp},SqT K H' hp (hs.map V.int)→DtAll K [st,c,r] H' [.int line,.int pl,.ref hp] [.int line,.int pl,.tuple (hs.map PyData.int)]:=fun h=>.cons (.int _) (.cons (.int _) (.cons (dtH h) .nil))
  have tk:∀ {ds:List PyData},(∀d∈ds,Mt.Itm 22000 2 d)→ds.length≤4→Mt.Itm 90000 3 (.tuple ds):=fun h hn=>(Mt.itm_tuple (n:=4) h hn).mono (by decide) (by decide)
  have sI:∀z:Int,0≤z→z≤1000000000→Mt.Itm 22000 2 (.str (Str.ofString (toString z))):=fun z h1 h2=>by
   refine(Mt.itm_str (cps_ofString _) ?_).mono (by decide) (by decide)
   have e:=int_text_length_le10 (k:=41) (a:=z) (by decide) (Nat.lt_of_le_of_lt (m:=1000000000) (by omega) (by decide +kernel))
   have e':(Str.ofString (toString z)).length=(toString z).length:=ofString_length _
   omega
  have fin:∀ {y:V}{e:PyData}{H':Hp},Dt K [st,c,r] H' y e→Mt.Itm 190000 10 e→Dk H' st c r (m+20)→Ext [st,r] H H'→Q y H':=fun h1 h2 h3 h4=>k _ _ _ h1 (.inl ⟨_,_,h2,by decide,by decide⟩) h3 h4
  refine⟨st,c,r,_,5,rfl,S,by omega,by decide,by decide,fun v1 H1 a1 b1 S1 x1=>?_⟩
  have hq1:=x1.tup hq (nin_pr nq)
  have hh1:=x1.tup hh (nin_pr nh)
  walk_at"rq"
  refine rd_ite2 (fun hc=>?_) (fun hc=>?_)
  ·walk_at"rq"
   refine⟨sz (by simp),fun t2 H2 n2 s2 g2=>?_⟩
   have S2:=S1.same s2
   have dt2:t2 ∉ [st,c,r]:=S1.new n2
   have hq2:=s2.tupS hq1
   walk_at"rq"
   intro l3 H3 n3 s3 g3
   have S3:=S2.same s3
   have dl3:l3 ∉ [st,c,r]:=S2.new n3
   have hq3:=s3.tupS hq2
   walk_at"rq"
   intro q4 H4 hq4' s4 g4
   have S4:=S3.same s4
   have dq4:q4 ∉ [st,c,r]:=by
    rcases hq4' with rfl |h
    ·exact nq
    ·exact S3.new h
   have hq4:=s4.tupS hq3
   walk_at"rq"
   refine⟨sz (by simp),fun t5 H5 n5 s5 g5=>?_⟩
   have S5:=S4.same s5
   have hq5:=s5.tupS hq4
   refine rd_catG hq5 (SqT.of g5) (sz (by simp)) fun r6 H6 hr6 s6 g6=>?_
   have S6:=S5.same s6
   have dr6:r6 ∉ [st,c,r]:=by
    rcases hr6 with rfl |rfl |h
    ·exact nq
    ·exact S4.new n5
    ·exact S5.new h
   have hq6:=s6.tupS hq5
   walk_at"rq"
   intro d7 H7 n7 s7 g7
   have S7:=S6.same s7
   have dd7:d7 ∉ [st,c,r]:=S6.new n7
   have hq7:=s7.tupS hq6
   walk_at"rq"
   refine⟨sz (by simp),fun l8 H8 n8 s8 g8=>?_⟩
   have S8:=S7.same s8
   have dl8:l8 ∉ [st,c,r]:=S7.new n8
   have hq8:=s8.tupS hq7
   walk_at"rq"
   refine⟨sz (by simp),fun l9 H9 n9 s9 g9=>?_⟩
   have S9:=S8.same s9
   have dl9:l9 ∉ [st,c,r]:=S8.new n9
   have s19:Same H1 H9:=s2.trans (s3.trans (s4.trans (s5.trans (s6.trans (s7.trans (s8.trans s9))))))
   walk_at"rq"
   refine⟨st,c,r,_,9,rfl,S9,by omega,by decide,by decide,fun v10 H10 a10 b10 S10 x10=>?_⟩
   have x010:Ext [st,r] H H10:=x1.trans ((Ext.same s19).trans x10)
   have hq10:=x10.tup (s9.tupS hq8) (nin_pr nq)
   have hh10:=x10.tup (s19.tupS hh1) (nin_pr nh)
   have dq10:Dt K [st,c,r] H10 (.ref q) (.tuple [.int line,.int pl,.tuple (hs.map PyData.int)]):=.tup hq10 nq (dt3 hh10)
   have ok2:∀ {y:V}{e:PyData},Dt K [st,c,r] H10 y e→Mt.Itm 190000 10 e→Q y H10:=fun h1 h2=>fin h1 h2 (S10.mono (by omega)) x010
   have x210:Ext [st,r] H2 H10:=(Ext.same (s3.trans (s4.trans (s5.trans (s6.trans (s7.trans (s8.trans s9))))))).trans x10
   have x310:Ext [st,r] H3 H10:=(Ext.same (s4.trans (s5.trans (s6.trans (s7.trans (s8.trans s9)))))).trans x10
   have x410:Ext [st,r] H4 H10:=(Ext.same (s5.trans (s6.trans (s7.trans (s8.trans s9))))).trans x10
   have x610:Ext [st,r] H6 H10:=(Ext.same (s7.trans (s8.trans s9))).trans x10
   have x710:Ext [st,r] H7 H10:=(Ext.same (s8.trans s9)).trans x10
   have x810:Ext [st,r] H8 H10:=(Ext.same s9).trans x10
   obtain⟨j,rfl⟩:=Int.eq_ofNat_of_zero_le a10
   have hj:j<9:=by omega
   obtain⟨y,ey,qy⟩:∃y,atI ([.non,.ref t2,.ref l3,.ref q4,.ref r6,.str (Str.ofString "paper"),.ref d7,.ref hp,.ref l8]:List V) (j:Int)=some y∧Q y H10:=by
    match j,hj with
    | 0,_=>exact⟨_,rfl,ok2 .non (Mt.itm_none.mono (by decide) (by decide))⟩
    | 1,_=>exact⟨_,rfl,ok2 (.tup (SqT.of (x210 _ _ g2 (nin_pr dt2))) dt2 .nil) ((tk (by simp) (by simp)).mono (by decide) (by decide))⟩
    | 2,_=>exact⟨_,rfl,ok2 (.lst (SqL.of (x310 _ _ g3 (nin_pr dl3))) dl3 (dt3 hh10)) ((Mt.itm_list (n:=4) hp3 (by simp)).mono (by decide) (by decide))⟩
    | 3,_=>exact⟨_,rfl,ok2 (.tup (x410.tup g4 (nin_pr dq4)) dq4 ((dt3 hh10).cut _ _)) ((tk (fun d hd=>hp3 d (cutD_mem hd)) (Nat.le_trans cutD_len (by simp))).mono (by decide) (by decide))⟩
    | 4,_=>exact⟨_,rfl,ok2 (.tup (x610.tup g6 (nin_pr dr6)) dr6 ((dt3 hh10).append (.cons (.int 0) .nil))) ((tk (fun d hd=>by
      rcases List.mem_append.mp hd with h |h
      ·exact hp3 d h
      ·have h:d = .int 0:=by simpa using h
       rw[h];exact i0 0 (by decide) (by decide)) (by simp)).mono (by decide) (by decide))⟩
    | 5,_=>exact⟨_,rfl,ok2 (.str _) ((Mt.itm_str (cps_ofString _) (by decide +kernel)).mono (by decide) (by decide))⟩
    | 6,_=>exact⟨_,rfl,k _ _ _ (.dk0 (x710 _ _ g7 (nin_pr dd7)) dd7) (.inr rfl) (S10.mono (by omega)) x010⟩
    | 7,_=>exact⟨_,rfl,ok2 (dtH hh10) (hhi.mono (by decide) (by decide))⟩
    | 8,_=>exact⟨_,rfl,ok2 (.lst (SqL.of (x810 _ _ g8 (nin_pr dl8))) dl8 (.cons dq10 .nil)) ((Mt.itm_list (n:=1) (w:=90000) (k:=3) (fun d hd=>by
      have h:d = .tuple [.int line,.int pl,.tuple (hs.map PyData.int)]:=by simpa using hd
      rw[h];exact tk hp3 (by simp)) (by simp)).mono (by decide) (by decide))⟩
   exact rd_ixL (SqL.of (x10 _ _ g9 (nin_pr dl9))) ey qy
  walk_at"rq"
  refine rd_ite2 (fun hc2=>?_) (fun hc2=>?_)
  ·walk_at"rq"
   refine rd_str (Nat.lt_trans (Mt.log2_le (Nat.lt_of_le_of_lt (m:=1000000000) (by omega) (by decide +kernel))) (by decide)) ?_
   walk_at"rq"
   refine⟨sz (by simp),fun l2 H2 n2 s2 g2=>?_⟩
   have S2:=S1.same s2
   have dl2:l2 ∉ [st,c,r]:=S1.new n2
   walk_at"rq"
   refine⟨st,c,r,_,8,rfl,S2,by omega,by decide,by decide,fun v3 H3 a3 b3 S3 x3=>?_⟩
   have hq3:=x3.tup (s2.tupS hq1) (nin_pr nq)
   have hh3:=x3.tup (s2.tupS hh1) (nin_pr nh)
   have x03:Ext [st,r] H H3:=x1.trans ((Ext.same s2).trans x3)
   obtain⟨j,rfl⟩:=Int.eq_ofNat_of_zero_le a3
   have hj:j<8:=by omega
   obtain⟨y,e,ey,dy,iy⟩:∃y e,atI ([.int (line+1),.int (line - 1),.bl true,.bl false,.non,.str (Str.ofString (toString line)),.int 5,.int 0]:List V) (j:Int)=some y∧Dt K [st,c,r] H3 y e∧Mt.Itm 22000 2 e:=by
    match j,hj with
    | 0,_=>exact⟨_,_,rfl,.int _,i0 _ (by omega) (by omega)⟩
    | 1,_=>exact⟨_,_,rfl,.int _,i0 _ (by omega) (by omega)⟩
    | 2,_=>exact⟨_,_,rfl,.bl _,(Mt.itm_bool _).mono (by decide) (by decide)⟩
    | 3,_=>exact⟨_,_,rfl,.bl _,(Mt.itm_bool _).mono (by decide) (by decide)⟩
    | 4,_=>exact⟨_,_,rfl,.non,Mt.itm_none.mono (by decide) (by decide)⟩
    | 5,_=>exact⟨_,_,rfl,.str _,sI line l0 l1⟩
    | 6,_=>exact⟨_,_,rfl,.int _,i0 _ (by omega) (by omega)⟩
    | 7,_=>exact⟨_,_,rfl,.int _,i0 _ (by omega) (by omega)⟩
   refine rd_ixL (SqL.of (x3 _ _ g2 (nin_pr dl2))) ey ?_
   walk_at"rq"
   refine⟨sz (by simp),fun t4 H4 n4 s4 g4=>?_⟩
   have S4:=S3.same s4
   have dt4:t4 ∉ [st,c,r]:=S3.new n4
   have hq4:=s4.tupS hq3
   walk_at"rq"
   intro q5 H5 hq5' s5 g5
   have S5:=S4.same s5
   have dq5:q5 ∉ [st,c,r]:=by
    rcases hq5' with rfl |h
    ·exact nq
    ·exact S4.new h
   refine rd_catG (s5.tupS (SqT.of g4)) g5 (sz (by rw[show cutV [V.int line,V.int pl,V.ref hp] (some 1) none = [.int pl,.ref hp]from rfl];simp)) fun r6 H6 hr6 s6 g6=>?_
   have S6:=S5.same s6
   have dr6:r6 ∉ [st,c,r]:=by
    rcases hr6 with rfl |rfl |h
    ·exact dt4
    ·exact dq5
    ·exact S5.new h
   have s36:=s4.trans (s5.trans s6)
   refine fin (.tup g6 dr6 ((DtAll.cons (dy.ext (Ext.same s36)) .nil).append ((dt3 (s36.tupS hh3)).cut _ _))) ((tk (fun d hd=>?_) ?_).mono (by decide) (by decide)) (S6.mono (by omega)) (x03.trans (Ext.same s36))
   ·rcases List.mem_append.mp hd with h |h
    ·have h:d=e:=by simpa using h
     rw[h];exact iy
    ·exact hp3 d (cutD_mem h)
   ·rw[List.length_append,List.length_singleton]
    have:=cutD_len (ds:=[.int line,.int pl,.tuple (hs.map PyData.int)]) (lo:=some 1) (hi:=none)
    simp only[List.length_cons,List.length_nil]at this
    omega
  walk_at"rq"
  refine rd_ite2 (fun hc3=>?_) (fun hc3=>?_)
  ·walk_at"rq"
   refine rd_str (Nat.lt_trans (Mt.log2_le (Nat.lt_of_le_of_lt (m:=3000000) (by omega) (by decide +kernel))) (by decide)) ?_
   walk_at"rq"
   refine⟨sz (by simp),fun l2 H2 n2 s2 g2=>?_⟩
   have S2:=S1.same s2
   have dl2:l2 ∉ [st,c,r]:=S1.new n2
   walk_at"rq"
   refine⟨st,c,r,_,9,rfl,S2,by omega,by decide,by decide,fun v3 H3 a3 b3 S3 x3=>?_⟩
   have hq3:=x3.tup (s2.tupS hq1) (nin_pr nq)
   have hh3:=x3.tup (s2.tupS hh1) (nin_pr nh)
   have x03:Ext [st,r] H H3:=x1.trans ((Ext.same s2).trans x3)
   obtain⟨j,rfl⟩:=Int.eq_ofNat_of_zero_le a3
   have hj:j<9:=by omega
   obtain⟨y,e,ey,dy,iy⟩:∃y e,atI ([.int (pl+1),.int (pl - 1),.int 0,.int 1,.int (10 ^ (6:Int).toNat),.int (10 ^ (40:Int).toNat),.bl true,.non,.str (Str.ofString (toString pl))]:List V) (j:Int)=some y∧Dt K [st,c,r] H3 y e∧Mt.Itm 22000 2 e:=by
    match j,hj with
    | 0,_=>exact⟨_,_,rfl,.int _,i0 _ (by omega) (by omega)⟩
    | 1,_=>exact⟨_,_,rfl,.int _,i0 _ (by omega) (by omega)⟩
    | 2,_=>exact⟨_,_,rfl,.int _,i0 _ (by omega) (by omega)⟩
    | 3,_=>exact⟨_,_,rfl,.int _,i0 _ (by omega) (by omega)⟩
    | 4,_=>exact⟨_,_,rfl,.int _,i0 _ (by omega) (by omega)⟩
    | 5,_=>exact⟨_,_,rfl,.int _,(Mt.itm_int (by rw[p40];decide)).mono (by decide) (by decide)⟩
    | 6,_=>exact⟨_,_,rfl,.bl _,(Mt.itm_bool _).mono (by decide) (by decide)⟩
    | 7,_=>exact⟨_,_,rfl,.non,Mt.itm_none.mono (by decide) (by decide)⟩
    | 8,_=>exact⟨_,_,rfl,.str _,sI pl p0 (by omega)⟩
   refine rd_ixL (SqL.of (x3 _ _ g2 (nin_pr dl2))) ey ?_
   walk_at"rq"
   refine⟨sz (by simp),fun t4 H4 n4 s4 g4=>?_⟩
   refine fin (.tup (SqT.of g4) (S3.new n4) (.cons (.int _) (.cons (dy.ext (Ext.same s4)) (.cons (dtH (s4.tupS hh3)) .nil)))) ((tk (fun d hd=>?_) (by simp)).mono (by decide) (by decide)) ((S3.same s4).mono (by omega)) (x03.trans (Ext.same s4))
   simp only[List.mem_cons,List.not_mem_nil,or_false]at hd
   rcases hd with rfl |rfl |rfl
   ·exact il
   ·exact iy
   ·exact hhi
  walk_at"rq"
  intro q2 H2 hq2' s2 g2
  have S2:=S1.same s2
  have dq2:q2 ∉ [st,c,r]:=by
   rcases hq2' with rfl |h
   ·exact nq
   ·exact S1.new h
  have hq2:=s2.tupS hq1
  have hh2:=s2.tupS hh1
  walk_at"rq"
  refine⟨st,c,r,_,hp,hs,rfl,S2,by omega,hh2,nh,hl,hl1,rg,fun y d H3 dy iy S3 x3=>?_⟩
  walk_at"rq"
  refine⟨sz (by simp),fun t4 H4 n4 s4 g4=>?_⟩
  have S4:=S3.same s4
  have hq4:=s4.tupS (x3.tup g2 (nin_pr dq2))
  refine rd_catG hq4 (SqT.of g4) (sz (by rw[show cutV [V.int line,V.int pl,V.ref hp] none (some 2) = [.int line,.int pl]from rfl];simp)) fun r5 H5 hr5 s5 g5=>?_
  have S5:=S4.same s5
  have dr5:r5 ∉ [st,c,r]:=by
   rcases hr5 with rfl |rfl |h
   ·exact dq2
   ·exact S3.new n4
   ·exact S4.new h
  have s35:=s4.trans s5
  have hh5:=s35.tupS (x3.tup hh2 (nin_pr nh))
  refine fin (.tup g5 dr5 (((dt3 hh5).cut _ _).append (.cons (dy.ext (Ext.same s35)) .nil))) ((tk (fun e hd=>?_) ?_).mono (by decide) (by decide)) (S5.mono (by omega)) (x1.trans ((Ext.same s2).trans (x3.trans (Ext.same s35))))
  ·rcases List.mem_append.mp hd with h |h
   ·exact hp3 e (cutD_mem h)
   ·have h:e=d:=by simpa using h
    rw[h];exact iy
  ·rw[List.length_append,List.length_singleton]
   have:=cutD_len (ds:=[.int line,.int pl,.tuple (hs.map PyData.int)]) (lo:=none) (hi:=some 2)
   simp only[List.length_cons,List.length_nil]at this
   omega
noncomputable def sp_law_says (K:PySem.W.Frag)(a:Adr):Sp:=fun vs H Q _=>∃(M:List Addr)(p d e t rt:Addr)(fs gs:List Ent)(rr:PyData)(line fork en one:Int)(x:V)(dx:PyData),vs = [.ref p,.ref e,.ref t,x]∧BkAt a.C_Book H p d fs∧PB H e gs∧vw4 fs=vw4 gs∧fs.length<63∧gs.length<63∧(∀q∈vw4 fs,okS q)∧H t=some (.tup [.int line,.int fork,.int en,.int one,.ref rt])∧Dt K [] H (.ref rt) rr∧Mt.ruleD rr=true∧0≤fork∧0≤one∧one<8∧Dt K M H x dx∧((∃w k,Mt.Itm w k dx∧w≤200000∧k≤30)∨dx = .dict [])∧∀H',Same H H'→Q (.bl true) H'
abbrev glaw_says (P:Program)(w:World)(K:PySem.W.Frag)(mg:Str→Option Value)(base:Heap)(a:Adr):Prop:=FnOk P w K mg base CX0 8 a.f_law_says a.d_law_says ["_law_book_here","_law_model","_law_asked_here","_law_thing"] (sp_law_says K a)
theorem ok_law_says (T:Txt P K mg a)(Z27:glaw_right P w K mg base a)(Z7:gright_done P w K mg base a):glaw_says P w K mg base a:=by
 refine T.F_law_says.ok sc_law_says (fun vs H Q E h=>?_) (fun cdv A outer s H vs Q E hr h=>?_)
 ·obtain⟨M,p,d,e,t,rt,fs,gs,rr,line,fork,en,one,x,dx,rfl,_⟩:=h;rfl
 ·obtain⟨M,p,d,e,t,rt,fs,gs,rr,line,fork,en,one,x,dx,rfl,B,G,hv,hl,hlg,oks,ht,hd,hw,hf,q0,q8,hx,hi,k⟩:=h
  obtain⟨r1,r2,r3,r4⟩:(sysModules∈M∨dx.hasDict=false∨dx = .dict [])∧dx.showable=true∧dx.depth≤30∧dx.shown.length≤sizeLine:=by
   rcases hi with ⟨w,kk,hi,hw,hk⟩ |rfl
   ·have s:=hi.shw hw hk
    exact⟨.inr (.inl hi.nd),s.sh,s.dp,s.ln⟩
   ·exact⟨.inr (.inr rfl),Mt.shw_dict0.sh,Mt.shw_dict0.dp,Mt.shw_dict0.ln⟩
  have sl:Mt.slim dx:=by
   rcases hi with ⟨w,kk,hi,hw,hk⟩ |rfl
   ·exact Mt.slim_of (Nat.le_trans hi.wt (Nat.le_trans hw (by decide)))
   ·intro a b ds z;cases z
  refine exW ⟨_,(qss_cons (qs_asg (pv 2) (pg_tup (n:=5) rfl (pgs_cons (pg_name (i:=4) sc_law_says.nd rfl (Or.inl rfl)) (pgs_cons (pg_name (i:=5) sc_law_says.nd rfl (Or.inl rfl)) (pgs_cons (pg_name (i:=6) sc_law_says.nd rfl (Or.inl rfl)) (pgs_cons (pg_name (i:=7) sc_law_says.nd rfl (Or.inl rfl)) (pgs_cons (pg_name (i:=8) sc_law_says.nd rfl (Or.inl rfl)) pgs_nil)))))))
   (qss_cons (qs_set (i:=9) sc_law_says.nd rfl (Or.inl rfl) (qe_callB (cn_reprD hr) (by rfl) T.b_repr (by decide +kernel) (qa (pv 3) qa_nil)))
   (qss_cons (qs_set (i:=10) sc_law_says.nd rfl (Or.inl rfl) (qe_callX Z7 (hr.mono (by decide)) (by rfl) T.m_right_done T.k_right_done T.bd_right_done .nil px0 (qa (pv 0) (qa (pv 4) (qa (pv 5) (qa (pv 6) (qa (pv 7) (qa (pv 8) (qa (pv 3) qa_nil)))))))))
   (qss_one (qs_ret (pe_and (qe_callB cn_isi (by rfl) T.b_isinstance (by decide +kernel) (qa (pv 10) (qa (pe_bltn (by rfl) T.b_bool (by decide +kernel) (v:=.ty "bool") rfl) qa_nil))) (pe_and (pe_cmpR op_eq (pv 10) (qe_call Z27 (hr.mono (by decide)) (by rfl) T.m__law_right T.k__law_right T.bd__law_right .nil pass0 (qa (pv 1) (qa (pv 2) (qa (pv 3) qa_nil)))) (nomark _)) (pe_one (pe_cmpR op_eq (qe_callB (cn_reprD hr) (by rfl) T.b_repr (by decide +kernel) (qa (pv 3) qa_nil)) (pv 9) (nomark _)))))))))),?_⟩
  try dsimp only[cxOf]
  refine rd_seq ?_
  walk_at"rs"
  refine rd_seq ?_
  walk_at"rs"
  refine rd_reprD hx r1 r2 r3 r4 ?_
  walk_at"rs"
  refine rd_seq ?_
  walk_at"rs"
  refine⟨p,d,fs,[],M,.ref rt,x,rr,dx,line,fork,en,one,rfl,B,hl,hd,hx,sl,fun _ H1 s1=>?_,fun z=>by rw[hw]at z;cases z⟩
  walk_at"rs"
  refine rd_isi (.bl _) (b:=true) (subT_of (by simp) (by simp)) ?_
  walk_at"rs"
  refine⟨e,t,rt,gs,M,x,rr,dx,line,fork,en,one,rfl,G.same s1,hlg,by rw[← hv];exact oks,s1 _ _ ht,hd.ext (Ext.same s1),hw,hf,q0,q8,hx.ext (Ext.same s1),hi,fun H2 s2=>?_⟩
  rw[← hv]
  walk_at"rs"
  rw[decide_eq_true rfl]
  refine rd_iteT ?_
  have s12:=s1.trans s2
  walk_at"rs"
  refine rd_reprD (hx.ext (Ext.same s12)) r1 r2 r3 r4 ?_
  walk_at"rs"
  rw[decide_eq_true rfl]
  exact k _ s12
noncomputable def sp_law_no_rule (K:PySem.W.Frag)(a:Adr):Sp:=fun vs H Q _=>∃(st c r:Addr)(m:Nat)(p d t rt:Addr)(fs:List Ent)(line fork en one:Int)(y:V)(pd:PyData),vs = [.ref st,.ref p,.ref t,y]∧Dt K [st,c,r] H y pd∧Mt.slim pd∧Dk H st c r m∧m<800000000∧BkAt a.C_Book H p d fs∧fs.length<63∧H t=some (.tup [.int line,.int fork,.int en,.int one,.ref rt]) ∧
 ∀H',Dk H' st c r (m+1)→Ext [st,r] H H'→Q (.bl true) H'
abbrev glaw_no_rule (P:Program)(w:World)(K:PySem.W.Frag)(mg:Str→Option Value)(base:Heap)(a:Adr):Prop:=FnOk P w K mg base CX0 8 a.f_law_no_rule a.d_law_no_rule ["_law_deck_here","_law_book_here","_law_asked_here","_law_thing"] (sp_law_no_rule K a)
theorem ok_law_no_rule (T:Txt P K mg a)(Z0:glaw_take P w K mg base a)(Z7:gright_done P w K mg base a):glaw_no_rule P w K mg base a:=by
 refine T.F_law_no_rule.ok sc_law_no_rule (fun vs H Q E h=>?_) (fun cdv A outer s H vs Q E hr h=>?_)
 ·obtain⟨st,c,r,m,p,d,t,rt,fs,line,fork,en,one,y,pd,rfl,_⟩:=h;rfl
 ·obtain⟨st,c,r,m,p,d,t,rt,fs,line,fork,en,one,y,pd,rfl,hy,hsl,S,hm,B,hl,ht,k⟩:=h
  refine exW ⟨_,(qss_cons (qs_setLA (i:=4) sc_law_no_rule.nd rfl (Or.inl rfl) (qa (by exact(qe_tupA (qa pe_str (qa pe_int qa_nil)))) (qa (by exact(qe_tupA (qa pe_str (qa pe_int qa_nil)))) (qa (by exact(qe_tupA (qa pe_str (qa pe_int qa_nil)))) (qa (by exact(qe_lstA (qa pe_str qa_nil))) (qa pe_non (qa pe_str (qa (by exact(qe_tupA qa_nil)) (qa (by exact(qe_tupA (qa pe_str (qa pe_bl qa_nil)))) (qa (by exact(qe_tupA (qa pe_str qa_nil))) (qa pe_int qa_nil)))))))))) (by first |exact Or.inl rfl |exact Or.inr rfl))
   (qss_cons (qs_asg (pv 2) (pg_tup (n:=5) rfl (pgs_cons (pg_name (i:=5) sc_law_no_rule.nd rfl (Or.inl rfl)) (pgs_cons (pg_name (i:=6) sc_law_no_rule.nd rfl (Or.inl rfl)) (pgs_cons (pg_name (i:=7) sc_law_no_rule.nd rfl (Or.inl rfl)) (pgs_cons (pg_name (i:=8) sc_law_no_rule.nd rfl (Or.inl rfl)) (pgs_cons (pg_name (i:=9) sc_law_no_rule.nd rfl (Or.inl rfl)) pgs_nil)))))))
   (qss_cons (qs_set (i:=10) sc_law_no_rule.nd rfl (Or.inl rfl) pe_non)
   (qss_cons (qs_try (i:=11) (c:="LineError") sc_law_no_rule.nd rfl rfl (by rfl) T.mC_LineError rfl rfl rfl (fun _ _ XR hx =>
    (qss_one (qs_expr (qe_callX Z7 (hr.mono (by decide)) (by rfl) T.m_right_done T.k_right_done T.bd_right_done .nil hx (qa (pv 1) (qa (pv 5) (qa (pv 6) (qa (pv 7) (qa (pv 8) (qa (by exact(pe_ix (ix_listK (K:=K) (by rfl)) (pv 4) (qe_call Z0 (hr.mono (by decide)) (by rfl) T.m__law_take T.k__law_take T.bd__law_take .nil pass0 (qa (pv 0) (qa pe_int qa_nil))) (fun _ _=>rfl))) (qa (pv 3) qa_nil))))))))))) (fun _ =>
    (qss_one (qs_set (i:=10) sc_law_no_rule.nd rfl (Or.inl rfl) (pv 11)))) (by decide))
   (qss_cons (qs_if (pw_or (pt_not (pt_val (qe_callB cn_isiX (by rfl) T.b_isinstance (by decide +kernel) (qa (pv 10) (qa (pe_glob (v:=.ref a.C_NoRule) (by rfl) T.mC_NoRule rfl) qa_nil))) (by intro _;rfl))) (pw_or1 (pt_not (pt_val (qe_callB cn_isiX (by rfl) T.b_isinstance (by decide +kernel) (qa (pv 10) (qa (pe_bltn (by rfl) T.b_ValueError (by decide +kernel) (v:=.ty "ValueError") rfl) qa_nil))) (by intro _;rfl))))).pt
    (qss_one (qs_ret pe_bl))
    qss_nil)
   (qss_one (qs_ret (pe_not (qe_callB cn_isiT (by rfl) T.b_isinstance (by decide +kernel) (qa (pv 10) (qa (qe_tupA (qa (pe_glob (v:=.ref a.C_NoCount) (by rfl) T.mC_NoCount rfl) (qa (pe_glob (v:=.ref a.C_NoHouse) (by rfl) T.mC_NoHouse rfl) (qa (pe_glob (v:=.ref a.C_NoPlace) (by rfl) T.mC_NoPlace rfl) (qa (pe_glob (v:=.ref a.C_NoSaying) (by rfl) T.mC_NoSaying rfl) qa_nil))))) qa_nil))))))))))),?_⟩
  try dsimp only[cxOf]
  refine rd_seq ?_
  walk_at"rs"
  refine⟨sz (by simp),fun t1 H1 n1 s1 g1=>?_⟩
  walk_at"rs"
  refine⟨sz (by simp),fun t2 H2 n2 s2 g2=>?_⟩
  walk_at"rs"
  refine⟨sz (by simp),fun t3 H3 n3 s3 g3=>?_⟩
  walk_at"rs"
  refine⟨sz (by simp),fun t4 H4 n4 s4 g4=>?_⟩
  walk_at"rs"
  refine⟨sz (by simp),fun t5 H5 n5 s5 g5=>?_⟩
  walk_at"rs"
  refine⟨sz (by simp),fun t6 H6 n6 s6 g6=>?_⟩
  walk_at"rs"
  refine⟨sz (by simp),fun t7 H7 n7 s7 g7=>?_⟩
  walk_at"rs"
  refine⟨sz (by simp),fun lo H8 n8 s8 g8=>?_⟩
  have q7:Same H7 H8:=s8
  have q6:=s7.trans q7
  have q5:=s6.trans q6
  have q4:=s5.trans q5
  have q3:=s4.trans q4
  have q2:=s3.trans q3
  have q1:=s2.trans q2
  have q0:=s1.trans q1
  have S8:=S.same q0
  have S7:=S.same (s1.trans (s2.trans (s3.trans (s4.trans (s5.trans (s6.trans s7))))))
  have dlo:lo ∉ [st,c,r]:=S7.new n8
  have d1:t1 ∉ [st,c,r]:=S.new n1
  have d2:t2 ∉ [st,c,r]:=(S.same s1).new n2
  have d3:t3 ∉ [st,c,r]:=(S.same (s1.trans s2)).new n3
  have d4:t4 ∉ [st,c,r]:=(S.same (s1.trans (s2.trans s3))).new n4
  have d5:t5 ∉ [st,c,r]:=(S.same (s1.trans (s2.trans (s3.trans s4)))).new n5
  have d6:t6 ∉ [st,c,r]:=(S.same (s1.trans (s2.trans (s3.trans (s4.trans s5))))).new n6
  have d7:t7 ∉ [st,c,r]:=(S.same (s1.trans (s2.trans (s3.trans (s4.trans (s5.trans s6)))))).new n7
  have ht8:=q0 _ _ ht
  have B8:=B.same q0
  walk_at"rs"
  refine rd_seq ?_
  walk_at"rs"
  refine rd_seq ?_
  walk_at"rs"
  refine rd_seq ?_
  walk_at"rs"
  refine⟨st,c,r,_,10,rfl,S8,by omega,by decide,by decide,fun v9 H9 a9 b9 S9 x9=>?_⟩
  have B9:=B8.nl (nl_dk S8 x9)
  obtain⟨n,rfl⟩:=Int.eq_ofNat_of_zero_le a9
  have hn:n<10:=by omega
  have up:∀ {b:Addr}{o:HO},H8 b=some o→b ∉ [st,c,r]→H9 b=some o:=fun h1 h2=>x9 _ _ h1 (nin_pr h2)
  obtain⟨x,dd,hx,hdd,hww⟩:∃(x:V) (dd:PyData),([.ref t1,.ref t2,.ref t3,.ref t4,.non,.str "written",.ref t5,.ref t6,.ref t7,.int 1]:List V)[n]? = some x∧Dt K [] H9 x dd∧Mt.ruleD dd=false:=by
   match n,hn with
   | 0,_=>exact⟨_,_,rfl,.tup (SqT.of (up (q1 _ _ g1) d1)) (by simp) (.cons (.str _) (.cons (.int _) .nil)),by decide +kernel⟩
   | 1,_=>exact⟨_,_,rfl,.tup (SqT.of (up (q2 _ _ g2) d2)) (by simp) (.cons (.str _) (.cons (.int _) .nil)),by decide +kernel⟩
   | 2,_=>exact⟨_,_,rfl,.tup (SqT.of (up (q3 _ _ g3) d3)) (by simp) (.cons (.str _) (.cons (.int _) .nil)),by decide +kernel⟩
   | 3,_=>exact⟨_,_,rfl,.lst (SqL.of (up (q4 _ _ g4) d4)) (by simp) (.cons (.str _) .nil),by decide +kernel⟩
   | 4,_=>exact⟨_,_,rfl,.non,by decide +kernel⟩
   | 5,_=>exact⟨_,_,rfl,.str _,by decide +kernel⟩
   | 6,_=>exact⟨_,_,rfl,.tup (SqT.of (up (q5 _ _ g5) d5)) (by simp) .nil,by decide +kernel⟩
   | 7,_=>exact⟨_,_,rfl,.tup (SqT.of (up (q6 _ _ g6) d6)) (by simp) (.cons (.str _) (.cons (.bl _) .nil)),by decide +kernel⟩
   | 8,_=>exact⟨_,_,rfl,.tup (SqT.of (up (q7 _ _ g7) d7)) (by simp) (.cons (.str _) .nil),by decide +kernel⟩
   | 9,_=>exact⟨_,_,rfl,.int _,by decide +kernel⟩
  refine rd_ixL (v:=x) (SqL.of (up g8 dlo)) (atI_nat hx) ?_
  walk_at"rs"
  refine⟨p,d,fs,[],[st,c,r],x,y,dd,pd,line,fork,en,one,rfl,B9,hl,hdd,(hy.ext (Ext.same q0)).ext x9.up3,hsl,fun z=>(by rw[hww]at z;cases z),fun _=>⟨T.ex_NoRule_LineError,fun ea he=>?_⟩⟩
  have s10:Same H9 (upd H9 ea (.ext (ExcIs ea (.ref a.C_NoRule) none))):=Same.upd he
  have ex:upd H9 ea (.ext (ExcIs ea (.ref a.C_NoRule) none)) ea=some (.ext (ExcIs ea (.ref a.C_NoRule) none)):=upd_same
  generalize upd H9 ea (.ext (ExcIs ea (.ref a.C_NoRule) none))=H10 at s10 ex ⊢
  have ty:∀ {H':Hp},Same H10 H'→TyX K H' (.ref ea) (.ref a.C_NoRule):=fun s=>.exc (s _ _ ex) T.xg_NoRule
  walk_at"rs"
  refine rd_seq ?_
  walk_at"rs"
  refine rd_isiX (ty (Same.refl _)) rfl T.is_NoRule_NoRule ?_
  walk_at"rs"
  refine rd_isiX (ty (Same.refl _)) rfl T.is_NoRule_ValueError ?_
  walk_at"rs"
  refine⟨sz (by simp),fun tt H11 nt st' gt=>?_⟩
  walk_at"rs"
  refine rd_isiT (cs:=[a.C_NoCount,a.C_NoHouse,a.C_NoPlace,a.C_NoSaying]) (ty st') (SqT.of gt) (kitAnyF T.is_NoRule_NoCount (kitAnyF T.is_NoRule_NoHouse (kitAnyF T.is_NoRule_NoPlace (kitAnyF T.is_NoRule_NoSaying kitAny0)))) ?_
  walk_at"rs"
  exact k _ (S9.same (s10.trans st')) (((Ext.same q0).trans x9).trans (Ext.same (s10.trans st')))
noncomputable def sp_law (K:PySem.W.Frag):Sp:=fun vs H Q _=>∃(p:Addr)(ns:List Int),vs = [.ref p]∧SqL K H p (ns.map V.int)∧ns.length≤63∧∀H',Q (.bl true) H'
abbrev glaw (P:Program)(w:World)(K:PySem.W.Frag)(mg:Str→Option Value)(base:Heap)(a:Adr):Prop:=FnOk P w K mg base CX0 9 a.f_law a.d_law ["_law_script"] (sp_law K)
theorem ok_law (T:Txt P K mg a)(Z28:gBook_init P w K mg base a)(Z5:gBook_said P w K mg base a)(Z29:glaw_asked P w K mg base a)(Z30:glaw_bent P w K mg base a)(Z31:glaw_book P w K mg base a)(Z32:glaw_deck P w K mg base a)(Z33:glaw_done P w K mg base a)(Z34:glaw_made_up P w K mg base a)(Z9:glaw_no_rule P w K mg base a)(Z10:glaw_says P w K mg base a)(Z0:glaw_take P w K mg base a):glaw P w K mg base a:=by
 refine T.F_law.ok sc_law (fun vs H Q E h=>?_) (fun cdv A outer s H vs Q E hr h=>?_)
 ·obtain⟨p,ns,rfl,_⟩:=h;rfl
 ·obtain⟨p,ns,rfl,hq,hl,k⟩:=h
  refine exW ⟨_,(qss_cons (qs_set (i:=1) sc_law.nd rfl (Or.inl rfl) (qe_call Z32 (hr.mono (by decide)) (by rfl) T.m__law_deck T.k__law_deck T.bd__law_deck .nil pass0 (qa (pv 0) qa_nil)))
   (qss_cons (qs_set (i:=2) sc_law.nd rfl (Or.inl rfl) (pe_make0 T.mk_Book Z28 (hr.mono (by decide)) (by rfl) T.mC_Book T.bd_Book_init .nil pass0 (by decide)))
   (qss_cons (qs_set (i:=3) sc_law.nd rfl (Or.inl rfl) pe_dnewT)
   (qss_cons (qs_expr (qe_call Z31 (hr.mono (by decide)) (by rfl) T.m__law_book T.k__law_book T.bd__law_book .nil pass0 (qa (pv 1) (qa (pv 2) (qa (pv 3) qa_nil)))))
   (qss_cons (qs_set (i:=4) sc_law.nd rfl (Or.inl rfl) (pe_meth0 (pv 2) T.cl_Book T.mt_Book_said Z5 (hr.mono (by decide)) T.bd_Book_said .nil pass0 (by rfl)))
   (qss_cons (qs_for PassesOwn.never rfl (qi_range1 (by rfl) T.b_range (qa pe_int qa_nil) (by rfl)) (pg_name (i:=5) sc_law.nd rfl (Or.inl rfl))
    (qss_cons (qs_set (i:=6) sc_law.nd rfl (Or.inl rfl) (qe_call Z29 (hr.mono (by decide)) (by rfl) T.m__law_asked T.k__law_asked T.bd__law_asked .nil pass0 (qa (pv 1) qa_nil)))
    (qss_cons (qs_set (i:=7) sc_law.nd rfl (Or.inl rfl) (qe_call Z33 (hr.mono (by decide)) (by rfl) T.m__law_done T.k__law_done T.bd__law_done .nil pass0 (qa (pv 3) (qa (pv 6) qa_nil))))
    (qss_cons (qs_if (pw_or (pt_cmpR on_isN (pv 7) pe_non (nomark _)) (pw_or1 (pt_cmpR op_eq (qe_call Z0 (hr.mono (by decide)) (by rfl) T.m__law_take T.k__law_take T.bd__law_take .nil pass0 (qa (pv 1) (qa pe_int qa_nil))) pe_int (nomark _)))).pt
     (qss_one (qs_set (i:=7) sc_law.nd rfl (Or.inl rfl) (qe_call Z34 (hr.mono (by decide)) (by rfl) T.m__law_made_up T.k__law_made_up T.bd__law_made_up .nil pass0 (qa (pv 1) (qa (pv 3) (qa (pv 6) qa_nil))))))
     qss_nil)
    (qss_cons (qs_if (pt_not (pt_val (qe_call Z10 (hr.mono (by decide)) (by rfl) T.m__law_says T.k__law_says T.bd__law_says .nil pass0 (qa (pv 2) (qa (pv 3) (qa (pv 6) (qa (pv 7) qa_nil))))) (by intro _;rfl)))
     (qss_one (qs_ret pe_bl))
     qss_nil)
    (qss_cons (qs_for PassesOwn.never rfl (qi_range1 (by rfl) T.b_range (qa pe_int qa_nil) (by rfl)) (pg_name (i:=8) sc_law.nd rfl (Or.inl rfl))
     (qss_cons (qs_set (i:=9) sc_law.nd rfl (Or.inl rfl) (qe_call Z30 (hr.mono (by decide)) (by rfl) T.m__law_bent T.k__law_bent T.bd__law_bent .nil pass0 (qa (pv 1) (qa (pv 7) qa_nil))))
     (qss_one (qs_if (pt_not (pt_val (qe_call Z10 (hr.mono (by decide)) (by rfl) T.m__law_says T.k__law_says T.bd__law_says .nil pass0 (qa (pv 2) (qa (pv 3) (qa (pv 6) (qa (pv 9) qa_nil))))) (by intro _;rfl)))
      (qss_one (qs_ret pe_bl))
      qss_nil))) (by intro _;rfl))
    (qss_one (qs_if (pw_or (pt_not (pt_val (qe_call Z9 (hr.mono (by decide)) (by rfl) T.m__law_no_rule T.k__law_no_rule T.bd__law_no_rule .nil pass0 (qa (pv 1) (qa (pv 2) (qa (pv 6) (qa (pv 7) qa_nil))))) (by intro _;rfl))) (pw_or1 (pt_not (pt_val (qe_call Z9 (hr.mono (by decide)) (by rfl) T.m__law_no_rule T.k__law_no_rule T.bd__law_no_rule .nil pass0 (qa (pv 1) (qa (pv 2) (qa (pv 6) (qa pe_non qa_nil))))) (by intro _;rfl))))).pt
     (qss_one (qs_ret pe_bl))
     qss_nil))))))) (by intro _;rfl))
   (qss_one (qs_ret (pe_cmpR (on_eqD hr) (pe_meth0 (pv 2) T.cl_Book T.mt_Book_said Z5 (hr.mono (by decide)) T.bd_Book_said .nil pass0 (by rfl)) (pv 4) (nomark _)))))))))),?_⟩
  try dsimp only[cxOf]
  refine rd_seq ?_
  walk_at"rs"
  refine⟨p,ns,rfl,hq,hl,fun st c r H1 S1 s1 n1=>?_⟩
  walk_at"rs"
  refine rd_seq ?_
  walk_at"rs"
  intro p0 x0 np0 nx0 ne0
  refine⟨p0,x0,rfl,upd_same,fun d0 H2 nd0 B0 kp0=>⟨rfl,?_⟩⟩
  have s12:Same H1 H2:=fun b o e=>kp0 b o (by rw[upd_ne (ne_of_none e np0),upd_ne (ne_of_none e nx0)];exact e) (ne_of_none e np0)
  have S2:=S1.same s12
  walk_at"rs"
  refine rd_seq ?_
  walk_at"rs"
  intro e0 nE0
  have s3:=Same.upd (o:=.dT []) nE0
  have gE0:upd H2 e0 (.dT []) e0=some (.dT []):=upd_same
  generalize upd H2 e0 (.dT [])=H3 at s3 gE0 ⊢
  have nde:d0≠e0:=ne_of_none B0.pb.dc nE0
  walk_at"rs"
  refine rd_seq ?_
  walk_at"rs"
  refine⟨st,c,r,_,p0,d0,e0,rfl,S2.same s3,by omega,B0.same s3,⟨gE0,fun q hq=>(by cases hq),List.nodup_nil⟩,nde,fun H4 fs gs S4 B4 G4 hv hl4 oks=>?_⟩
  have hlg:=vw_len hv
  walk_at"rs"
  refine rd_seq ?_
  walk_at"rs"
  obtain⟨dx4,h4⟩:=B4.ob
  refine⟨p0,_,_,rfl,h4,bkF_no _ (by decide +kernel),?_⟩
  walk_at"rs"
  refine⟨p0,d0,fs,rfl,B4,by omega,fun t5 ws H5 n5 q5 sl5 s5=>?_⟩
  walk_at"rs"
  refine rd_seq ?_
  walk_at"rs"
  refine⟨by decide,by decide,?_⟩
  have SlN:∀ {H' H'':Hp},SqT K H' t5 ws∧SayL K H' ws (saidV (vw4 fs))→NL H' H''→SqT K H'' t5 ws∧SayL K H'' ws (saidV (vw4 fs)):=fun ⟨h1,h2⟩ x=>⟨h1.nl x,h2.nl x⟩
  refine for_rangeW (fun i σ' H'=>∃o5 o6 o7 o8 o9:Option V,σ' = [some (.ref p),some (.ref st),some (.ref p0),some (.ref e0),some (.ref t5),o5,o6,o7,o8,o9]∧Dk H' st c r (200+300 * i)∧BkAt a.C_Book H' p0 d0 fs∧PB H' e0 gs∧SqT K H' t5 ws∧SayL K H' ws (saidV (vw4 fs))) ?_ ?_ ?_
  ·exact⟨none,none,none,none,none,rfl,(S4.same s5).mono (by omega),B4.same s5,G4.same s5,q5,sl5⟩
  ·rintro i σ' H6 hi ⟨o5,o6,o7,o8,o9,rfl,S6,B6,G6,sl6⟩
   have hi6:i<2:=hi
   refine rd_name ?_
   refine rd_seq ?_
   walk_at"rs"
   refine⟨st,c,r,_,rfl,S6,by omega,fun t rt line fork en one H7 n7 g7 hr7 hf hf1 e0' e1 l0 l1 q0 q8 S7 x7=>?_⟩
   have nl7:=nl_dk S6 x7
   have B7:=B6.nl nl7
   have G7:=G6.nl nl7
   have sl7:=SlN sl6 nl7
   obtain⟨rr,hd7,hw,_⟩:=hr7.dt (K:=K)
   walk_at"rs"
   refine rd_seq ?_
   walk_at"rs"
   refine⟨[st,c,r],e0,t,rt,gs,rr,line,fork,en,one,rfl,G7,by omega,g7,hd7,hw,hf,fun b hb=>S7.tr hb,fun y H8 hy s8=>?_⟩
   rw[← hv]at hy
   walk_at"rs"
   have okg:∀q∈vw4 gs,okS q:=fun q hq=>oks q (by rw[hv];exact hq)
   refine rd_seqK (fun σ' H'=>∃(q hp:Addr) (pl:Int) (hs:List Int) (o8 o9:Option V),σ' = [some (.ref p),some (.ref st),some (.ref p0),some (.ref e0),some (.ref t5),some (.int (0+i)),some (.ref t),some (.ref q),o8,o9]∧SqT K H' q [.int line,.int pl,.ref hp]∧SqT K H' hp (hs.map V.int)∧q ∉ [st,c,r]∧hp ∉ [st,c,r]∧0≤pl∧pl≤3000000∧hs.length<70∧1≤hs.length∧(∀h∈hs,0≤h∧h<8)∧Dk H' st c r (200+300 * i+13+1+70)∧Ext [st,r] H7 H') ?_ ?_
   ·rintro σ' H9 ⟨q,hp,pl,hs,o8,o9,rfl,hq,hh,nq,nh,pl0,pl1,hl,hl1,rg,S9,x9⟩
    have nl9:=nl_dk S7 x9
    have B9:=B7.nl nl9
    have G9:=G7.nl nl9
    have sl9:=SlN sl7 nl9
    have hr9:=hr7.nl nl9
    have g9:=nl9 _ _ g7 (fun _ z=>by cases z)
    have hhi:Mt.Itm 22000 2 (.tuple (hs.map PyData.int)):=(Mt.itm_tuple (n:=150) (w:=140) (k:=0) (fun d hd=>by
     obtain⟨z,hz,rfl⟩:=List.mem_map.mp hd
     have:=rg z hz
     exact Mt.itm_int (by omega)) (by rw[List.length_map];omega)).mono (by decide) (by decide)
    have hpi:Mt.Itm 90000 3 (.tuple [.int line,.int pl,.tuple (hs.map PyData.int)]):=(Mt.itm_tuple (n:=4) (w:=22000) (k:=2) (fun d hd=>by
     simp only[List.mem_cons,List.not_mem_nil,or_false]at hd
     rcases hd with rfl |rfl |rfl
     ·exact(Mt.itm_int (by omega)).mono (by decide) (by decide)
     ·exact(Mt.itm_int (by omega)).mono (by decide) (by decide)
     ·exact hhi) (by simp)).mono (by decide) (by decide)
    have dtP:∀ {H':Hp},SqT K H' q [.int line,.int pl,.ref hp]→SqT K H' hp (hs.map V.int)→Dt K [st,c,r] H' (.ref q) (.tuple [.int line,.int pl,.tuple (hs.map PyData.int)]):=fun h1 h2=>.tup h1 nq (.cons (.int _) (.cons (.int _) (.cons (.tup h2 nh (Mt.dtInts _)) .nil)))
    refine rd_seq ?_
    walk_at"rs"
    obtain⟨r9,hd9,hw9,_⟩:=hr9.dt (K:=K)
    refine⟨[st,c,r],p0,d0,e0,t,rt,fs,gs,r9,line,fork,en,one,.ref q,_,rfl,B9,G9,hv,by omega,by omega,oks,g9,hd9,hw9,hf,q0,q8,dtP hq hh,.inl ⟨_,_,hpi,by decide,by decide⟩,fun H10 s10=>?_⟩
    have S10:=S9.same s10
    walk_at"rs"
    refine rd_seq ?_
    walk_at"rs"
    refine⟨by decide,by decide,?_⟩
    refine for_rangeW (fun j σ' H'=>∃o8 o9:Option V,σ' = [some (.ref p),some (.ref st),some (.ref p0),some (.ref e0),some (.ref t5),some (.int (0+i)),some (.ref t),some (.ref q),o8,o9]∧Dk H' st c r (200+300 * i+84+20 * j)∧Ext [st,r] H9 H') ?_ ?_ ?_
    ·exact⟨o8,o9,rfl,S10.mono (by omega),Ext.same s10⟩
    ·rintro j σ' H11 hj ⟨o8',o9',rfl,S11,x11⟩
     have hj8:j<8:=hj
     refine rd_name ?_
     refine rd_seq ?_
     walk_at"rs"
     refine⟨st,c,r,_,q,hp,line,pl,hs,rfl,S11,by omega,x11.tup hq (nin_pr nq),nq,x11.tup hh (nin_pr nh),nh,l0,l1,pl0,pl1,hl,hl1,rg,fun y d H12 dy iy S12 x12=>?_⟩
     have nl12:=nl_dk S9 (x11.trans x12)
     walk_at"rs"
     obtain⟨r12,hd12,hw12,_⟩:=(hr9.nl nl12).dt (K:=K)
     refine⟨[st,c,r],p0,d0,e0,t,rt,fs,gs,r12,line,fork,en,one,y,d,rfl,B9.nl nl12,G9.nl nl12,hv,by omega,by omega,oks,nl12 _ _ g9 (fun _ z=>by cases z),hd12,hw12,hf,q0,q8,dy,iy,fun H13 s13=>?_⟩
     walk_at"rs"
     exact⟨_,_,rfl,(S12.same s13).mono (by omega),x11.trans (x12.trans (Ext.same s13))⟩
    ·rintro σ' H11 ⟨o8',o9',rfl,S11,x11⟩
     have nl11:=nl_dk S9 x11
     walk_at"rs"
     refine⟨st,c,r,_,p0,d0,t,rt,fs,line,fork,en,one,.ref q,_,rfl,dtP (x11.tup hq (nin_pr nq)) (x11.tup hh (nin_pr nh)),Mt.slim_of (Nat.le_trans hpi.wt (by decide)),S11,by omega,B9.nl nl11,by omega,nl11 _ _ g9 (fun _ z=>by cases z),fun H12 S12 x12=>?_⟩
     have nl12:=nl_dk S9 (x11.trans x12)
     walk_at"rs"
     refine⟨st,c,r,_,p0,d0,t,rt,fs,line,fork,en,one,.non,.none,rfl,.non,Mt.slim_of (by decide),S12,by omega,B9.nl nl12,by omega,nl12 _ _ g9 (fun _ z=>by cases z),fun H13 S13 x13=>?_⟩
     have nl13:=nl_dk S9 (x11.trans (x12.trans x13))
     walk_at"rs"
     exact⟨_,_,_,_,_,rfl,S13.mono (by omega),B9.nl nl13,G9.nl nl13,SlN sl9 nl13⟩
   ·intro hrest
    walk_at"rs"
    cases hdo:doneV (vw4 fs) line fork en one (rkD rr) (apD rr)with
    | none =>
     rw[hdo]at hy
     cases hy
     walk_at"rs"
     refine⟨st,c,r,_,e0,t,rt,gs,line,fork,en,one,rfl,S7.same s8,by omega,G7.same s8,by omega,okg,s8 _ _ g7,hr7.nl (NL.same s8),hf,hf1,e0',e1,q0,q8,fun q hp pl hs H9 hq hh nq nh pl0 pl1 hl hl1 rg S9 x9=>?_⟩
     walk_at"rs"
     exact hrest _ _ ⟨q,hp,pl,hs,_,_,rfl,hq,hh,nq,nh,pl0,pl1,hl,hl1,rg,S9.mono (by omega),(Ext.same s8).trans x9⟩
    | some z =>
     obtain⟨pl,hs⟩:=z
     rw[hdo]at hy
     have pa:=paper_of oks B4.pb.vnd hw hf q0 q8 hdo
     have hy':Dt K [st,c,r] H8 y (.tuple [.int line,.int pl,.tuple (hs.map PyData.int)]):=hy
     cases hy' with
     | @tup q xs _ hq nq hr =>
     cases hr with
     | cons r1 hr =>
     cases hr with
     | cons r2 hr =>
     cases hr with
     | cons r3 hr =>
     cases hr
     cases r1
     cases r2
     cases r3 with
     | @tup hp xs _ hh nh hah =>
     obtain rfl:=dt_ints hah
     have hl8:hs.length≤8:=by
      have h1:hs ⊆ (List.range 8).map fun (k:Nat)=>(k:Int):=fun x hx=>by
       obtain⟨r1,r2⟩:=pa.rg x hx
       exact List.mem_map.mpr ⟨x.toNat,List.mem_range.mpr (by omega),by omega⟩
      have:=List.Nodup.length_le_of_subset pa.nd h1
      simpa using this
     have hl1:1≤hs.length:=List.length_pos_of_mem pa.mem
     have pk:=pa.fk
     have pe:=pa.le
     walk_at"rs"
     refine⟨st,c,r,_,3,rfl,S7.same s8,by omega,by decide,by decide,fun v9 H9 a9 b9 S9 x9=>?_⟩
     walk_at"rs"
     have nl9:=nl_dk (S7.same s8) x9
     refine rd_ite2 (fun hc=>?_) (fun hc=>?_)
     ·walk_at"rs"
      refine⟨st,c,r,_,e0,t,rt,gs,line,fork,en,one,rfl,S9,by omega,(G7.same s8).nl nl9,by omega,okg,nl9 _ _ (s8 _ _ g7) (fun _ z=>by cases z),(hr7.nl (NL.same s8)).nl nl9,hf,hf1,e0',e1,q0,q8,fun q hp pl hs H10 hq hh nq nh pl0 pl1 hl hl1 rg S10 x10=>?_⟩
      walk_at"rs"
      exact hrest _ _ ⟨q,hp,pl,hs,_,_,rfl,hq,hh,nq,nh,pl0,pl1,hl,hl1,rg,S10.mono (by omega),(Ext.same s8).trans (x9.trans x10)⟩
     ·walk_at"rs"
      exact hrest _ _ ⟨q,hp,pl,hs,_,_,rfl,x9.tup hq (nin_pr nq),x9.tup hh (nin_pr nh),nq,nh,by omega,by omega,by omega,hl1,pa.rg,S9.mono (by omega),(Ext.same s8).trans x9⟩
  ·rintro σ' H6 ⟨o5,o6,o7,o8,o9,rfl,S6,B6,G6,q6,sl6⟩
   walk_at"rs"
   obtain⟨dx6,h6⟩:=B6.ob
   refine⟨p0,_,_,rfl,h6,bkF_no _ (by decide +kernel),?_⟩
   walk_at"rs"
   refine⟨p0,d0,fs,rfl,B6,by omega,fun t7 ws7 H7 n7 q7 sl7 s7=>?_⟩
   walk_at"rs"
   refine rd_eqD (d:=.tuple ((saidV (vw4 fs)).map sayT)) (e:=.tuple ((saidV (vw4 fs)).map sayT)) (N:=[]) (.tup q7 (by simp) sl7.dt) (.tup (s7.tupS q6) (by simp) (sl6.same s7).dt) (said_shaped _) (said_shaped _) ?_
   rw[said_eqv]
   exact k _
end
theorem txt_mk {P:Program}{K:PySem.W.Frag}{h:Heap}{mg:Str→Option Value}(X:K.In h)(G:h.Ns mainGlobals mg)
    {Ah Ai Aj Ak Al Am Ao Ap Aq Ar As Ae Af Ag At Au Av Aw Ax Ay Az A0 A1 A2 A3 A4 A5 A6 A7 A8 A9 Ba Bb Bc Bd Be Ac Ad Bf Bg Bh Aa Ab Bi Cq Ip Bj Cr Is Bl:Addr}{Ky Dt K1 Dy K4 D3 K7 D8 La Ed Ld Br Lg Ei Lj En Lm Es Lp Ex Ls E2 Lv E7 Ly Fc L1 Fh L4 Fm L7 Fr Ma Fw Md F1 Mg F6 Mj Gb Mm Gg Mp Gl Ms Gq Mv Gv My G0 M1 G5 M4 Ha M7 Hf Na Hk Nd Hp Ng Hu Nj Hz Nm H4 Np H9 Nt Ie Nw Ij Nz N0 N1 N2 Od Oe Of Og Or:Option Addr}{Kz K2 K5 K8 Lb Le Lh Lk Ln Lq Lt Lw Lz L2 L5 L8 Mb Me Mh Mk Mn Mq Mt Mw Mz M2 M5 M8 Nb Ne Nh Nk Nn Nq Nu Nx N3 N4 N5 Oh Oi Oj Ot:Array (Option Value)}{K0 Du Dv Dw Bm Dx K3 Dz D0 D1 Bn D2 K6 D4 D5 D6 Bo D7 K9 D9 Ea Eb Bp Ec Lc Ee Ef Eg Bq Eh Lf Bs Bt Bu An Bv Li Ej Ek El Bw Em Ll Eo Ep Eq Bx Er Lo Et Eu Ev By Ew Lr Ey Ez E0 Bz E1 Lu E3 E4 E5 B0 E6 Lx E8 E9 Fa B1 Fb L0 Fd Fe Ff B2 Fg L3 Fi Fj Fk B3 Fl L6 Fn Fo Fp B4 Fq L9 Fs Ft Fu B5 Fv Mc Fx Fy Fz B6 F0 Mf F2 F3 F4 B7 F5 Mi F7 F8 F9 B8 Ga Ml Gc Gd Ge B9 Gf Mo Gh Gi Gj Ca Gk Mr Gm Gn Go Cb Gp Mu Gr Gs Gt Cc Gu Mx Gw Gx Gy Cd Gz M0 G1 G2 G3 Ce G4 M3 G6 G7 G8 Cf G9 M6 Hb Hc Hd Cg He M9 Hg Hh Hi Ch Hj Nc Hl Hm Hn Ci Ho Nf Hq Hr Hs Cj Ht Ni Hv Hw Hx Ck Hy Nl H0 H1 H2 Cl H3 No H5 H6 H7 Cm H8 Nr Ia Ib Ic Cn Id Nv If Ig Ih Co Ii Ny Ik Il Im Cp Io N6 N7 N8 N9 Oa Ob Ok Ol Om On Oo Op Bk Cs Ct:Value}{Iq It:Array Value}{Ir Iu:Str}{Oc Oq Ou:Tok}{Os:Nat}
    (Ov:PySem.W.nsIn K mainGlobals "is_number" = some (some (.ref Ah)))
    (Iv:K.lookup Ah=some ⟨K0,Ky,.func (PySem.W.fnOf "is_number" "is_number" (defArgs s_is_number) (defBody s_is_number) (defScope s_is_number) .none Du Dv Dw Dt Bm Dx),Kz⟩)
    (Iw:PySem.W.codeIn K Bm "is_number" = true)
    (Cu:PySem.W.keepIn K (.ref Ah)=true)
    (Ow:PySem.W.nsIn K mainGlobals "is_within" = some (some (.ref Ai)))
    (Ix:K.lookup Ai=some ⟨K3,K1,.func (PySem.W.fnOf "is_within" "is_within" (defArgs s_is_within) (defBody s_is_within) (defScope s_is_within) .none Dz D0 D1 Dy Bn D2),K2⟩)
    (Iy:PySem.W.codeIn K Bn "is_within" = true)
    (Cv:PySem.W.keepIn K (.ref Ai)=true)
    (Ox:PySem.W.nsIn K mainGlobals "is_place" = some (some (.ref Aj)))
    (Iz:K.lookup Aj=some ⟨K6,K4,.func (PySem.W.fnOf "is_place" "is_place" (defArgs s_is_place) (defBody s_is_place) (defScope s_is_place) .none D4 D5 D6 D3 Bo D7),K5⟩)
    (I0:PySem.W.codeIn K Bo "is_place" = true)
    (Cw:PySem.W.keepIn K (.ref Aj)=true)
    (Oy:PySem.W.nsIn K mainGlobals "is_line" = some (some (.ref Ak)))
    (I1:K.lookup Ak=some ⟨K9,K7,.func (PySem.W.fnOf "is_line" "is_line" (defArgs s_is_line) (defBody s_is_line) (defScope s_is_line) .none D9 Ea Eb D8 Bp Ec),K8⟩)
    (I2:PySem.W.codeIn K Bp "is_line" = true)
    (Cx:PySem.W.keepIn K (.ref Ak)=true)
    (Oz:PySem.W.nsIn K mainGlobals "is_word" = some (some (.ref Al)))
    (I3:K.lookup Al=some ⟨Lc,La,.func (PySem.W.fnOf "is_word" "is_word" (defArgs s_is_word) (defBody s_is_word) (defScope s_is_word) .none Ee Ef Eg Ed Bq Eh),Lb⟩)
    (I4:PySem.W.codeIn K Bq "is_word" = true)
    (Cy:PySem.W.keepIn K (.ref Al)=true)
    (O0:PySem.W.nsIn K mainGlobals "is_house" = some (some (.ref Am)))
    (I5:K.lookup Am=some ⟨Lf,Ld,.func (PySem.W.fnOf "is_house" "is_house" (defArgs s_is_house) (defBody s_is_house) (defScope s_is_house) .none Bs Bt Bu Br An Bv),Le⟩)
    (I6:PySem.W.codeIn K An "is_house" = true)
    (Cz:PySem.W.keepIn K (.ref Am)=true)
    (O1:PySem.W.nsIn K mainGlobals "is_counted_rule" = some (some (.ref Ao)))
    (I7:K.lookup Ao=some ⟨Li,Lg,.func (PySem.W.fnOf "is_counted_rule" "is_counted_rule" (defArgs s_is_counted_rule) (defBody s_is_counted_rule) (defScope s_is_counted_rule) .none Ej Ek El Ei Bw Em),Lh⟩)
    (I8:PySem.W.codeIn K Bw "is_counted_rule" = true)
    (C0:PySem.W.keepIn K (.ref Ao)=true)
    (O2:PySem.W.nsIn K mainGlobals "is_rule" = some (some (.ref Ap)))
    (I9:K.lookup Ap=some ⟨Ll,Lj,.func (PySem.W.fnOf "is_rule" "is_rule" (defArgs s_is_rule) (defBody s_is_rule) (defScope s_is_rule) .none Eo Ep Eq En Bx Er),Lk⟩)
    (Ja:PySem.W.codeIn K Bx "is_rule" = true)
    (C1:PySem.W.keepIn K (.ref Ap)=true)
    (O3:PySem.W.nsIn K mainGlobals "require_rule" = some (some (.ref Aq)))
    (Jb:K.lookup Aq=some ⟨Lo,Lm,.func (PySem.W.fnOf "require_rule" "require_rule" (defArgs s_require_rule) (defBody s_require_rule) (defScope s_require_rule) .none Et Eu Ev Es By Ew),Ln⟩)
    (Jc:PySem.W.codeIn K By "require_rule" = true)
    (C2:PySem.W.keepIn K (.ref Aq)=true)
    (O4:PySem.W.nsIn K mainGlobals "need" = some (some (.ref Ar)))
    (Jd:K.lookup Ar=some ⟨Lr,Lp,.func (PySem.W.fnOf "need" "need" (defArgs s_need) (defBody s_need) (defScope s_need) .none Ey Ez E0 Ex Bz E1),Lq⟩)
    (Je:PySem.W.codeIn K Bz "need" = true)
    (C3:PySem.W.keepIn K (.ref Ar)=true)
    (O5:PySem.W.nsIn K mainGlobals "is_saying" = some (some (.ref As)))
    (Jf:K.lookup As=some ⟨Lu,Ls,.func (PySem.W.fnOf "is_saying" "is_saying" (defArgs s_is_saying) (defBody s_is_saying) (defScope s_is_saying) .none E3 E4 E5 E2 B0 E6),Lt⟩)
    (Jg:PySem.W.codeIn K B0 "is_saying" = true)
    (C4:PySem.W.keepIn K (.ref As)=true)
    (O6:PySem.W.findIn K (.ref Ac) "__init__" = some (some (.ref Ae)))
    (O7:PySem.W.isFn K (.ref Ae)=true)
    (Jh:K.lookup Ae=some ⟨Lx,Lv,.func (PySem.W.fnOf "__init__" "Book.__init__" (defArgs s_Book_init) (defBody s_Book_init) (defScope s_Book_init) .none E8 E9 Fa E7 B1 Fb),Lw⟩)
    (Ji:PySem.W.codeIn K B1 "Book.__init__" = true)
    (Jj:PySem.W.keepIn K (.ref Ae)=true)
    (O8:PySem.W.findIn K (.ref Ac) "note" = some (some (.ref Af)))
    (O9:PySem.W.isFn K (.ref Af)=true)
    (Jk:K.lookup Af=some ⟨L0,Ly,.func (PySem.W.fnOf "note" "Book.note" (defArgs s_Book_note) (defBody s_Book_note) (defScope s_Book_note) .none Fd Fe Ff Fc B2 Fg),Lz⟩)
    (Jl:PySem.W.codeIn K B2 "Book.note" = true)
    (C5:PySem.W.keepIn K (.ref Af)=true)
    (Pa:PySem.W.findIn K (.ref Ac) "said" = some (some (.ref Ag)))
    (Pb:PySem.W.isFn K (.ref Ag)=true)
    (Jm:K.lookup Ag=some ⟨L3,L1,.func (PySem.W.fnOf "said" "Book.said" (defArgs s_Book_said) (defBody s_Book_said) (defScope s_Book_said) .none Fi Fj Fk Fh B3 Fl),L2⟩)
    (Jn:PySem.W.codeIn K B3 "Book.said" = true)
    (C6:PySem.W.keepIn K (.ref Ag)=true)
    (Pc:PySem.W.nsIn K mainGlobals "counted" = some (some (.ref At)))
    (Jo:K.lookup At=some ⟨L6,L4,.func (PySem.W.fnOf "counted" "counted" (defArgs s_counted) (defBody s_counted) (defScope s_counted) .none Fn Fo Fp Fm B4 Fq),L5⟩)
    (Jp:PySem.W.codeIn K B4 "counted" = true)
    (C7:PySem.W.keepIn K (.ref At)=true)
    (Pd:PySem.W.nsIn K mainGlobals "others_told" = some (some (.ref Au)))
    (Jq:K.lookup Au=some ⟨L9,L7,.func (PySem.W.fnOf "others_told" "others_told" (defArgs s_others_told) (defBody s_others_told) (defScope s_others_told) .none Fs Ft Fu Fr B5 Fv),L8⟩)
    (Jr:PySem.W.codeIn K B5 "others_told" = true)
    (C8:PySem.W.keepIn K (.ref Au)=true)
    (Pe:PySem.W.nsIn K mainGlobals "is_rising" = some (some (.ref Av)))
    (Js:K.lookup Av=some ⟨Mc,Ma,.func (PySem.W.fnOf "is_rising" "is_rising" (defArgs s_is_rising) (defBody s_is_rising) (defScope s_is_rising) .none Fx Fy Fz Fw B6 F0),Mb⟩)
    (Jt:PySem.W.codeIn K B6 "is_rising" = true)
    (C9:PySem.W.keepIn K (.ref Av)=true)
    (Pf:PySem.W.nsIn K mainGlobals "is_done_paper" = some (some (.ref Aw)))
    (Ju:K.lookup Aw=some ⟨Mf,Md,.func (PySem.W.fnOf "is_done_paper" "is_done_paper" (defArgs s_is_done_paper) (defBody s_is_done_paper) (defScope s_is_done_paper) .none F2 F3 F4 F1 B7 F5),Me⟩)
    (Jv:PySem.W.codeIn K B7 "is_done_paper" = true)
    (Da:PySem.W.keepIn K (.ref Aw)=true)
    (Pg:PySem.W.nsIn K mainGlobals "right_done" = some (some (.ref Ax)))
    (Jw:K.lookup Ax=some ⟨Mi,Mg,.func (PySem.W.fnOf "right_done" "right_done" (defArgs s_right_done) (defBody s_right_done) (defScope s_right_done) .none F7 F8 F9 F6 B8 Ga),Mh⟩)
    (Jx:PySem.W.codeIn K B8 "right_done" = true)
    (Db:PySem.W.keepIn K (.ref Ax)=true)
    (Ph:PySem.W.nsIn K mainGlobals "_law_deck" = some (some (.ref Ay)))
    (Jy:K.lookup Ay=some ⟨Ml,Mj,.func (PySem.W.fnOf "_law_deck" "_law_deck" (defArgs s_law_deck) (defBody s_law_deck) (defScope s_law_deck) .none Gc Gd Ge Gb B9 Gf),Mk⟩)
    (Jz:PySem.W.codeIn K B9 "_law_deck" = true)
    (Dc:PySem.W.keepIn K (.ref Ay)=true)
    (Pi:PySem.W.nsIn K mainGlobals "_law_take" = some (some (.ref Az)))
    (J0:K.lookup Az=some ⟨Mo,Mm,.func (PySem.W.fnOf "_law_take" "_law_take" (defArgs s_law_take) (defBody s_law_take) (defScope s_law_take) .none Gh Gi Gj Gg Ca Gk),Mn⟩)
    (J1:PySem.W.codeIn K Ca "_law_take" = true)
    (Dd:PySem.W.keepIn K (.ref Az)=true)
    (Pj:PySem.W.nsIn K mainGlobals "_law_saying" = some (some (.ref A0)))
    (J2:K.lookup A0=some ⟨Mr,Mp,.func (PySem.W.fnOf "_law_saying" "_law_saying" (defArgs s_law_saying) (defBody s_law_saying) (defScope s_law_saying) .none Gm Gn Go Gl Cb Gp),Mq⟩)
    (J3:PySem.W.codeIn K Cb "_law_saying" = true)
    (De:PySem.W.keepIn K (.ref A0)=true)
    (Pk:PySem.W.nsIn K mainGlobals "_law_put" = some (some (.ref A1)))
    (J4:K.lookup A1=some ⟨Mu,Ms,.func (PySem.W.fnOf "_law_put" "_law_put" (defArgs s_law_put) (defBody s_law_put) (defScope s_law_put) .none Gr Gs Gt Gq Cc Gu),Mt⟩)
    (J5:PySem.W.codeIn K Cc "_law_put" = true)
    (Df:PySem.W.keepIn K (.ref A1)=true)
    (Pl:PySem.W.nsIn K mainGlobals "_law_rule" = some (some (.ref A2)))
    (J6:K.lookup A2=some ⟨Mx,Mv,.func (PySem.W.fnOf "_law_rule" "_law_rule" (defArgs s_law_rule) (defBody s_law_rule) (defScope s_law_rule) .none Gw Gx Gy Gv Cd Gz),Mw⟩)
    (J7:PySem.W.codeIn K Cd "_law_rule" = true)
    (Dg:PySem.W.keepIn K (.ref A2)=true)
    (Pm:PySem.W.nsIn K mainGlobals "_law_numbers" = some (some (.ref A3)))
    (J8:K.lookup A3=some ⟨M0,My,.func (PySem.W.fnOf "_law_numbers" "_law_numbers" (defArgs s_law_numbers) (defBody s_law_numbers) (defScope s_law_numbers) .none G1 G2 G3 G0 Ce G4),Mz⟩)
    (J9:PySem.W.codeIn K Ce "_law_numbers" = true)
    (Dh:PySem.W.keepIn K (.ref A3)=true)
    (Pn:PySem.W.nsIn K mainGlobals "_law_done" = some (some (.ref A4)))
    (Ka:K.lookup A4=some ⟨M3,M1,.func (PySem.W.fnOf "_law_done" "_law_done" (defArgs s_law_done) (defBody s_law_done) (defScope s_law_done) .none G6 G7 G8 G5 Cf G9),M2⟩)
    (Kb:PySem.W.codeIn K Cf "_law_done" = true)
    (Di:PySem.W.keepIn K (.ref A4)=true)
    (Po:PySem.W.nsIn K mainGlobals "_law_asked" = some (some (.ref A5)))
    (Kc:K.lookup A5=some ⟨M6,M4,.func (PySem.W.fnOf "_law_asked" "_law_asked" (defArgs s_law_asked) (defBody s_law_asked) (defScope s_law_asked) .none Hb Hc Hd Ha Cg He),M5⟩)
    (Kd:PySem.W.codeIn K Cg "_law_asked" = true)
    (Dj:PySem.W.keepIn K (.ref A5)=true)
    (Pp:PySem.W.nsIn K mainGlobals "_law_book" = some (some (.ref A6)))
    (Ke:K.lookup A6=some ⟨M9,M7,.func (PySem.W.fnOf "_law_book" "_law_book" (defArgs s_law_book) (defBody s_law_book) (defScope s_law_book) .none Hg Hh Hi Hf Ch Hj),M8⟩)
    (Kf:PySem.W.codeIn K Ch "_law_book" = true)
    (Dk:PySem.W.keepIn K (.ref A6)=true)
    (Pq:PySem.W.nsIn K mainGlobals "_law_whole" = some (some (.ref A7)))
    (Kg:K.lookup A7=some ⟨Nc,Na,.func (PySem.W.fnOf "_law_whole" "_law_whole" (defArgs s_law_whole) (defBody s_law_whole) (defScope s_law_whole) .none Hl Hm Hn Hk Ci Ho),Nb⟩)
    (Kh:PySem.W.codeIn K Ci "_law_whole" = true)
    (Dl:PySem.W.keepIn K (.ref A7)=true)
    (Pr:PySem.W.nsIn K mainGlobals "_law_right" = some (some (.ref A8)))
    (Ki:K.lookup A8=some ⟨Nf,Nd,.func (PySem.W.fnOf "_law_right" "_law_right" (defArgs s_law_right) (defBody s_law_right) (defScope s_law_right) .none Hq Hr Hs Hp Cj Ht),Ne⟩)
    (Kj:PySem.W.codeIn K Cj "_law_right" = true)
    (Dm:PySem.W.keepIn K (.ref A8)=true)
    (Ps:PySem.W.nsIn K mainGlobals "_law_made_up" = some (some (.ref A9)))
    (Kk:K.lookup A9=some ⟨Ni,Ng,.func (PySem.W.fnOf "_law_made_up" "_law_made_up" (defArgs s_law_made_up) (defBody s_law_made_up) (defScope s_law_made_up) .none Hv Hw Hx Hu Ck Hy),Nh⟩)
    (Kl:PySem.W.codeIn K Ck "_law_made_up" = true)
    (Dn:PySem.W.keepIn K (.ref A9)=true)
    (Pt:PySem.W.nsIn K mainGlobals "_law_bent_houses" = some (some (.ref Ba)))
    (Km:K.lookup Ba=some ⟨Nl,Nj,.func (PySem.W.fnOf "_law_bent_houses" "_law_bent_houses" (defArgs s_law_bent_houses) (defBody s_law_bent_houses) (defScope s_law_bent_houses) .none H0 H1 H2 Hz Cl H3),Nk⟩)
    (Kn:PySem.W.codeIn K Cl "_law_bent_houses" = true)
    (Do:PySem.W.keepIn K (.ref Ba)=true)
    (Pu:PySem.W.nsIn K mainGlobals "_law_bent" = some (some (.ref Bb)))
    (Ko:K.lookup Bb=some ⟨No,Nm,.func (PySem.W.fnOf "_law_bent" "_law_bent" (defArgs s_law_bent) (defBody s_law_bent) (defScope s_law_bent) .none H5 H6 H7 H4 Cm H8),Nn⟩)
    (Kp:PySem.W.codeIn K Cm "_law_bent" = true)
    (Dp:PySem.W.keepIn K (.ref Bb)=true)
    (Pv:PySem.W.nsIn K mainGlobals "_law_says" = some (some (.ref Bc)))
    (Kq:K.lookup Bc=some ⟨Nr,Np,.func (PySem.W.fnOf "_law_says" "_law_says" (defArgs s_law_says) (defBody s_law_says) (defScope s_law_says) .none Ia Ib Ic H9 Cn Id),Nq⟩)
    (Kr:PySem.W.codeIn K Cn "_law_says" = true)
    (Dq:PySem.W.keepIn K (.ref Bc)=true)
    (Pw:PySem.W.nsIn K mainGlobals "_law_no_rule" = some (some (.ref Bd)))
    (Ks:K.lookup Bd=some ⟨Nv,Nt,.func (PySem.W.fnOf "_law_no_rule" "_law_no_rule" (defArgs s_law_no_rule) (defBody s_law_no_rule) (defScope s_law_no_rule) .none If Ig Ih Ie Co Ii),Nu⟩)
    (Kt:PySem.W.codeIn K Co "_law_no_rule" = true)
    (Dr:PySem.W.keepIn K (.ref Bd)=true)
    (Px:PySem.W.nsIn K mainGlobals "law" = some (some (.ref Be)))
    (Ku:K.lookup Be=some ⟨Ny,Nw,.func (PySem.W.fnOf "law" "law" (defArgs s_law) (defBody s_law) (defScope s_law) .none Ik Il Im Ij Cp Io),Nx⟩)
    (Kv:PySem.W.codeIn K Cp "law" = true)
    (Ds:PySem.W.keepIn K (.ref Be)=true)
    (Py:PySem.W.nsIn K mainGlobals "ValueError" = some none)
    (Pz:PySem.W.nsIn K mainGlobals "all" = some none)
    (P0:PySem.W.nsIn K mainGlobals "bool" = some none)
    (P1:PySem.W.nsIn K mainGlobals "int" = some none)
    (P2:PySem.W.nsIn K mainGlobals "isinstance" = some none)
    (P3:PySem.W.nsIn K mainGlobals "len" = some none)
    (P4:PySem.W.nsIn K mainGlobals "list" = some none)
    (P5:PySem.W.nsIn K mainGlobals "max" = some none)
    (P6:PySem.W.nsIn K mainGlobals "min" = some none)
    (P7:PySem.W.nsIn K mainGlobals "range" = some none)
    (P8:PySem.W.nsIn K mainGlobals "repr" = some none)
    (P9:PySem.W.nsIn K mainGlobals "set" = some none)
    (Qa:PySem.W.nsIn K mainGlobals "sorted" = some none)
    (Qb:PySem.W.nsIn K mainGlobals "str" = some none)
    (Qc:PySem.W.nsIn K mainGlobals "tuple" = some none)
    (Qd:PySem.W.nsIn K mainGlobals "zip" = some none)
    (Qe:PySem.W.nsIn K mainGlobals "Book" = some (some (.ref Ac)))
    (Qf:PySem.W.nsIn K mainGlobals "LineError" = some (some (.ref Ad)))
    (Qg:PySem.W.nsIn K mainGlobals "NoCount" = some (some (.ref Bf)))
    (Qh:PySem.W.nsIn K mainGlobals "NoHouse" = some (some (.ref Bg)))
    (Qi:PySem.W.nsIn K mainGlobals "NoPlace" = some (some (.ref Bh)))
    (Qj:PySem.W.nsIn K mainGlobals "NoRule" = some (some (.ref Aa)))
    (Qk:PySem.W.nsIn K mainGlobals "NoSaying" = some (some (.ref Ab)))
    (Ql:PySem.W.plainGet K Ac Str.empty=true)
    (Qm:PySem.W.hasDictIn K Ac=true)
    (Qn:PySem.W.plainOver K Ac=true)
    (Qo:PySem.W.findIn K (.ref Ac) "__setattr__" = some (some (.builtin "object.__setattr__")))
    (Qp:PySem.W.findIn K (.ref Ac) "sayings" = some none)
    (Qq:PySem.W.makesIn K Ac=true)
    (Qr:PySem.W.keepIn K (.ref Ac)=true)
    (Kw:PySem.W.nsIn K mainGlobals "super" = some none)
    (Kx:(P.main.scope.names.lookup ("super":Str)).isSome=false)
    (Rz:PySem.W.findIn K (.ref Aa) "__init__" = some (some (.ref Bi)))
    (Qs:K.lookup Bi=some ⟨.type "function",Nz,.func (PySem.W.ksFn "__init__" "NoRule.__init__" (defArgs t_NoRule) (defBody t_NoRule) (defScope t_NoRule) .none N6 N7 N8 N0 (.ref Cq) N9 Ip),N3⟩)
    (Qt:PySem.W.codeIn K (.ref Cq) "NoRule.__init__" = true)
    (Qu:K.lookup Cq=some ⟨Oa,N1,.fields Iq,N4⟩)
    (Qv:Iq[2]? = some (.str Ir Oc))
    (Qw:((P.main.file:Str) == Ir)=true)
    (Qx:K.lookup Ip=some ⟨Ob,N2,.cell (some (.ref Aa)),N5⟩)
    (Qy:xk1In K Aa Ad "zzplace" = true)
    (Qz:xcIn K Aa (some (.ref Bi))=true)
    (Q0:PySem.W.keepIn K (.ref Aa)=true)
    (R0:PySem.W.findIn K (.ref Ab) "__init__" = some (some (.ref Bj)))
    (Q1:K.lookup Bj=some ⟨.type "function",Od,.func (PySem.W.ksFn "__init__" "NoSaying.__init__" (defArgs t_NoSaying) (defBody t_NoSaying) (defScope t_NoSaying) .none Ok Ol Om Oe (.ref Cr) On Is),Oh⟩)
    (Q2:PySem.W.codeIn K (.ref Cr) "NoSaying.__init__" = true)
    (Q3:K.lookup Cr=some ⟨Oo,Of,.fields It,Oi⟩)
    (Q4:It[2]? = some (.str Iu Oq))
    (Q5:((P.main.file:Str) == Iu)=true)
    (Q6:K.lookup Is=some ⟨Op,Og,.cell (some (.ref Ab)),Oj⟩)
    (Q7:xk1In K Ab Ad "zzplace" = true)
    (Q8:xcIn K Ab (some (.ref Bj))=true)
    (Q9:PySem.W.keepIn K (.ref Ab)=true)
    (Ra:xgIn K Aa=true)
    (Rb:PySem.W.exmOne K (.ref Aa) (.ref Ad)=some true)
    (Rc:PySem.W.kitOne K (.ref Aa) (.ref Bf)=some false)
    (Rd:PySem.W.kitOne K (.ref Aa) (.ref Bg)=some false)
    (Re:PySem.W.kitOne K (.ref Aa) (.ref Bh)=some false)
    (Rf:PySem.W.kitOne K (.ref Aa) (.ref Aa)=some true)
    (Rg:PySem.W.kitOne K (.ref Aa) (.ref Ab)=some false)
    (Rh:PySem.W.kitOne K (.ref Aa) (.type "ValueError")=some true)
    (Ri:xgIn K Ab=true)
    (Rj:PySem.W.exmOne K (.ref Ab) (.ref Ad)=some true)
    (Rk:PySem.W.kitOne K (.ref Ab) (.ref Bf)=some false)
    (Rl:PySem.W.kitOne K (.ref Ab) (.ref Bg)=some false)
    (Rm:PySem.W.kitOne K (.ref Ab) (.ref Bh)=some false)
    (Rn:PySem.W.kitOne K (.ref Ab) (.ref Aa)=some false)
    (Ro:PySem.W.kitOne K (.ref Ab) (.ref Ab)=some true)
    (Rp:PySem.W.kitOne K (.ref Ab) (.type "ValueError")=some true)
    (Rq:PySem.W.nsIn K mainGlobals "HOUSES" = some (some Bk))
    (Rr:RelV (.int 8) Bk)
    (Rs:PySem.W.nsIn K mainGlobals "LAST_LINE" = some (some Cs))
    (Rt:RelV (.int 1000000000) Cs)
    (Ru:PySem.W.nsIn K mainGlobals "LAST_PLACE" = some (some Ct))
    (Rv:RelV (.int 1000000) Ct)
    (Rw:PySem.W.nsIn K mainGlobals "WRITTEN" = some (some (.ref Bl)))
    (Rx:K.lookup Bl=some ⟨.type "tuple",Or,.seq #[.str "written" Ou] Os,Ot⟩)
    (Ry:∀(u:Value) S,PySem.W.peek K S (bindArgs (PySem.W.fnOf "is_house" "is_house" (defArgs s_is_house) (defBody s_is_house) (defScope s_is_house) .none Bs Bt Bu Br An Bv) ⟨[u],[]⟩)=some [(("thing":Str),u),(("houses":Str),Bk)]) :
    ∃a,Txt P K mg a:=by
  exact⟨⟨Ah,PySem.W.fnOf "is_number" "is_number" (defArgs s_is_number) (defBody s_is_number) (defScope s_is_number) .none Du Dv Dw Dt Bm Dx,Ai,PySem.W.fnOf "is_within" "is_within" (defArgs s_is_within) (defBody s_is_within) (defScope s_is_within) .none Dz D0 D1 Dy Bn D2,Aj,PySem.W.fnOf "is_place" "is_place" (defArgs s_is_place) (defBody s_is_place) (defScope s_is_place) .none D4 D5 D6 D3 Bo D7,Ak,PySem.W.fnOf "is_line" "is_line" (defArgs s_is_line) (defBody s_is_line) (defScope s_is_line) .none D9 Ea Eb D8 Bp Ec,Al,PySem.W.fnOf "is_word" "is_word" (defArgs s_is_word) (defBody s_is_word) (defScope s_is_word) .none Ee Ef Eg Ed Bq Eh,Am,PySem.W.fnOf "is_house" "is_house" (defArgs s_is_house) (defBody s_is_house) (defScope s_is_house) .none Bs Bt Bu Br An Bv,Ao,PySem.W.fnOf "is_counted_rule" "is_counted_rule" (defArgs s_is_counted_rule) (defBody s_is_counted_rule) (defScope s_is_counted_rule) .none Ej Ek El Ei Bw Em,Ap,PySem.W.fnOf "is_rule" "is_rule" (defArgs s_is_rule) (defBody s_is_rule) (defScope s_is_rule) .none Eo Ep Eq En Bx Er,Aq,PySem.W.fnOf "require_rule" "require_rule" (defArgs s_require_rule) (defBody s_require_rule) (defScope s_require_rule) .none Et Eu Ev Es By Ew,Ar,PySem.W.fnOf "need" "need" (defArgs s_need) (defBody s_need) (defScope s_need) .none Ey Ez E0 Ex Bz E1,As,PySem.W.fnOf "is_saying" "is_saying" (defArgs s_is_saying) (defBody s_is_saying) (defScope s_is_saying) .none E3 E4 E5 E2 B0 E6,Ae,PySem.W.fnOf "__init__" "Book.__init__" (defArgs s_Book_init) (defBody s_Book_init) (defScope s_Book_init) .none E8 E9 Fa E7 B1 Fb,Af,PySem.W.fnOf "note" "Book.note" (defArgs s_Book_note) (defBody s_Book_note) (defScope s_Book_note) .none Fd Fe Ff Fc B2 Fg,Ag,PySem.W.fnOf "said" "Book.said" (defArgs s_Book_said) (defBody s_Book_said) (defScope s_Book_said) .none Fi Fj Fk Fh B3 Fl,At,PySem.W.fnOf "counted" "counted" (defArgs s_counted) (defBody s_counted) (defScope s_counted) .none Fn Fo Fp Fm B4 Fq,Au,PySem.W.fnOf "others_told" "others_told" (defArgs s_others_told) (defBody s_others_told) (defScope s_others_told) .none Fs Ft Fu Fr B5 Fv,Av,PySem.W.fnOf "is_rising" "is_rising" (defArgs s_is_rising) (defBody s_is_rising) (defScope s_is_rising) .none Fx Fy Fz Fw B6 F0,Aw,PySem.W.fnOf "is_done_paper" "is_done_paper" (defArgs s_is_done_paper) (defBody s_is_done_paper) (defScope s_is_done_paper) .none F2 F3 F4 F1 B7 F5,Ax,PySem.W.fnOf "right_done" "right_done" (defArgs s_right_done) (defBody s_right_done) (defScope s_right_done) .none F7 F8 F9 F6 B8 Ga,Ay,PySem.W.fnOf "_law_deck" "_law_deck" (defArgs s_law_deck) (defBody s_law_deck) (defScope s_law_deck) .none Gc Gd Ge Gb B9 Gf,Az,PySem.W.fnOf "_law_take" "_law_take" (defArgs s_law_take) (defBody s_law_take) (defScope s_law_take) .none Gh Gi Gj Gg Ca Gk,A0,PySem.W.fnOf "_law_saying" "_law_saying" (defArgs s_law_saying) (defBody s_law_saying) (defScope s_law_saying) .none Gm Gn Go Gl Cb Gp,A1,PySem.W.fnOf "_law_put" "_law_put" (defArgs s_law_put) (defBody s_law_put) (defScope s_law_put) .none Gr Gs Gt Gq Cc Gu,A2,PySem.W.fnOf "_law_rule" "_law_rule" (defArgs s_law_rule) (defBody s_law_rule) (defScope s_law_rule) .none Gw Gx Gy Gv Cd Gz,A3,PySem.W.fnOf "_law_numbers" "_law_numbers" (defArgs s_law_numbers) (defBody s_law_numbers) (defScope s_law_numbers) .none G1 G2 G3 G0 Ce G4,A4,PySem.W.fnOf "_law_done" "_law_done" (defArgs s_law_done) (defBody s_law_done) (defScope s_law_done) .none G6 G7 G8 G5 Cf G9,A5,PySem.W.fnOf "_law_asked" "_law_asked" (defArgs s_law_asked) (defBody s_law_asked) (defScope s_law_asked) .none Hb Hc Hd Ha Cg He,A6,PySem.W.fnOf "_law_book" "_law_book" (defArgs s_law_book) (defBody s_law_book) (defScope s_law_book) .none Hg Hh Hi Hf Ch Hj,A7,PySem.W.fnOf "_law_whole" "_law_whole" (defArgs s_law_whole) (defBody s_law_whole) (defScope s_law_whole) .none Hl Hm Hn Hk Ci Ho,A8,PySem.W.fnOf "_law_right" "_law_right" (defArgs s_law_right) (defBody s_law_right) (defScope s_law_right) .none Hq Hr Hs Hp Cj Ht,A9,PySem.W.fnOf "_law_made_up" "_law_made_up" (defArgs s_law_made_up) (defBody s_law_made_up) (defScope s_law_made_up) .none Hv Hw Hx Hu Ck Hy,Ba,PySem.W.fnOf "_law_bent_houses" "_law_bent_houses" (defArgs s_law_bent_houses) (defBody s_law_bent_houses) (defScope s_law_bent_houses) .none H0 H1 H2 Hz Cl H3,Bb,PySem.W.fnOf "_law_bent" "_law_bent" (defArgs s_law_bent) (defBody s_law_bent) (defScope s_law_bent) .none H5 H6 H7 H4 Cm H8,Bc,PySem.W.fnOf "_law_says" "_law_says" (defArgs s_law_says) (defBody s_law_says) (defScope s_law_says) .none Ia Ib Ic H9 Cn Id,Bd,PySem.W.fnOf "_law_no_rule" "_law_no_rule" (defArgs s_law_no_rule) (defBody s_law_no_rule) (defScope s_law_no_rule) .none If Ig Ih Ie Co Ii,Be,PySem.W.fnOf "law" "law" (defArgs s_law) (defBody s_law) (defScope s_law) .none Ik Il Im Ij Cp Io,Bk,Cs,Ct,.ref Bl,Bl,Ac,Ad,Bf,Bg,Bh,Aa,Ab,Bi,Bj⟩,
    ⟨PySem.W.mg_of X G Qe,
     PySem.W.mg_of X G Qf,
     PySem.W.mg_of X G Qg,
     PySem.W.mg_of X G Qh,
     PySem.W.mg_of X G Qi,
     PySem.W.mg_of X G Qj,
     PySem.W.mg_of X G Qk,
     xini0_mk ib_NoRule Qy Qz Q0 Kw Kx Qs Qt Qu Qv Qw Qx,
     xini0_mk ib_NoSaying Q7 Q8 Q9 Kw Kx Q1 Q2 Q3 Q4 Q5 Q6,
     xg_of Ra,
     Rb,
     Rc,
     Rd,
     Re,
     Rf,
     Rg,
     Rh,
     xg_of Ri,
     Rj,
     Rk,
     Rl,
     Rm,
     Rn,
     Ro,
     Rp,
     ⟨PySem.W.mg_of X G Rq,Rr⟩,
     ⟨PySem.W.mg_of X G Rs,Rt⟩,
     ⟨PySem.W.mg_of X G Ru,Rv⟩,
     ⟨PySem.W.mg_of X G Rw,rfl⟩,
     fun H=>.inr ⟨_,_,_,Rx,rfl,rfl,(by show (1:Nat)≤sizeLine;decide),.cons ⟨_,rfl⟩ .nil⟩,
     PySem.W.mg_none_of X G Py,
     PySem.W.mg_none_of X G Pz,
     PySem.W.mg_none_of X G P0,
     PySem.W.mg_none_of X G P1,
     PySem.W.mg_none_of X G P2,
     PySem.W.mg_none_of X G P3,
     PySem.W.mg_none_of X G P4,
     PySem.W.mg_none_of X G P5,
     PySem.W.mg_none_of X G P6,
     PySem.W.mg_none_of X G P7,
     PySem.W.mg_none_of X G P8,
     PySem.W.mg_none_of X G P9,
     PySem.W.mg_none_of X G Qa,
     PySem.W.mg_none_of X G Qb,
     PySem.W.mg_none_of X G Qc,
     PySem.W.mg_none_of X G Qd,
     ⟨Ql,Qm,Qn,Qo⟩,
     Qp,
     ⟨Qq,O6,O7,Qr⟩,
     fun_mk (st:=s_is_number) Iv Iw Cu,
     PySem.W.mg_of X G Ov,
     Cu,
     (fun_mk (st:=s_is_number) Iv Iw Cu).binds (ps:=["thing"]) fun _ _ _ _ _ _ us hl=>match us,hl with | [_],_=>rfl,
     fun_mk (st:=s_is_within) Ix Iy Cv,
     PySem.W.mg_of X G Ow,
     Cv,
     (fun_mk (st:=s_is_within) Ix Iy Cv).binds (ps:=["thing","least","most"]) fun _ _ _ _ _ _ us hl=>match us,hl with | [_,_,_],_=>rfl,
     fun_mk (st:=s_is_place) Iz I0 Cw,
     PySem.W.mg_of X G Ox,
     Cw,
     (fun_mk (st:=s_is_place) Iz I0 Cw).binds (ps:=["thing"]) fun _ _ _ _ _ _ us hl=>match us,hl with | [_],_=>rfl,
     fun_mk (st:=s_is_line) I1 I2 Cx,
     PySem.W.mg_of X G Oy,
     Cx,
     (fun_mk (st:=s_is_line) I1 I2 Cx).binds (ps:=["thing"]) fun _ _ _ _ _ _ us hl=>match us,hl with | [_],_=>rfl,
     fun_mk (st:=s_is_word) I3 I4 Cy,
     PySem.W.mg_of X G Oz,
     Cy,
     (fun_mk (st:=s_is_word) I3 I4 Cy).binds (ps:=["thing","word"]) fun _ _ _ _ _ _ us hl=>match us,hl with | [_,_],_=>rfl,
     fun_mk (st:=s_is_house) I5 I6 Cz,
     PySem.W.mg_of X G O0,
     Cz,
     (fun_mk (st:=s_is_house) I5 I6 Cz).kbinds (ps:=["thing","houses"]) (ks:=["houses"]) rfl fun _ _ _ _ _ _ _ _=>rfl,
     fun_mk (st:=s_is_counted_rule) I7 I8 C0,
     PySem.W.mg_of X G O1,
     C0,
     (fun_mk (st:=s_is_counted_rule) I7 I8 C0).binds (ps:=["thing"]) fun _ _ _ _ _ _ us hl=>match us,hl with | [_],_=>rfl,
     fun_mk (st:=s_is_rule) I9 Ja C1,
     PySem.W.mg_of X G O2,
     C1,
     (fun_mk (st:=s_is_rule) I9 Ja C1).binds (ps:=["thing"]) fun _ _ _ _ _ _ us hl=>match us,hl with | [_],_=>rfl,
     fun_mk (st:=s_require_rule) Jb Jc C2,
     PySem.W.mg_of X G O3,
     C2,
     (fun_mk (st:=s_require_rule) Jb Jc C2).binds (ps:=["thing"]) fun _ _ _ _ _ _ us hl=>match us,hl with | [_],_=>rfl,
     fun_mk (st:=s_need) Jd Je C3,
     PySem.W.mg_of X G O4,
     C3,
     (fun_mk (st:=s_need) Jd Je C3).binds (ps:=["rule"]) fun _ _ _ _ _ _ us hl=>match us,hl with | [_],_=>rfl,
     fun_mk (st:=s_is_saying) Jf Jg C4,
     PySem.W.mg_of X G O5,
     C4,
     (fun_mk (st:=s_is_saying) Jf Jg C4).binds (ps:=["thing"]) fun _ _ _ _ _ _ us hl=>match us,hl with | [_],_=>rfl,
     fun_mk (st:=s_Book_init) Jh Ji Jj,
     (fun_mk (st:=s_Book_init) Jh Ji Jj).binds (ps:=["self"]) fun _ _ _ _ _ _ us hl=>match us,hl with | [_],_=>rfl,
     fun_mk (st:=s_Book_note) Jk Jl C5,
     ⟨O8,O9,C5⟩,
     (fun_mk (st:=s_Book_note) Jk Jl C5).binds (ps:=["self","saying"]) fun _ _ _ _ _ _ us hl=>match us,hl with | [_,_],_=>rfl,
     fun_mk (st:=s_Book_said) Jm Jn C6,
     ⟨Pa,Pb,C6⟩,
     (fun_mk (st:=s_Book_said) Jm Jn C6).binds (ps:=["self"]) fun _ _ _ _ _ _ us hl=>match us,hl with | [_],_=>rfl,
     fun_mk (st:=s_counted) Jo Jp C7,
     PySem.W.mg_of X G Pc,
     C7,
     (fun_mk (st:=s_counted) Jo Jp C7).binds (ps:=["saying","rule"]) fun _ _ _ _ _ _ us hl=>match us,hl with | [_,_],_=>rfl,
     fun_mk (st:=s_others_told) Jq Jr C8,
     PySem.W.mg_of X G Pd,
     C8,
     (fun_mk (st:=s_others_told) Jq Jr C8).binds (ps:=["book","line","house","rule"]) fun _ _ _ _ _ _ us hl=>match us,hl with | [_,_,_,_],_=>rfl,
     fun_mk (st:=s_is_rising) Js Jt C9,
     PySem.W.mg_of X G Pe,
     C9,
     (fun_mk (st:=s_is_rising) Js Jt C9).binds (ps:=["thing"]) fun _ _ _ _ _ _ us hl=>match us,hl with | [_],_=>rfl,
     fun_mk (st:=s_is_done_paper) Ju Jv Da,
     PySem.W.mg_of X G Pf,
     Da,
     (fun_mk (st:=s_is_done_paper) Ju Jv Da).binds (ps:=["thing"]) fun _ _ _ _ _ _ us hl=>match us,hl with | [_],_=>rfl,
     fun_mk (st:=s_right_done) Jw Jx Db,
     PySem.W.mg_of X G Pg,
     Db,
     (fun_mk (st:=s_right_done) Jw Jx Db).binds (ps:=["book","line","fork","end","house","rule","paper"]) fun _ _ _ _ _ _ us hl=>match us,hl with | [_,_,_,_,_,_,_],_=>rfl,
     fun_mk (st:=s_law_deck) Jy Jz Dc,
     PySem.W.mg_of X G Ph,
     Dc,
     (fun_mk (st:=s_law_deck) Jy Jz Dc).binds (ps:=["_law_script"]) fun _ _ _ _ _ _ us hl=>match us,hl with | [_],_=>rfl,
     fun_mk (st:=s_law_take) J0 J1 Dd,
     PySem.W.mg_of X G Pi,
     Dd,
     (fun_mk (st:=s_law_take) J0 J1 Dd).binds (ps:=["_law_deck_here","_law_many"]) fun _ _ _ _ _ _ us hl=>match us,hl with | [_,_],_=>rfl,
     fun_mk (st:=s_law_saying) J2 J3 De,
     PySem.W.mg_of X G Pj,
     De,
     (fun_mk (st:=s_law_saying) J2 J3 De).binds (ps:=["_law_deck_here"]) fun _ _ _ _ _ _ us hl=>match us,hl with | [_],_=>rfl,
     fun_mk (st:=s_law_put) J4 J5 Df,
     PySem.W.mg_of X G Pk,
     Df,
     (fun_mk (st:=s_law_put) J4 J5 Df).binds (ps:=["_law_model","_law_saying_here"]) fun _ _ _ _ _ _ us hl=>match us,hl with | [_,_],_=>rfl,
     fun_mk (st:=s_law_rule) J6 J7 Dg,
     PySem.W.mg_of X G Pl,
     Dg,
     (fun_mk (st:=s_law_rule) J6 J7 Dg).binds (ps:=["_law_deck_here"]) fun _ _ _ _ _ _ us hl=>match us,hl with | [_],_=>rfl,
     fun_mk (st:=s_law_numbers) J8 J9 Dh,
     PySem.W.mg_of X G Pm,
     Dh,
     (fun_mk (st:=s_law_numbers) J8 J9 Dh).binds (ps:=["_law_model","_law_line","_law_rule_here"]) fun _ _ _ _ _ _ us hl=>match us,hl with | [_,_,_],_=>rfl,
     fun_mk (st:=s_law_done) Ka Kb Di,
     PySem.W.mg_of X G Pn,
     Di,
     (fun_mk (st:=s_law_done) Ka Kb Di).binds (ps:=["_law_model","_law_asked_here"]) fun _ _ _ _ _ _ us hl=>match us,hl with | [_,_],_=>rfl,
     fun_mk (st:=s_law_asked) Kc Kd Dj,
     PySem.W.mg_of X G Po,
     Dj,
     (fun_mk (st:=s_law_asked) Kc Kd Dj).binds (ps:=["_law_deck_here"]) fun _ _ _ _ _ _ us hl=>match us,hl with | [_],_=>rfl,
     fun_mk (st:=s_law_book) Ke Kf Dk,
     PySem.W.mg_of X G Pp,
     Dk,
     (fun_mk (st:=s_law_book) Ke Kf Dk).binds (ps:=["_law_deck_here","_law_book_here","_law_model"]) fun _ _ _ _ _ _ us hl=>match us,hl with | [_,_,_],_=>rfl,
     fun_mk (st:=s_law_whole) Kg Kh Dl,
     PySem.W.mg_of X G Pq,
     Dl,
     (fun_mk (st:=s_law_whole) Kg Kh Dl).binds (ps:=["_law_thing"]) fun _ _ _ _ _ _ us hl=>match us,hl with | [_],_=>rfl,
     fun_mk (st:=s_law_right) Ki Kj Dm,
     PySem.W.mg_of X G Pr,
     Dm,
     (fun_mk (st:=s_law_right) Ki Kj Dm).binds (ps:=["_law_model","_law_asked_here","_law_thing"]) fun _ _ _ _ _ _ us hl=>match us,hl with | [_,_,_],_=>rfl,
     fun_mk (st:=s_law_made_up) Kk Kl Dn,
     PySem.W.mg_of X G Ps,
     Dn,
     (fun_mk (st:=s_law_made_up) Kk Kl Dn).binds (ps:=["_law_deck_here","_law_model","_law_asked_here"]) fun _ _ _ _ _ _ us hl=>match us,hl with | [_,_,_],_=>rfl,
     fun_mk (st:=s_law_bent_houses) Km Kn Do,
     PySem.W.mg_of X G Pt,
     Do,
     (fun_mk (st:=s_law_bent_houses) Km Kn Do).binds (ps:=["_law_deck_here","_law_houses"]) fun _ _ _ _ _ _ us hl=>match us,hl with | [_,_],_=>rfl,
     fun_mk (st:=s_law_bent) Ko Kp Dp,
     PySem.W.mg_of X G Pu,
     Dp,
     (fun_mk (st:=s_law_bent) Ko Kp Dp).binds (ps:=["_law_deck_here","_law_paper"]) fun _ _ _ _ _ _ us hl=>match us,hl with | [_,_],_=>rfl,
     fun_mk (st:=s_law_says) Kq Kr Dq,
     PySem.W.mg_of X G Pv,
     Dq,
     (fun_mk (st:=s_law_says) Kq Kr Dq).binds (ps:=["_law_book_here","_law_model","_law_asked_here","_law_thing"]) fun _ _ _ _ _ _ us hl=>match us,hl with | [_,_,_,_],_=>rfl,
     fun_mk (st:=s_law_no_rule) Ks Kt Dr,
     PySem.W.mg_of X G Pw,
     Dr,
     (fun_mk (st:=s_law_no_rule) Ks Kt Dr).binds (ps:=["_law_deck_here","_law_book_here","_law_asked_here","_law_thing"]) fun _ _ _ _ _ _ us hl=>match us,hl with | [_,_,_,_],_=>rfl,
     fun_mk (st:=s_law) Ku Kv Ds,
     PySem.W.mg_of X G Px,
     Ds,
     (fun_mk (st:=s_law) Ku Kv Ds).binds (ps:=["_law_script"]) fun _ _ _ _ _ _ us hl=>match us,hl with | [_],_=>rfl,
     binds_peek1 Ry,
     fun s u=>.of_eq rfl⟩⟩
theorem all_ok {P:Program}{w:World}{K:PySem.W.Frag}{mg:Str→Option Value}{base:Heap}{a:Adr}(T:Txt P K mg a):glaw P w K mg base a:=by
 have Z2:gis_number P w K mg base a:=ok_is_number T 
 have Z4:gis_word P w K mg base a:=ok_is_word T 
 have Z28:gBook_init P w K mg base a:=ok_Book_init T 
 have Z5:gBook_said P w K mg base a:=ok_Book_said T 
 have Z17:gcounted P w K mg base a:=ok_counted T 
 have Z32:glaw_deck P w K mg base a:=ok_law_deck T 
 have Z0:glaw_take P w K mg base a:=ok_law_take T 
 have Z24:glaw_put P w K mg base a:=ok_law_put T 
 have Z3:glaw_numbers P w K mg base a:=ok_law_numbers T 
 have Z8:glaw_whole P w K mg base a:=ok_law_whole T 
 have Z1:gis_within P w K mg base a:=ok_is_within T Z2
 have Z21:gothers_told P w K mg base a:=ok_others_told T Z5 Z17
 have Z18:gis_rising P w K mg base a:=ok_is_rising T Z2
 have Z25:glaw_saying P w K mg base a:=ok_law_saying T Z0
 have Z22:glaw_rule P w K mg base a:=ok_law_rule T Z0
 have Z33:glaw_done P w K mg base a:=ok_law_done T Z3
 have Z27:glaw_right P w K mg base a:=ok_law_right T Z3 Z8
 have Z34:glaw_made_up P w K mg base a:=ok_law_made_up T Z3 Z0
 have Z26:glaw_bent_houses P w K mg base a:=ok_law_bent_houses T Z0
 have Z15:gis_place P w K mg base a:=ok_is_place T Z1
 have Z14:gis_line P w K mg base a:=ok_is_line T Z1
 have Z13:gis_house P w K mg base a:=ok_is_house T Z1
 have Z11:gis_counted_rule P w K mg base a:=ok_is_counted_rule T Z1 Z4
 have Z19:gis_done_paper P w K mg base a:=ok_is_done_paper T Z2 Z18
 have Z29:glaw_asked P w K mg base a:=ok_law_asked T Z22 Z0
 have Z30:glaw_bent P w K mg base a:=ok_law_bent T Z26 Z0
 have Z12:gis_rule P w K mg base a:=ok_is_rule T Z11 Z4
 have Z16:gis_saying P w K mg base a:=ok_is_saying T Z13 Z14 Z15 Z1
 have Z6:grequire_rule P w K mg base a:=ok_require_rule T Z12
 have Z23:gBook_note P w K mg base a:=ok_Book_note T Z16
 have Z20:gneed P w K mg base a:=ok_need T Z6
 have Z31:glaw_book P w K mg base a:=ok_law_book T Z23 Z24 Z25 Z0
 have Z7:gright_done P w K mg base a:=ok_right_done T Z19 Z20 Z21 Z6
 have Z10:glaw_says P w K mg base a:=ok_law_says T Z27 Z7
 have Z9:glaw_no_rule P w K mg base a:=ok_law_no_rule T Z0 Z7
 have Z35:glaw P w K mg base a:=ok_law T Z28 Z5 Z29 Z30 Z31 Z32 Z33 Z34 Z9 Z10 Z0
 exact Z35
end My
open PySem PySem.W PyProof.Rows
set_option maxRecDepth 100000 in
set_option maxHeartbeats 0 in
theorem PySem.Challenge.cw_laterline_k39_done_papers_judged_holds : PySem.Challenge.rw_laterline_k39_done_papers_judged.Holds := by
  w_on; o_law
  refine PySem.W.holds_open (q:=My.vw) (loose:=My.lo) (Xt:=My.xt) (XP:=PySem.W.XL My.vw My.lv) (Yf:=(PySem.W.kHook My.KF My.KA My.ke).obs) (Ya:=(PySem.W.kHook My.KF My.KA My.ke).val) (YP:=(PySem.W.kHook My.KF My.KA My.ke).says) (N:=6120) My.left (PySem.W.kHook My.KF My.KA My.ke).of (PySem.W.kHook My.KF My.KA My.ke).keeps (fun s e=>PySem.W.xl_of s (Bool.and_eq_true_iff.mp e).1) PySem.W.XL.keeps (by rfl) (by rfl) (by rfl) (fun s e=>PySem.W.recFacts_of (Bool.and_eq_true_iff.mp e).2) (by rfl) (by first | assumption | decide +kernel) (by decide +kernel) ⟨rfl,rfl,rfl,rfl,rfl,by decide +kernel⟩ ?hw ?hc
  case hw=>w_witness2
  k_fill
  refine L2.walk_ofK (l:=PySem.Challenge.rw_laterline_k39_done_papers_judged) (n:=63) (k:=9) (x:="_law_script") (CX:=L2.CX0) (sp:=My.sp_law) rfl (by decide) rfl ⟨rfl,by decide,by decide,rfl⟩ (fun w h Y=>PySem.W.kIn_of Y) ?F ?S ?C
  case F =>
    intro w mg fa h KX G hmg
    have T:∃ a,My.Txt (PySem.Challenge.rw_laterline_k39_done_papers_judged).prog (L2.KOf KX) mg a:=by
      dsimp only [L2.KOf]
      refine' My.txt_mk KX G ?Ch ?C2 ?Cn ?Dd ?C6 ?Cd ?Cb ?Di ?Ek ?Eq ?Er ?D6 ?Fg ?Ew ?Eu ?Et ?Ez ?Fa ?Fj ?Ev ?En ?Eb ?Ef ?Eg ?Au ?Ao ?At ?As ?Ey ?E9 ?E6 ?Fc ?A2 ?A6 ?A9 ?A3 ?F4 ?Fz ?F0 ?Fx ?Dk ?De ?C4 ?Do ?Cg ?Cf ?Cl ?Co ?C8 ?C1 ?Ca ?Ci ?C0 ?Cp ?Cs ?Dh ?C7 ?C5 ?Dc ?E4 ?E8 ?Fd ?Ff ?Bd ?Bh ?Bo ?Bk ?Cy ?C9 ?Cq ?Cu ?Ax ?Az ?Aw ?A0 ?Bu ?Bx ?B3 ?Bw ?Dr ?Dx ?D5 ?D2 ?Eh ?D7 ?Ee ?Dw ?B7 ?Bz ?Bt ?B4 ?E1 ?Fb ?E3 ?E0 ?Dp ?Dq ?Ea ?Dt ?Bj ?Bl ?Bf ?Bp ?Eo ?Em ?Es ?D8 ?Cw ?C3 ?Dl ?Cc ?Ej ?D1 ?Ed ?D0 ?Cz ?Ct ?Cr ?Dj ?B9 ?Dn ?Dm ?Cv ?Bm ?Bq ?Bn ?Bi ?Aq ?Av ?Ap ?Ar ?Ds ?D9 ?Dy ?D4 ?El ?Dz ?Dv ?D3 ?Bg ?Bc ?Be ?Bb ?F5 ?F6 ?Gf ?Ge ?B0 ?Gb ?F1 ?Gg ?B1 ?Ga ?F2 ?Gd ?Gc ?Fq ?Fy ?F7 ?Fn ?F8 ?Fp ?F9 ?Fr ?B8 ?Ep ?Ec ?Ei ?Fi ?Df ?Fo ?Ft ?Fu ?Fv ?Ay ?Fw ?Fs ?Gh ?F3 ?Fe ?E5 ?E2 ?Fk ?B2 ?Br ?Fh ?B6 ?Bv ?Ex ?Cx ?Cm ?Ck ?Da ?A8 ?Ba ?Db ?A4 ?A1 ?Cj ?By ?Ae ?Al ?Ak ?Am ?An ?Ai ?Ac ?A7 ?Ab ?Ah ?Ag ?Af ?Aj ?Ad ?Aa ?Fm ?Fl ?Dg ?Ce ?Bs ?B5 ?E7 ?Du ?A5
      (case Fr=>k_is)
      (case B8=>k_is)
      (case Ep=>k_is)
      (case Ec=>k_is)
      (case Ei=>k_is)
      (case Fi=>k_is)
      (case Df=>k_is)
      (case Ch=>k_is)
      (case C2=>k_is)
      (case Cn=>k_is)
      (case Dd=>k_is)
      (case C6=>k_is)
      (case Cd=>k_is)
      (case Cb=>k_is)
      (case Di=>k_is)
      (case Ek=>k_is)
      (case Eq=>k_is)
      (case Er=>k_is)
      (case D6=>k_is)
      (case Fg=>k_is)
      (case Ew=>k_is)
      (case Eu=>k_is)
      (case Et=>k_is)
      (case Ez=>k_is)
      (case Fa=>k_is)
      (case Fj=>k_is)
      (case Ev=>k_is)
      (case En=>k_is)
      (case Eb=>k_is)
      (case Ef=>k_is)
      (case Eg=>k_is)
      (case Au=>k_is)
      (case Ao=>k_is)
      (case At=>k_is)
      (case As=>k_is)
      (case Ey=>k_is)
      (case E9=>k_is)
      (case E6=>k_is)
      (case Fc=>k_is)
      (case A2=>k_is)
      (case A6=>k_is)
      (case A9=>k_is)
      (case A3=>k_is)
      (case F4=>k_is)
      (case Fz=>k_is)
      (case F0=>k_is)
      (case Fx=>k_is)
      (case Dk=>k_is)
      (case De=>k_is)
      (case C4=>k_is)
      (case Do=>k_is)
      (case Cg=>k_is)
      (case Cf=>k_is)
      (case Cl=>k_is)
      (case Co=>k_is)
      (case C8=>k_is)
      (case C1=>k_is)
      (case Ca=>k_is)
      (case Ci=>k_is)
      (case C0=>k_is)
      (case Cp=>k_is)
      (case Cs=>k_is)
      (case Dh=>k_is)
      (case C7=>k_is)
      (case C5=>k_is)
      (case Dc=>k_is)
      (case E4=>k_is)
      (case E8=>k_is)
      (case Fd=>k_is)
      (case Ff=>k_is)
      (case Bd=>k_is)
      (case Bh=>k_is)
      (case Bo=>k_is)
      (case Bk=>k_is)
      (case Cy=>k_is)
      (case C9=>k_is)
      (case Cq=>k_is)
      (case Cu=>k_is)
      (case Ax=>k_is)
      (case Az=>k_is)
      (case Aw=>k_is)
      (case A0=>k_is)
      (case Bu=>k_is)
      (case Bx=>k_is)
      (case B3=>k_is)
      (case Bw=>k_is)
      (case Dr=>k_is)
      (case Dx=>k_is)
      (case D5=>k_is)
      (case D2=>k_is)
      (case Eh=>k_is)
      (case D7=>k_is)
      (case Ee=>k_is)
      (case Dw=>k_is)
      (case B7=>k_is)
      (case Bz=>k_is)
      (case Bt=>k_is)
      (case B4=>k_is)
      (case E1=>k_is)
      (case Fb=>k_is)
      (case E3=>k_is)
      (case E0=>k_is)
      (case Dp=>k_is)
      (case Dq=>k_is)
      (case Ea=>k_is)
      (case Dt=>k_is)
      (case Bj=>k_is)
      (case Bl=>k_is)
      (case Bf=>k_is)
      (case Bp=>k_is)
      (case Eo=>k_is)
      (case Em=>k_is)
      (case Es=>k_is)
      (case D8=>k_is)
      (case Cw=>k_is)
      (case C3=>k_is)
      (case Dl=>k_is)
      (case Cc=>k_is)
      (case Ej=>k_is)
      (case D1=>k_is)
      (case Ed=>k_is)
      (case D0=>k_is)
      (case Cz=>k_is)
      (case Ct=>k_is)
      (case Cr=>k_is)
      (case Dj=>k_is)
      (case B9=>k_is)
      (case Dn=>k_is)
      (case Dm=>k_is)
      (case Cv=>k_is)
      (case Bm=>k_is)
      (case Bq=>k_is)
      (case Bn=>k_is)
      (case Bi=>k_is)
      (case Aq=>k_is)
      (case Av=>k_is)
      (case Ap=>k_is)
      (case Ar=>k_is)
      (case Ds=>k_is)
      (case D9=>k_is)
      (case Dy=>k_is)
      (case D4=>k_is)
      (case El=>k_is)
      (case Dz=>k_is)
      (case Dv=>k_is)
      (case D3=>k_is)
      (case Bg=>k_is)
      (case Bc=>k_is)
      (case Be=>k_is)
      (case Bb=>k_is)
      (case F5=>k_is)
      (case F6=>k_is)
      (case Gf=>k_is)
      (case Ge=>k_is)
      (case B0=>k_is)
      (case Gb=>k_is)
      (case F1=>k_is)
      (case Gg=>k_is)
      (case B1=>k_is)
      (case Ga=>k_is)
      (case F2=>k_is)
      (case Gd=>k_is)
      (case Gc=>k_is)
      (case Fq=>k_is)
      (case Fy=>k_is)
      (case F7=>k_is)
      (case Fn=>k_is)
      (case F8=>k_is)
      (case Fp=>k_is)
      (case F9=>k_is)
      (case Fo=>k_is)
      (case Ft=>k_is)
      (case Fu=>k_is)
      (case Fv=>k_is)
      (case Ay=>k_is)
      (case Fw=>k_is)
      (case Fs=>k_is)
      (case Gh=>k_is)
      (case F3=>kernel_rfl)
      (case Fe=>k_is)
      (case E5=>k_is)
      (case E2=>k_is)
      (case Fk=>k_is)
      (case B2=>exact rfl)
      (case Br=>kernel_rfl)
      (case Fh=>k_is)
      (case B6=>kernel_rfl)
      (case Bv=>kernel_rfl)
      (case Ex=>k_is)
      (case Cx=>k_is)
      (case Cm=>k_is)
      (case Ck=>k_is)
      (case Da=>k_is)
      (case A8=>exact rfl)
      (case Ba=>kernel_rfl)
      (case Db=>k_is)
      (case A4=>kernel_rfl)
      (case A1=>kernel_rfl)
      (case Cj=>k_is)
      (case By=>kernel_rfl)
      (case Ae=>kernel_rfl)
      (case Al=>kernel_rfl)
      (case Ak=>kernel_rfl)
      (case Am=>kernel_rfl)
      (case An=>kernel_rfl)
      (case Ai=>kernel_rfl)
      (case Ac=>kernel_rfl)
      (case A7=>kernel_rfl)
      (case Ab=>kernel_rfl)
      (case Ah=>kernel_rfl)
      (case Ag=>kernel_rfl)
      (case Af=>kernel_rfl)
      (case Aj=>kernel_rfl)
      (case Ad=>kernel_rfl)
      (case Aa=>kernel_rfl)
      (case Fm=>k_is)
      (case Fl=>exact ⟨_,rfl⟩)
      (case Dg=>k_is)
      (case Ce=>exact ⟨_,rfl⟩)
      (case Bs=>k_is)
      (case B5=>exact ⟨_,rfl⟩)
      (case E7=>k_is)
      (case Du=>k_is)
      (case A5=>intro u S; kernel_rfl)
    obtain ⟨a,T⟩:=T
    have e0:=hmg.symm.trans T.m_law
    cases e0
    exact ⟨_,T.bl_law,fun base kb nb=>My.all_ok T⟩
  case S=>exact fun K H a ns hl hO hS=>⟨a,ns,rfl,hS,hl,fun _=>rfl⟩
  case C=>exact fun _ _ _ _ z=>z
