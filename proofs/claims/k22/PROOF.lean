import PyProof.Rows.All
import Wide.All
import OpenK.AllK
import Wide.FinOn
import Lean
import PyProof.EqAt
import PyProof.EqKinds
import PyProof.TupleCall
import KE.KTryMore
import PyProof.NsDelKeeps
import OpenK.KOwn
import PyProof.ExcClass3
import KE.KSuper
import PyProof.InstStoreFacts
import PyProof.ExcArgsOwn
import PyProof.ExcAttrAll.ValueError
import KE.KIsAll
import PyProof.EnumFor
import PyProof.EnumStmt
import PyProof.EnumIter
import KE.KStar
import KE.KUnpack
import PyProof.ListRange
import PyProof.P3In
import PyProof.Rows.SortShell
import PyProof.Rows.SortWalk
import PyProof.SeqI3
import PyProof.WalkInts
import KE.KRevIter
import PyProof.CollectIter
import PyProof.TupleOfGen
import KE.KDictSum
import KE.KDictOf
import KE.KEqDict
import PyProof.AttrMissHeap
import KE.KPar
import KE.KSortTup
import PyProof.DictWalks
import PyProof.StrWalks
import PyProof.FString5
import PyProof.P3Eq
import PyProof.NeData
import PyProof.FactsAll.dict_1
import PyProof.ListMulRoad
import PyProof.AutoSeq1
import PySem.Challenge.RW_laterline_k22_rows_of_another_log
set_option Elab.async false
set_option linter.all false
set_option maxRecDepth 100000
namespace Hd
open PySem PySem.W
noncomputable def topT (tb:String→Option Builtin)(p:Program)(w:World)(n₀:Nat)(ann:Option Value):Nat→SharedT→Thread→Option SharedT
 | 0,_,_=>none
 | n+1,s,t=>match through t with
  | true=>some s
  | false=>match stepOk n₀ ann t with
   | false=>none
   | true=>match stepT (denote tb) p w s t with
    | some (s',t')=>topT tb p w n₀ ann n s' t'
    | none=>none
theorem topT_spec {tb:String→Option Builtin}{p:Program}{w:World}{n₀:Nat}{ann:Option Value}:∀ {n:Nat}{s s':SharedT}{t:Thread},topT tb p w n₀ ann n s t=some s'→topRun tb p w n₀ ann n s.abs t=some s'.abs
 | 0,_,_,_,h=>by cases h
 | n+1,s,s',t,h=>by
  unfold topT at h
  unfold topRun
  cases e1:through t with
  | true=>rw[e1]at h;cases h;rfl
  | false =>
   rw[e1]at h
   cases e2:stepOk n₀ ann t with
   | false=>rw[e2]at h;cases h
   | true =>
    rw[e2]at h
    dsimp only at h ⊢
    cases e3:stepT (denote tb) p w s t with
    | none=>rw[e3]at h;cases h
    | some q =>
     obtain⟨s1,t1⟩:=q
     rw[e3]at h
     rw[stepT_spec e3]
     exact topT_spec h
noncomputable def btOf (l:List Obj):BT:=(l.foldl (fun (q:BT×Nat) o=>(q.1.ins q.2 o,q.2+1)) (BT.nil,0)).1
noncomputable def start0 (P:Params)(os:OsState):SharedT:=⟨btOf (boot_heap P).objs.toList,(boot_heap P).objs.size,(boot_heap P).life,Array.mk [],boot_drawn,boot_toks,os⟩
theorem start_abs (P:Params)(os:OsState):(start0 P os).abs = ⟨boot_heap P,Array.mk [],boot_drawn,boot_toks,os⟩:=by kernel_rfl
theorem boot_is (P:Params):((boot_heap P).isNs mainGlobals && (Array.mk []:Array GenState).size == 0)=true:=by kernel_rfl
theorem left_of {p q:Program}{loose:List Str}{Xt:Shared→Bool}{α:Type}{Yf:Shared→α}{Ya:World→α}{N:Nat}(ho:opening p=plainProg p.main.scope.names)(hN:Nat.ble 600 N=true)(hf:∀s,fenceModules? p s=some s)
  (run:∀(w:World) (os:OsState),(topT treeTable p w (boot_heap w.params).objs.size ((boot_heap w.params).nsMap mainGlobals "__annotations__") N (start0 w.params os) (topStub p)).map (fun s =>
    ((staticsOk (importedModules p.main.body) (boot_heap w.params) s.abs.heap && namesBound p s.abs.heap && gensDone s.abs && laidKept (boot_heap w.params) s.abs.heap),openSeen q loose (importedModules p.main.body) Xt true s.abs,Yf s.abs))=some (true,openGood q loose,Ya w)) :
  LeftO p q loose Xt Yf Ya N:=fun w=>by
 obtain⟨⟨h,gs,d,k,os⟩,e,e'⟩:=Option.map_eq_some_iff.mp (boot_open (N:=N) ho hN hf w)
 obtain⟨rfl,rfl,rfl,rfl⟩:h=boot_heap w.params∧gs=Array.mk []∧d=boot_drawn∧k=boot_toks:=by simpa using e'
 obtain⟨s,r1,r2⟩:=Option.map_eq_some_iff.mp (run w os)
 obtain⟨l1,l2,l3⟩:_∧_∧_:=by simpa only[Prod.mk.injEq]using r2
 have r:=topT_spec r1
 rw[start_abs]at r
 have t:topFrom treeTable p w N ⟨boot_heap w.params,Array.mk [],boot_drawn,boot_toks,os⟩ = some s.abs:=by
  unfold topFrom
  dsimp only
  rw[boot_is,r]
  show (match staticsOk (importedModules p.main.body) (boot_heap w.params) s.abs.heap && namesBound p s.abs.heap && gensDone s.abs && laidKept (boot_heap w.params) s.abs.heap with |true=>some s.abs |false=>none)=_
  rw[l1]
 unfold openEnds
 rw[e]
 show (topFrom treeTable p w N _).map _=_
 rw[t]
 exact congrArg some (Prod.ext l2 l3)
noncomputable def inCls (s:Stmt)(j:Nat):Stmt:=match s with
 | .ClassDef _ _ _ b _ _ _ _ _ _ _=>b.getD j (.Pass ⟨0,0,0,0⟩)
 | z=>z
noncomputable def dArgs (s:Stmt):Arguments:=match s with
 | .FunctionDef _ a _ _ _ _ _ _ _ _=>a
 | _=>⟨[],[],none,[],[],none,[]⟩
noncomputable def dBody (s:Stmt):List Stmt:=match s with
 | .FunctionDef _ _ b _ _ _ _ _ _ _=>b
 | _=>[]
noncomputable def dScope (s:Stmt):Scope:=match s with
 | .FunctionDef _ _ _ _ _ _ c _ _ _=>c
 | _=>{ kind:=.function,names:=[],isGenerator:=false,isCoroutine:=false }
end Hd
namespace My
open PySem PyProof.Rows
noncomputable def top (i:Nat):Stmt:=PySem.Challenge.pw_laterline_k22_rows_of_another_log.main.body.getD i (.Pass ⟨0,0,0,0⟩)
noncomputable abbrev qS (s:String):Str:=Str.ofString s
noncomputable abbrev vS (s:String)(t:Nat):Value:=.str (Str.ofString s) t
noncomputable abbrev dE (P:Params)(s:String)(t:Nat)(v:Value):DictEntry:=⟨PyData.keyHash P (Str.ofString s),.str (Str.ofString s) t,v⟩
noncomputable abbrev tO (xs:Array Value):PySem.Obj:=⟨.type "tuple",none,.seq xs 0,#[]⟩
noncomputable abbrev oO (c:Value)(d:Data):PySem.Obj:=⟨c,none,d,#[]⟩
noncomputable abbrev vN :Value:=Value.none
noncomputable abbrev vT :Value:=.bool Bool.true
noncomputable abbrev vC (t:Nat):Value:=vS "/claim/cut.py" t
noncomputable abbrev vZ (i:Int):Value:=.int i 0
noncomputable def KF:PySem.Params→PySem.W.Frag:=fun P =>
 (nat_lit 2,(oO vN (Data.dict #[] 0))) ::
 (nat_lit 3,(oO (.type "dict") (Data.dict #[(dE P "__name__" 165 (vS "law_laterline_k22_rows_of_another_log" 760)),(dE P "__doc__" 166 vN),(dE P "__package__" 167 vN),(dE P "__loader__" 168 (Value.builtin "__main__.__loader__#opaque")),(dE P "__spec__" 169 vN),(dE P "__annotations__" 170 (.ref 6)),(dE P "__builtins__" 171 (.ref 4)),(dE P "__file__" 173 (vC 172)),(dE P "__cached__" 174 vN),(dE P "_wall" 193 (.ref 21)),(dE P "LineError" 213 (.ref 31)),(dE P "NoRow" 238 (.ref 53)),(dE P "NoHistory" 263 (.ref 74)),(dE P "NoPlace" 290 (.ref 95)),(dE P "TooEarly" 317 (.ref 116)),(dE P "TooOld" 344 (.ref 137)),(dE P "Gap" 371 (.ref 158)),(dE P "Elder" 398 (.ref 179)),(dE P "Full" 425 (.ref 200)),(dE P "NoCount" 452 (.ref 221)),(dE P "LAST_PLACE" 458 (.int 1000000 457)),(dE P "is_number" 465 (.ref 230)),(dE P "is_within" 474 (.ref 237)),(dE P "is_count" 481 (.ref 244)),(dE P "is_place" 488 (.ref 251)),(dE P "ROOT" 493 (.ref 253)),(dE P "LINES" 495 (.int 60 494)),(dE P "LAST_LINE" 499 (.int 1000000000 498)),(dE P "is_line" 506 (.ref 260)),(dE P "is_line_and_place" 513 (.ref 267)),(dE P "is_history" 519 (.ref 272)),(dE P "require_history" 526 (.ref 279)),(dE P "require_place" 533 (.ref 286)),(dE P "extended" 544 (.ref 293)),(dE P "MOST" 550 (.int 1000000000000000000 549)),(dE P "LONGEST_KEY" 552 (.int 12 551)),(dE P "is_key" 558 (.ref 298)),(dE P "is_value" 565 (.ref 305)),(dE P "is_word" 573 (.ref 312)),(dE P "is_set" 580 (.ref 319)),(dE P "is_cut" 587 (.ref 326)),(dE P "is_row" 594 (.ref 333)),(dE P "Log" 759 (.ref 462)),(dE P "_law_state" 769 (.ref 473)),(dE P "_law_next" 780 (.ref 480)),(dE P "_law_alike" 790 (.ref 487)),(dE P "_law_row" 801 (.ref 494)),(dE P "_law_names" 807 (.ref 499)),(dE P "_law_at" 818 (.ref 506)),(dE P "_law_so" 828 (.ref 513)),(dE P "_law_gap_so" 840 (.ref 520)),(dE P "_law_handed" 859 (.ref 527)),(dE P "law" 865 (.ref 532))] 53))) ::
 (nat_lit 15,(tO #[])) ::
 (nat_lit 17,(tO #[(vS "k" 190)])) ::
 (nat_lit 18,(tO #[])) ::
 (nat_lit 20,(oO (.type "code") (Data.fields #[(vS "_wall" 187),(vS "_wall" 188),(vC 189),(vZ 1),(vZ 1),(vZ 0),(vZ 0),(vZ 3),(.ref 15),vT,(vZ 181),(.ref 16),vN,(.ref 17),(.ref 18),(.ref 19),(vZ 191),(vZ 1),(vC 192)]))) ::
 (nat_lit 21,(oO (.type "function") (Data.func (FuncData.mk (qS "_wall") (qS "_wall") (Hd.dArgs (top 0)) (.stmts (Hd.dBody (top 0))) (Hd.dScope (top 0)) 3 [] vN vN vN (vS "__main__" 164) none (.ref 20) vN 0)))) ::
 (nat_lit 22,(tO #[(.type "ValueError")])) ::
 (nat_lit 29,(tO #[])) ::
 (nat_lit 30,(oO (.type "dict") (Data.dict #[(dE P "__module__" 203 (vS "laterline.errors" 194)),(dE P "__firstlineno__" 207 (.int 5 206)),(dE P "__static_attributes__" 208 (.ref 29)),(dE P "__weakref__" 210 (.ref 32)),(dE P "__doc__" 211 vN)] 3))) ::
 (nat_lit 31,(Obj.mk (.type "type") none (Data.cls (ClassData.mk (qS "LineError") [(.type "ValueError")] [(.ref 31),(.type "ValueError"),(.type "Exception"),(.type "BaseException"),(.type "object")] 30 (qS "LineError") Bool.true [] [(.ref 53),(.ref 74),(.ref 95),(.ref 116),(.ref 137),(.ref 158),(.ref 179),(.ref 200),(.ref 221)] Bool.false none Bool.false)) #[(some (.ref 22)),none,(some (vS "LineError" 196)),(some (vS "LineError" 204)),(some (Value.builtin "ValueError.__new__")),(some vT)])) ::
 (nat_lit 32,(oO (.type "getset_descriptor") (Data.fields #[(vS "__weakref__" 209),(.ref 31),(Value.builtin "ExceptionGroup.__weakref__"),vN]))) ::
 (nat_lit 35,(tO #[(.ref 31)])) ::
 (nat_lit 38,(oO (.type "cell") (Data.cell (some (.ref 53))))) ::
 (nat_lit 43,(tO #[(.ref 38)])) ::
 (nat_lit 44,(tO #[(vS "__class__" 229)])) ::
 (nat_lit 46,(tO #[(vS "self" 230)])) ::
 (nat_lit 47,(tO #[])) ::
 (nat_lit 49,(oO (.type "code") (Data.fields #[(vS "__init__" 226),(vS "NoRow.__init__" 227),(vC 228),(vZ 9),(vZ 1),(vZ 0),(vZ 0),(vZ 3),(.ref 44),vT,(vZ 181),(.ref 45),vN,(.ref 46),(.ref 47),(.ref 48),(vZ 231),(vZ 9),(vC 232)]))) ::
 (nat_lit 50,(oO (.type "function") (Data.func (FuncData.mk (qS "__init__") (qS "NoRow.__init__") (Hd.dArgs (Hd.inCls (top 3) 0)) (.stmts (Hd.dBody (Hd.inCls (top 3) 0))) (Hd.dScope (Hd.inCls (top 3) 0)) 3 [((qS "__class__"),38)] vN vN vN (vS "laterline.errors" 194) none (.ref 49) (.ref 43) 0)))) ::
 (nat_lit 51,(tO #[])) ::
 (nat_lit 52,(oO (.type "dict") (Data.dict #[(dE P "__module__" 221 (vS "laterline.errors" 194)),(dE P "__firstlineno__" 225 (.int 7 224)),(dE P "__init__" 233 (.ref 50)),(dE P "__static_attributes__" 234 (.ref 51)),(dE P "__doc__" 236 vN)] 3))) ::
 (nat_lit 53,(Obj.mk (.type "type") none (Data.cls (ClassData.mk (qS "NoRow") [(.ref 31)] [(.ref 53),(.ref 31),(.type "ValueError"),(.type "Exception"),(.type "BaseException"),(.type "object")] 52 (qS "NoRow") Bool.true [] [] Bool.false none Bool.false)) #[(some (.ref 35)),none,(some (vS "NoRow" 214)),(some (vS "NoRow" 222)),(some (Value.builtin "ValueError.__new__")),(some vT)])) ::
 (nat_lit 56,(tO #[(.ref 31)])) ::
 (nat_lit 59,(oO (.type "cell") (Data.cell (some (.ref 74))))) ::
 (nat_lit 64,(tO #[(.ref 59)])) ::
 (nat_lit 65,(tO #[(vS "__class__" 254)])) ::
 (nat_lit 67,(tO #[(vS "self" 255)])) ::
 (nat_lit 68,(tO #[])) ::
 (nat_lit 70,(oO (.type "code") (Data.fields #[(vS "__init__" 251),(vS "NoHistory.__init__" 252),(vC 253),(vZ 13),(vZ 1),(vZ 0),(vZ 0),(vZ 3),(.ref 65),vT,(vZ 181),(.ref 66),vN,(.ref 67),(.ref 68),(.ref 69),(vZ 256),(vZ 13),(vC 257)]))) ::
 (nat_lit 71,(oO (.type "function") (Data.func (FuncData.mk (qS "__init__") (qS "NoHistory.__init__") (Hd.dArgs (Hd.inCls (top 4) 0)) (.stmts (Hd.dBody (Hd.inCls (top 4) 0))) (Hd.dScope (Hd.inCls (top 4) 0)) 3 [((qS "__class__"),59)] vN vN vN (vS "laterline.errors" 194) none (.ref 70) (.ref 64) 0)))) ::
 (nat_lit 72,(tO #[])) ::
 (nat_lit 73,(oO (.type "dict") (Data.dict #[(dE P "__module__" 246 (vS "laterline.errors" 194)),(dE P "__firstlineno__" 250 (.int 11 249)),(dE P "__init__" 258 (.ref 71)),(dE P "__static_attributes__" 259 (.ref 72)),(dE P "__doc__" 261 vN)] 3))) ::
 (nat_lit 74,(Obj.mk (.type "type") none (Data.cls (ClassData.mk (qS "NoHistory") [(.ref 31)] [(.ref 74),(.ref 31),(.type "ValueError"),(.type "Exception"),(.type "BaseException"),(.type "object")] 73 (qS "NoHistory") Bool.true [] [] Bool.false none Bool.false)) #[(some (.ref 56)),none,(some (vS "NoHistory" 239)),(some (vS "NoHistory" 247)),(some (Value.builtin "ValueError.__new__")),(some vT)])) ::
 (nat_lit 77,(tO #[(.ref 31)])) ::
 (nat_lit 80,(oO (.type "cell") (Data.cell (some (.ref 95))))) ::
 (nat_lit 85,(tO #[(.ref 80)])) ::
 (nat_lit 86,(tO #[(vS "__class__" 279)])) ::
 (nat_lit 88,(tO #[(vS "self" 280),(vS "place" 281)])) ::
 (nat_lit 89,(tO #[])) ::
 (nat_lit 91,(oO (.type "code") (Data.fields #[(vS "__init__" 276),(vS "NoPlace.__init__" 277),(vC 278),(vZ 17),(vZ 2),(vZ 0),(vZ 0),(vZ 3),(.ref 86),vT,(vZ 181),(.ref 87),vN,(.ref 88),(.ref 89),(.ref 90),(vZ 282),(vZ 17),(vC 283)]))) ::
 (nat_lit 92,(oO (.type "function") (Data.func (FuncData.mk (qS "__init__") (qS "NoPlace.__init__") (Hd.dArgs (Hd.inCls (top 5) 0)) (.stmts (Hd.dBody (Hd.inCls (top 5) 0))) (Hd.dScope (Hd.inCls (top 5) 0)) 3 [((qS "__class__"),80)] vN vN vN (vS "laterline.errors" 194) none (.ref 91) (.ref 85) 0)))) ::
 (nat_lit 93,(tO #[(vS "place" 285)])) ::
 (nat_lit 94,(oO (.type "dict") (Data.dict #[(dE P "__module__" 271 (vS "laterline.errors" 194)),(dE P "__firstlineno__" 275 (.int 15 274)),(dE P "__init__" 284 (.ref 92)),(dE P "__static_attributes__" 286 (.ref 93)),(dE P "__doc__" 288 vN)] 3))) ::
 (nat_lit 95,(Obj.mk (.type "type") none (Data.cls (ClassData.mk (qS "NoPlace") [(.ref 31)] [(.ref 95),(.ref 31),(.type "ValueError"),(.type "Exception"),(.type "BaseException"),(.type "object")] 94 (qS "NoPlace") Bool.true [] [] Bool.false none Bool.false)) #[(some (.ref 77)),none,(some (vS "NoPlace" 264)),(some (vS "NoPlace" 272)),(some (Value.builtin "ValueError.__new__")),(some vT)])) ::
 (nat_lit 98,(tO #[(.ref 31)])) ::
 (nat_lit 101,(oO (.type "cell") (Data.cell (some (.ref 116))))) ::
 (nat_lit 106,(tO #[(.ref 101)])) ::
 (nat_lit 107,(tO #[(vS "__class__" 306)])) ::
 (nat_lit 109,(tO #[(vS "self" 307),(vS "place" 308)])) ::
 (nat_lit 110,(tO #[])) ::
 (nat_lit 112,(oO (.type "code") (Data.fields #[(vS "__init__" 303),(vS "TooEarly.__init__" 304),(vC 305),(vZ 22),(vZ 2),(vZ 0),(vZ 0),(vZ 3),(.ref 107),vT,(vZ 181),(.ref 108),vN,(.ref 109),(.ref 110),(.ref 111),(vZ 309),(vZ 22),(vC 310)]))) ::
 (nat_lit 113,(oO (.type "function") (Data.func (FuncData.mk (qS "__init__") (qS "TooEarly.__init__") (Hd.dArgs (Hd.inCls (top 6) 0)) (.stmts (Hd.dBody (Hd.inCls (top 6) 0))) (Hd.dScope (Hd.inCls (top 6) 0)) 3 [((qS "__class__"),101)] vN vN vN (vS "laterline.errors" 194) none (.ref 112) (.ref 106) 0)))) ::
 (nat_lit 114,(tO #[(vS "place" 312)])) ::
 (nat_lit 115,(oO (.type "dict") (Data.dict #[(dE P "__module__" 298 (vS "laterline.errors" 194)),(dE P "__firstlineno__" 302 (.int 20 301)),(dE P "__init__" 311 (.ref 113)),(dE P "__static_attributes__" 313 (.ref 114)),(dE P "__doc__" 315 vN)] 3))) ::
 (nat_lit 116,(Obj.mk (.type "type") none (Data.cls (ClassData.mk (qS "TooEarly") [(.ref 31)] [(.ref 116),(.ref 31),(.type "ValueError"),(.type "Exception"),(.type "BaseException"),(.type "object")] 115 (qS "TooEarly") Bool.true [] [] Bool.false none Bool.false)) #[(some (.ref 98)),none,(some (vS "TooEarly" 291)),(some (vS "TooEarly" 299)),(some (Value.builtin "ValueError.__new__")),(some vT)])) ::
 (nat_lit 119,(tO #[(.ref 31)])) ::
 (nat_lit 122,(oO (.type "cell") (Data.cell (some (.ref 137))))) ::
 (nat_lit 127,(tO #[(.ref 122)])) ::
 (nat_lit 128,(tO #[(vS "__class__" 333)])) ::
 (nat_lit 130,(tO #[(vS "self" 334),(vS "since" 335)])) ::
 (nat_lit 131,(tO #[])) ::
 (nat_lit 133,(oO (.type "code") (Data.fields #[(vS "__init__" 330),(vS "TooOld.__init__" 331),(vC 332),(vZ 27),(vZ 2),(vZ 0),(vZ 0),(vZ 3),(.ref 128),vT,(vZ 181),(.ref 129),vN,(.ref 130),(.ref 131),(.ref 132),(vZ 336),(vZ 27),(vC 337)]))) ::
 (nat_lit 134,(oO (.type "function") (Data.func (FuncData.mk (qS "__init__") (qS "TooOld.__init__") (Hd.dArgs (Hd.inCls (top 7) 0)) (.stmts (Hd.dBody (Hd.inCls (top 7) 0))) (Hd.dScope (Hd.inCls (top 7) 0)) 3 [((qS "__class__"),122)] vN vN vN (vS "laterline.errors" 194) none (.ref 133) (.ref 127) 0)))) ::
 (nat_lit 135,(tO #[(vS "since" 339)])) ::
 (nat_lit 136,(oO (.type "dict") (Data.dict #[(dE P "__module__" 325 (vS "laterline.errors" 194)),(dE P "__firstlineno__" 329 (.int 25 328)),(dE P "__init__" 338 (.ref 134)),(dE P "__static_attributes__" 340 (.ref 135)),(dE P "__doc__" 342 vN)] 3))) ::
 (nat_lit 137,(Obj.mk (.type "type") none (Data.cls (ClassData.mk (qS "TooOld") [(.ref 31)] [(.ref 137),(.ref 31),(.type "ValueError"),(.type "Exception"),(.type "BaseException"),(.type "object")] 136 (qS "TooOld") Bool.true [] [] Bool.false none Bool.false)) #[(some (.ref 119)),none,(some (vS "TooOld" 318)),(some (vS "TooOld" 326)),(some (Value.builtin "ValueError.__new__")),(some vT)])) ::
 (nat_lit 140,(tO #[(.ref 31)])) ::
 (nat_lit 143,(oO (.type "cell") (Data.cell (some (.ref 158))))) ::
 (nat_lit 148,(tO #[(.ref 143)])) ::
 (nat_lit 149,(tO #[(vS "__class__" 360)])) ::
 (nat_lit 151,(tO #[(vS "self" 361),(vS "place" 362)])) ::
 (nat_lit 152,(tO #[])) ::
 (nat_lit 154,(oO (.type "code") (Data.fields #[(vS "__init__" 357),(vS "Gap.__init__" 358),(vC 359),(vZ 32),(vZ 2),(vZ 0),(vZ 0),(vZ 3),(.ref 149),vT,(vZ 181),(.ref 150),vN,(.ref 151),(.ref 152),(.ref 153),(vZ 363),(vZ 32),(vC 364)]))) ::
 (nat_lit 155,(oO (.type "function") (Data.func (FuncData.mk (qS "__init__") (qS "Gap.__init__") (Hd.dArgs (Hd.inCls (top 8) 0)) (.stmts (Hd.dBody (Hd.inCls (top 8) 0))) (Hd.dScope (Hd.inCls (top 8) 0)) 3 [((qS "__class__"),143)] vN vN vN (vS "laterline.errors" 194) none (.ref 154) (.ref 148) 0)))) ::
 (nat_lit 156,(tO #[(vS "place" 366)])) ::
 (nat_lit 157,(oO (.type "dict") (Data.dict #[(dE P "__module__" 352 (vS "laterline.errors" 194)),(dE P "__firstlineno__" 356 (.int 30 355)),(dE P "__init__" 365 (.ref 155)),(dE P "__static_attributes__" 367 (.ref 156)),(dE P "__doc__" 369 vN)] 3))) ::
 (nat_lit 158,(Obj.mk (.type "type") none (Data.cls (ClassData.mk (qS "Gap") [(.ref 31)] [(.ref 158),(.ref 31),(.type "ValueError"),(.type "Exception"),(.type "BaseException"),(.type "object")] 157 (qS "Gap") Bool.true [] [] Bool.false none Bool.false)) #[(some (.ref 140)),none,(some (vS "Gap" 345)),(some (vS "Gap" 353)),(some (Value.builtin "ValueError.__new__")),(some vT)])) ::
 (nat_lit 161,(tO #[(.ref 31)])) ::
 (nat_lit 164,(oO (.type "cell") (Data.cell (some (.ref 179))))) ::
 (nat_lit 169,(tO #[(.ref 164)])) ::
 (nat_lit 170,(tO #[(vS "__class__" 387)])) ::
 (nat_lit 172,(tO #[(vS "self" 388),(vS "wanted" 389)])) ::
 (nat_lit 173,(tO #[])) ::
 (nat_lit 175,(oO (.type "code") (Data.fields #[(vS "__init__" 384),(vS "Elder.__init__" 385),(vC 386),(vZ 37),(vZ 2),(vZ 0),(vZ 0),(vZ 3),(.ref 170),vT,(vZ 181),(.ref 171),vN,(.ref 172),(.ref 173),(.ref 174),(vZ 390),(vZ 37),(vC 391)]))) ::
 (nat_lit 176,(oO (.type "function") (Data.func (FuncData.mk (qS "__init__") (qS "Elder.__init__") (Hd.dArgs (Hd.inCls (top 9) 0)) (.stmts (Hd.dBody (Hd.inCls (top 9) 0))) (Hd.dScope (Hd.inCls (top 9) 0)) 3 [((qS "__class__"),164)] vN vN vN (vS "laterline.errors" 194) none (.ref 175) (.ref 169) 0)))) ::
 (nat_lit 177,(tO #[(vS "wanted" 393)])) ::
 (nat_lit 178,(oO (.type "dict") (Data.dict #[(dE P "__module__" 379 (vS "laterline.errors" 194)),(dE P "__firstlineno__" 383 (.int 35 382)),(dE P "__init__" 392 (.ref 176)),(dE P "__static_attributes__" 394 (.ref 177)),(dE P "__doc__" 396 vN)] 3))) ::
 (nat_lit 179,(Obj.mk (.type "type") none (Data.cls (ClassData.mk (qS "Elder") [(.ref 31)] [(.ref 179),(.ref 31),(.type "ValueError"),(.type "Exception"),(.type "BaseException"),(.type "object")] 178 (qS "Elder") Bool.true [] [] Bool.false none Bool.false)) #[(some (.ref 161)),none,(some (vS "Elder" 372)),(some (vS "Elder" 380)),(some (Value.builtin "ValueError.__new__")),(some vT)])) ::
 (nat_lit 182,(tO #[(.ref 31)])) ::
 (nat_lit 185,(oO (.type "cell") (Data.cell (some (.ref 200))))) ::
 (nat_lit 190,(tO #[(.ref 185)])) ::
 (nat_lit 191,(tO #[(vS "__class__" 414)])) ::
 (nat_lit 193,(tO #[(vS "self" 415),(vS "what" 416)])) ::
 (nat_lit 194,(tO #[])) ::
 (nat_lit 196,(oO (.type "code") (Data.fields #[(vS "__init__" 411),(vS "Full.__init__" 412),(vC 413),(vZ 42),(vZ 2),(vZ 0),(vZ 0),(vZ 3),(.ref 191),vT,(vZ 181),(.ref 192),vN,(.ref 193),(.ref 194),(.ref 195),(vZ 417),(vZ 42),(vC 418)]))) ::
 (nat_lit 197,(oO (.type "function") (Data.func (FuncData.mk (qS "__init__") (qS "Full.__init__") (Hd.dArgs (Hd.inCls (top 10) 0)) (.stmts (Hd.dBody (Hd.inCls (top 10) 0))) (Hd.dScope (Hd.inCls (top 10) 0)) 3 [((qS "__class__"),185)] vN vN vN (vS "laterline.errors" 194) none (.ref 196) (.ref 190) 0)))) ::
 (nat_lit 198,(tO #[(vS "what" 420)])) ::
 (nat_lit 199,(oO (.type "dict") (Data.dict #[(dE P "__module__" 406 (vS "laterline.errors" 194)),(dE P "__firstlineno__" 410 (.int 40 409)),(dE P "__init__" 419 (.ref 197)),(dE P "__static_attributes__" 421 (.ref 198)),(dE P "__doc__" 423 vN)] 3))) ::
 (nat_lit 200,(Obj.mk (.type "type") none (Data.cls (ClassData.mk (qS "Full") [(.ref 31)] [(.ref 200),(.ref 31),(.type "ValueError"),(.type "Exception"),(.type "BaseException"),(.type "object")] 199 (qS "Full") Bool.true [] [] Bool.false none Bool.false)) #[(some (.ref 182)),none,(some (vS "Full" 399)),(some (vS "Full" 407)),(some (Value.builtin "ValueError.__new__")),(some vT)])) ::
 (nat_lit 203,(tO #[(.ref 31)])) ::
 (nat_lit 206,(oO (.type "cell") (Data.cell (some (.ref 221))))) ::
 (nat_lit 211,(tO #[(.ref 206)])) ::
 (nat_lit 212,(tO #[(vS "__class__" 441)])) ::
 (nat_lit 214,(tO #[(vS "self" 442),(vS "what" 443)])) ::
 (nat_lit 215,(tO #[])) ::
 (nat_lit 217,(oO (.type "code") (Data.fields #[(vS "__init__" 438),(vS "NoCount.__init__" 439),(vC 440),(vZ 47),(vZ 2),(vZ 0),(vZ 0),(vZ 3),(.ref 212),vT,(vZ 181),(.ref 213),vN,(.ref 214),(.ref 215),(.ref 216),(vZ 444),(vZ 47),(vC 445)]))) ::
 (nat_lit 218,(oO (.type "function") (Data.func (FuncData.mk (qS "__init__") (qS "NoCount.__init__") (Hd.dArgs (Hd.inCls (top 11) 0)) (.stmts (Hd.dBody (Hd.inCls (top 11) 0))) (Hd.dScope (Hd.inCls (top 11) 0)) 3 [((qS "__class__"),206)] vN vN vN (vS "laterline.errors" 194) none (.ref 217) (.ref 211) 0)))) ::
 (nat_lit 219,(tO #[(vS "what" 447)])) ::
 (nat_lit 220,(oO (.type "dict") (Data.dict #[(dE P "__module__" 433 (vS "laterline.errors" 194)),(dE P "__firstlineno__" 437 (.int 45 436)),(dE P "__init__" 446 (.ref 218)),(dE P "__static_attributes__" 448 (.ref 219)),(dE P "__doc__" 450 vN)] 3))) ::
 (nat_lit 221,(Obj.mk (.type "type") none (Data.cls (ClassData.mk (qS "NoCount") [(.ref 31)] [(.ref 221),(.ref 31),(.type "ValueError"),(.type "Exception"),(.type "BaseException"),(.type "object")] 220 (qS "NoCount") Bool.true [] [] Bool.false none Bool.false)) #[(some (.ref 203)),none,(some (vS "NoCount" 426)),(some (vS "NoCount" 434)),(some (Value.builtin "ValueError.__new__")),(some vT)])) ::
 (nat_lit 224,(tO #[])) ::
 (nat_lit 226,(tO #[(vS "thing" 462)])) ::
 (nat_lit 227,(tO #[])) ::
 (nat_lit 229,(oO (.type "code") (Data.fields #[(vS "is_number" 459),(vS "is_number" 460),(vC 461),(vZ 52),(vZ 1),(vZ 0),(vZ 0),(vZ 3),(.ref 224),vT,(vZ 181),(.ref 225),vN,(.ref 226),(.ref 227),(.ref 228),(vZ 463),(vZ 52),(vC 464)]))) ::
 (nat_lit 230,(oO (.type "function") (Data.func (FuncData.mk (qS "is_number") (qS "is_number") (Hd.dArgs (top 14)) (.stmts (Hd.dBody (top 14))) (Hd.dScope (top 14)) 3 [] vN vN vN (vS "laterline.counts" 453) none (.ref 229) vN 0)))) ::
 (nat_lit 231,(tO #[])) ::
 (nat_lit 233,(tO #[(vS "thing" 469),(vS "least" 470),(vS "most" 471)])) ::
 (nat_lit 234,(tO #[])) ::
 (nat_lit 236,(oO (.type "code") (Data.fields #[(vS "is_within" 466),(vS "is_within" 467),(vC 468),(vZ 54),(vZ 3),(vZ 0),(vZ 0),(vZ 3),(.ref 231),vT,(vZ 181),(.ref 232),vN,(.ref 233),(.ref 234),(.ref 235),(vZ 472),(vZ 54),(vC 473)]))) ::
 (nat_lit 237,(oO (.type "function") (Data.func (FuncData.mk (qS "is_within") (qS "is_within") (Hd.dArgs (top 15)) (.stmts (Hd.dBody (top 15))) (Hd.dScope (top 15)) 3 [] vN vN vN (vS "laterline.counts" 453) none (.ref 236) vN 0)))) ::
 (nat_lit 238,(tO #[])) ::
 (nat_lit 240,(tO #[(vS "thing" 478)])) ::
 (nat_lit 241,(tO #[])) ::
 (nat_lit 243,(oO (.type "code") (Data.fields #[(vS "is_count" 475),(vS "is_count" 476),(vC 477),(vZ 56),(vZ 1),(vZ 0),(vZ 0),(vZ 3),(.ref 238),vT,(vZ 181),(.ref 239),vN,(.ref 240),(.ref 241),(.ref 242),(vZ 479),(vZ 56),(vC 480)]))) ::
 (nat_lit 244,(oO (.type "function") (Data.func (FuncData.mk (qS "is_count") (qS "is_count") (Hd.dArgs (top 16)) (.stmts (Hd.dBody (top 16))) (Hd.dScope (top 16)) 3 [] vN vN vN (vS "laterline.counts" 453) none (.ref 243) vN 0)))) ::
 (nat_lit 245,(tO #[])) ::
 (nat_lit 247,(tO #[(vS "thing" 485)])) ::
 (nat_lit 248,(tO #[])) ::
 (nat_lit 250,(oO (.type "code") (Data.fields #[(vS "is_place" 482),(vS "is_place" 483),(vC 484),(vZ 58),(vZ 1),(vZ 0),(vZ 0),(vZ 3),(.ref 245),vT,(vZ 181),(.ref 246),vN,(.ref 247),(.ref 248),(.ref 249),(vZ 486),(vZ 58),(vC 487)]))) ::
 (nat_lit 251,(oO (.type "function") (Data.func (FuncData.mk (qS "is_place") (qS "is_place") (Hd.dArgs (top 17)) (.stmts (Hd.dBody (top 17))) (Hd.dScope (top 17)) 3 [] vN vN vN (vS "laterline.counts" 453) none (.ref 250) vN 0)))) ::
 (nat_lit 252,(tO #[(.int 0 491),(.int 0 492)])) ::
 (nat_lit 253,(tO #[(.ref 252)])) ::
 (nat_lit 254,(tO #[])) ::
 (nat_lit 256,(tO #[(vS "thing" 503)])) ::
 (nat_lit 257,(tO #[])) ::
 (nat_lit 259,(oO (.type "code") (Data.fields #[(vS "is_line" 500),(vS "is_line" 501),(vC 502),(vZ 64),(vZ 1),(vZ 0),(vZ 0),(vZ 3),(.ref 254),vT,(vZ 181),(.ref 255),vN,(.ref 256),(.ref 257),(.ref 258),(vZ 504),(vZ 64),(vC 505)]))) ::
 (nat_lit 260,(oO (.type "function") (Data.func (FuncData.mk (qS "is_line") (qS "is_line") (Hd.dArgs (top 22)) (.stmts (Hd.dBody (top 22))) (Hd.dScope (top 22)) 3 [] vN vN vN (vS "laterline.lines" 489) none (.ref 259) vN 0)))) ::
 (nat_lit 261,(tO #[])) ::
 (nat_lit 263,(tO #[(vS "thing" 510)])) ::
 (nat_lit 264,(tO #[])) ::
 (nat_lit 266,(oO (.type "code") (Data.fields #[(vS "is_line_and_place" 507),(vS "is_line_and_place" 508),(vC 509),(vZ 66),(vZ 1),(vZ 0),(vZ 0),(vZ 3),(.ref 261),vT,(vZ 181),(.ref 262),vN,(.ref 263),(.ref 264),(.ref 265),(vZ 511),(vZ 66),(vC 512)]))) ::
 (nat_lit 267,(oO (.type "function") (Data.func (FuncData.mk (qS "is_line_and_place") (qS "is_line_and_place") (Hd.dArgs (top 23)) (.stmts (Hd.dBody (top 23))) (Hd.dScope (top 23)) 3 [] vN vN vN (vS "laterline.lines" 489) none (.ref 266) vN 0)))) ::
 (nat_lit 268,(tO #[])) ::
 (nat_lit 271,(oO (.type "code") (Data.fields #[(vS "is_history" 514),(vS "is_history" 515),(vC 516),(vZ 68),(vZ 1),(vZ 0),(vZ 0),(vZ 3),(.ref 268),vT,(vZ 181),(.ref 269),vN,vN,vN,(.ref 270),(vZ 517),(vZ 68),(vC 518)]))) ::
 (nat_lit 272,(oO (.type "function") (Data.func (FuncData.mk (qS "is_history") (qS "is_history") (Hd.dArgs (top 24)) (.stmts (Hd.dBody (top 24))) (Hd.dScope (top 24)) 3 [] vN vN vN (vS "laterline.lines" 489) none (.ref 271) vN 0)))) ::
 (nat_lit 273,(tO #[])) ::
 (nat_lit 275,(tO #[(vS "thing" 523)])) ::
 (nat_lit 276,(tO #[])) ::
 (nat_lit 278,(oO (.type "code") (Data.fields #[(vS "require_history" 520),(vS "require_history" 521),(vC 522),(vZ 74),(vZ 1),(vZ 0),(vZ 0),(vZ 3),(.ref 273),vT,(vZ 181),(.ref 274),vN,(.ref 275),(.ref 276),(.ref 277),(vZ 524),(vZ 74),(vC 525)]))) ::
 (nat_lit 279,(oO (.type "function") (Data.func (FuncData.mk (qS "require_history") (qS "require_history") (Hd.dArgs (top 25)) (.stmts (Hd.dBody (top 25))) (Hd.dScope (top 25)) 3 [] vN vN vN (vS "laterline.lines" 489) none (.ref 278) vN 0)))) ::
 (nat_lit 280,(tO #[])) ::
 (nat_lit 282,(tO #[(vS "thing" 530)])) ::
 (nat_lit 283,(tO #[])) ::
 (nat_lit 285,(oO (.type "code") (Data.fields #[(vS "require_place" 527),(vS "require_place" 528),(vC 529),(vZ 77),(vZ 1),(vZ 0),(vZ 0),(vZ 3),(.ref 280),vT,(vZ 181),(.ref 281),vN,(.ref 282),(.ref 283),(.ref 284),(vZ 531),(vZ 77),(vC 532)]))) ::
 (nat_lit 286,(oO (.type "function") (Data.func (FuncData.mk (qS "require_place") (qS "require_place") (Hd.dArgs (top 26)) (.stmts (Hd.dBody (top 26))) (Hd.dScope (top 26)) 3 [] vN vN vN (vS "laterline.lines" 489) none (.ref 285) vN 0)))) ::
 (nat_lit 287,(tO #[])) ::
 (nat_lit 289,(tO #[(vS "history" 537),(vS "line" 538),(vS "fork" 539),(vS "last_line" 540),(vS "last_fork" 541)])) ::
 (nat_lit 290,(tO #[])) ::
 (nat_lit 292,(oO (.type "code") (Data.fields #[(vS "extended" 534),(vS "extended" 535),(vC 536),(vZ 80),(vZ 3),(vZ 0),(vZ 0),(vZ 3),(.ref 287),vT,(vZ 181),(.ref 288),vN,(.ref 289),(.ref 290),(.ref 291),(vZ 542),(vZ 80),(vC 543)]))) ::
 (nat_lit 293,(oO (.type "function") (Data.func (FuncData.mk (qS "extended") (qS "extended") (Hd.dArgs (top 27)) (.stmts (Hd.dBody (top 27))) (Hd.dScope (top 27)) 3 [] vN vN vN (vS "laterline.lines" 489) none (.ref 292) vN 0)))) ::
 (nat_lit 294,(tO #[])) ::
 (nat_lit 297,(oO (.type "code") (Data.fields #[(vS "is_key" 553),(vS "is_key" 554),(vC 555),(vZ 93),(vZ 1),(vZ 0),(vZ 0),(vZ 3),(.ref 294),vT,(vZ 181),(.ref 295),vN,vN,vN,(.ref 296),(vZ 556),(vZ 93),(vC 557)]))) ::
 (nat_lit 298,(oO (.type "function") (Data.func (FuncData.mk (qS "is_key") (qS "is_key") (Hd.dArgs (top 31)) (.stmts (Hd.dBody (top 31))) (Hd.dScope (top 31)) 3 [] vN vN vN (vS "laterline.rows" 545) none (.ref 297) vN 0)))) ::
 (nat_lit 299,(tO #[])) ::
 (nat_lit 301,(tO #[(vS "thing" 562)])) ::
 (nat_lit 302,(tO #[])) ::
 (nat_lit 304,(oO (.type "code") (Data.fields #[(vS "is_value" 559),(vS "is_value" 560),(vC 561),(vZ 97),(vZ 1),(vZ 0),(vZ 0),(vZ 3),(.ref 299),vT,(vZ 181),(.ref 300),vN,(.ref 301),(.ref 302),(.ref 303),(vZ 563),(vZ 97),(vC 564)]))) ::
 (nat_lit 305,(oO (.type "function") (Data.func (FuncData.mk (qS "is_value") (qS "is_value") (Hd.dArgs (top 32)) (.stmts (Hd.dBody (top 32))) (Hd.dScope (top 32)) 3 [] vN vN vN (vS "laterline.rows" 545) none (.ref 304) vN 0)))) ::
 (nat_lit 306,(tO #[])) ::
 (nat_lit 308,(tO #[(vS "thing" 569),(vS "word" 570)])) ::
 (nat_lit 309,(tO #[])) ::
 (nat_lit 311,(oO (.type "code") (Data.fields #[(vS "is_word" 566),(vS "is_word" 567),(vC 568),(vZ 99),(vZ 2),(vZ 0),(vZ 0),(vZ 3),(.ref 306),vT,(vZ 181),(.ref 307),vN,(.ref 308),(.ref 309),(.ref 310),(vZ 571),(vZ 99),(vC 572)]))) ::
 (nat_lit 312,(oO (.type "function") (Data.func (FuncData.mk (qS "is_word") (qS "is_word") (Hd.dArgs (top 33)) (.stmts (Hd.dBody (top 33))) (Hd.dScope (top 33)) 3 [] vN vN vN (vS "laterline.rows" 545) none (.ref 311) vN 0)))) ::
 (nat_lit 313,(tO #[])) ::
 (nat_lit 315,(tO #[(vS "thing" 577)])) ::
 (nat_lit 316,(tO #[])) ::
 (nat_lit 318,(oO (.type "code") (Data.fields #[(vS "is_set" 574),(vS "is_set" 575),(vC 576),(vZ 101),(vZ 1),(vZ 0),(vZ 0),(vZ 3),(.ref 313),vT,(vZ 181),(.ref 314),vN,(.ref 315),(.ref 316),(.ref 317),(vZ 578),(vZ 101),(vC 579)]))) ::
 (nat_lit 319,(oO (.type "function") (Data.func (FuncData.mk (qS "is_set") (qS "is_set") (Hd.dArgs (top 34)) (.stmts (Hd.dBody (top 34))) (Hd.dScope (top 34)) 3 [] vN vN vN (vS "laterline.rows" 545) none (.ref 318) vN 0)))) ::
 (nat_lit 320,(tO #[])) ::
 (nat_lit 322,(tO #[(vS "thing" 584)])) ::
 (nat_lit 323,(tO #[])) ::
 (nat_lit 325,(oO (.type "code") (Data.fields #[(vS "is_cut" 581),(vS "is_cut" 582),(vC 583),(vZ 103),(vZ 1),(vZ 0),(vZ 0),(vZ 3),(.ref 320),vT,(vZ 181),(.ref 321),vN,(.ref 322),(.ref 323),(.ref 324),(vZ 585),(vZ 103),(vC 586)]))) ::
 (nat_lit 326,(oO (.type "function") (Data.func (FuncData.mk (qS "is_cut") (qS "is_cut") (Hd.dArgs (top 35)) (.stmts (Hd.dBody (top 35))) (Hd.dScope (top 35)) 3 [] vN vN vN (vS "laterline.rows" 545) none (.ref 325) vN 0)))) ::
 (nat_lit 327,(tO #[])) ::
 (nat_lit 329,(tO #[(vS "thing" 591)])) ::
 (nat_lit 330,(tO #[])) ::
 (nat_lit 332,(oO (.type "code") (Data.fields #[(vS "is_row" 588),(vS "is_row" 589),(vC 590),(vZ 105),(vZ 1),(vZ 0),(vZ 0),(vZ 3),(.ref 327),vT,(vZ 181),(.ref 328),vN,(.ref 329),(.ref 330),(.ref 331),(vZ 592),(vZ 105),(vC 593)]))) ::
 (nat_lit 333,(oO (.type "function") (Data.func (FuncData.mk (qS "is_row") (qS "is_row") (Hd.dArgs (top 36)) (.stmts (Hd.dBody (top 36))) (Hd.dScope (top 36)) 3 [] vN vN vN (vS "laterline.rows" 545) none (.ref 332) vN 0)))) ::
 (nat_lit 341,(oO (.type "dict") (Data.dict #[(dE P "history" 610 (.ref 253)),(dE P "floor" 611 (.int 0 609))] 2))) ::
 (nat_lit 342,(tO #[])) ::
 (nat_lit 344,(tO #[(vS "self" 615),(vS "history" 616),(vS "floor" 617)])) ::
 (nat_lit 345,(tO #[])) ::
 (nat_lit 347,(oO (.type "code") (Data.fields #[(vS "__init__" 612),(vS "Log.__init__" 613),(vC 614),(vZ 110),(vZ 1),(vZ 0),(vZ 2),(vZ 3),(.ref 342),vT,(vZ 181),(.ref 343),vN,(.ref 344),(.ref 345),(.ref 346),(vZ 618),(vZ 110),(vC 619)]))) ::
 (nat_lit 348,(oO (.type "function") (Data.func (FuncData.mk (qS "__init__") (qS "Log.__init__") (Hd.dArgs (Hd.inCls (top 38) 0)) (.stmts (Hd.dBody (Hd.inCls (top 38) 0))) (Hd.dScope (Hd.inCls (top 38) 0)) 3 [] vN (.ref 341) vN (vS "laterline.logs" 595) none (.ref 347) vN 0)))) ::
 (nat_lit 349,(tO #[])) ::
 (nat_lit 351,(tO #[(vS "self" 624)])) ::
 (nat_lit 352,(tO #[])) ::
 (nat_lit 354,(oO (.type "code") (Data.fields #[(vS "end" 621),(vS "Log.end" 622),(vC 623),(vZ 117),(vZ 1),(vZ 0),(vZ 0),(vZ 3),(.ref 349),vT,(vZ 181),(.ref 350),vN,(.ref 351),(.ref 352),(.ref 353),(vZ 625),(vZ 117),(vC 626)]))) ::
 (nat_lit 355,(oO (.type "function") (Data.func (FuncData.mk (qS "end") (qS "Log.end") (Hd.dArgs (Hd.inCls (top 38) 1)) (.stmts (Hd.dBody (Hd.inCls (top 38) 1))) (Hd.dScope (Hd.inCls (top 38) 1)) 3 [] vN vN vN (vS "laterline.logs" 595) none (.ref 354) vN 0)))) ::
 (nat_lit 356,(tO #[])) ::
 (nat_lit 358,(tO #[(vS "self" 631)])) ::
 (nat_lit 359,(tO #[])) ::
 (nat_lit 361,(oO (.type "code") (Data.fields #[(vS "floor" 628),(vS "Log.floor" 629),(vC 630),(vZ 120),(vZ 1),(vZ 0),(vZ 0),(vZ 3),(.ref 356),vT,(vZ 181),(.ref 357),vN,(.ref 358),(.ref 359),(.ref 360),(vZ 632),(vZ 120),(vC 633)]))) ::
 (nat_lit 362,(oO (.type "function") (Data.func (FuncData.mk (qS "floor") (qS "Log.floor") (Hd.dArgs (Hd.inCls (top 38) 2)) (.stmts (Hd.dBody (Hd.inCls (top 38) 2))) (Hd.dScope (Hd.inCls (top 38) 2)) 3 [] vN vN vN (vS "laterline.logs" 595) none (.ref 361) vN 0)))) ::
 (nat_lit 363,(tO #[])) ::
 (nat_lit 365,(tO #[(vS "self" 638)])) ::
 (nat_lit 366,(tO #[])) ::
 (nat_lit 368,(oO (.type "code") (Data.fields #[(vS "line" 635),(vS "Log.line" 636),(vC 637),(vZ 123),(vZ 1),(vZ 0),(vZ 0),(vZ 3),(.ref 363),vT,(vZ 181),(.ref 364),vN,(.ref 365),(.ref 366),(.ref 367),(vZ 639),(vZ 123),(vC 640)]))) ::
 (nat_lit 369,(oO (.type "function") (Data.func (FuncData.mk (qS "line") (qS "Log.line") (Hd.dArgs (Hd.inCls (top 38) 3)) (.stmts (Hd.dBody (Hd.inCls (top 38) 3))) (Hd.dScope (Hd.inCls (top 38) 3)) 3 [] vN vN vN (vS "laterline.logs" 595) none (.ref 368) vN 0)))) ::
 (nat_lit 370,(tO #[])) ::
 (nat_lit 372,(tO #[(vS "self" 645)])) ::
 (nat_lit 373,(tO #[])) ::
 (nat_lit 375,(oO (.type "code") (Data.fields #[(vS "history" 642),(vS "Log.history" 643),(vC 644),(vZ 126),(vZ 1),(vZ 0),(vZ 0),(vZ 3),(.ref 370),vT,(vZ 181),(.ref 371),vN,(.ref 372),(.ref 373),(.ref 374),(vZ 646),(vZ 126),(vC 647)]))) ::
 (nat_lit 376,(oO (.type "function") (Data.func (FuncData.mk (qS "history") (qS "Log.history") (Hd.dArgs (Hd.inCls (top 38) 4)) (.stmts (Hd.dBody (Hd.inCls (top 38) 4))) (Hd.dScope (Hd.inCls (top 38) 4)) 3 [] vN vN vN (vS "laterline.logs" 595) none (.ref 375) vN 0)))) ::
 (nat_lit 377,(tO #[])) ::
 (nat_lit 379,(tO #[(vS "self" 652),(vS "place" 653)])) ::
 (nat_lit 380,(tO #[])) ::
 (nat_lit 382,(oO (.type "code") (Data.fields #[(vS "require_kept_from" 649),(vS "Log.require_kept_from" 650),(vC 651),(vZ 129),(vZ 2),(vZ 0),(vZ 0),(vZ 3),(.ref 377),vT,(vZ 181),(.ref 378),vN,(.ref 379),(.ref 380),(.ref 381),(vZ 654),(vZ 129),(vC 655)]))) ::
 (nat_lit 383,(oO (.type "function") (Data.func (FuncData.mk (qS "require_kept_from") (qS "Log.require_kept_from") (Hd.dArgs (Hd.inCls (top 38) 5)) (.stmts (Hd.dBody (Hd.inCls (top 38) 5))) (Hd.dScope (Hd.inCls (top 38) 5)) 3 [] vN vN vN (vS "laterline.logs" 595) none (.ref 382) vN 0)))) ::
 (nat_lit 384,(tO #[])) ::
 (nat_lit 386,(tO #[(vS "self" 660),(vS "place" 661)])) ::
 (nat_lit 387,(tO #[])) ::
 (nat_lit 389,(oO (.type "code") (Data.fields #[(vS "row" 657),(vS "Log.row" 658),(vC 659),(vZ 135),(vZ 2),(vZ 0),(vZ 0),(vZ 3),(.ref 384),vT,(vZ 181),(.ref 385),vN,(.ref 386),(.ref 387),(.ref 388),(vZ 662),(vZ 135),(vC 663)]))) ::
 (nat_lit 390,(oO (.type "function") (Data.func (FuncData.mk (qS "row") (qS "Log.row") (Hd.dArgs (Hd.inCls (top 38) 6)) (.stmts (Hd.dBody (Hd.inCls (top 38) 6))) (Hd.dScope (Hd.inCls (top 38) 6)) 3 [] vN vN vN (vS "laterline.logs" 595) none (.ref 389) vN 0)))) ::
 (nat_lit 391,(tO #[])) ::
 (nat_lit 393,(tO #[(vS "self" 668),(vS "row" 669)])) ::
 (nat_lit 394,(tO #[])) ::
 (nat_lit 396,(oO (.type "code") (Data.fields #[(vS "put" 665),(vS "Log.put" 666),(vC 667),(vZ 142),(vZ 2),(vZ 0),(vZ 0),(vZ 3),(.ref 391),vT,(vZ 181),(.ref 392),vN,(.ref 393),(.ref 394),(.ref 395),(vZ 670),(vZ 142),(vC 671)]))) ::
 (nat_lit 397,(oO (.type "function") (Data.func (FuncData.mk (qS "put") (qS "Log.put") (Hd.dArgs (Hd.inCls (top 38) 7)) (.stmts (Hd.dBody (Hd.inCls (top 38) 7))) (Hd.dScope (Hd.inCls (top 38) 7)) 3 [] vN vN vN (vS "laterline.logs" 595) none (.ref 396) vN 0)))) ::
 (nat_lit 398,(oO (.type "dict") (Data.dict #[(dE P "many" 673 vN)] 1))) ::
 (nat_lit 399,(tO #[])) ::
 (nat_lit 401,(tO #[(vS "self" 677),(vS "place" 678),(vS "many" 679),(vS "behind" 680)])) ::
 (nat_lit 402,(tO #[])) ::
 (nat_lit 404,(oO (.type "code") (Data.fields #[(vS "rows" 674),(vS "Log.rows" 675),(vC 676),(vZ 148),(vZ 2),(vZ 0),(vZ 1),(vZ 3),(.ref 399),vT,(vZ 181),(.ref 400),vN,(.ref 401),(.ref 402),(.ref 403),(vZ 681),(vZ 148),(vC 682)]))) ::
 (nat_lit 405,(oO (.type "function") (Data.func (FuncData.mk (qS "rows") (qS "Log.rows") (Hd.dArgs (Hd.inCls (top 38) 8)) (.stmts (Hd.dBody (Hd.inCls (top 38) 8))) (Hd.dScope (Hd.inCls (top 38) 8)) 3 [] vN (.ref 398) vN (vS "laterline.logs" 595) none (.ref 404) vN 0)))) ::
 (nat_lit 406,(tO #[])) ::
 (nat_lit 408,(tO #[(vS "self" 687),(vS "history" 688),(vS "place" 689),(vS "rows" 690),(vS "end" 691)])) ::
 (nat_lit 409,(tO #[])) ::
 (nat_lit 411,(oO (.type "code") (Data.fields #[(vS "add_rows" 684),(vS "Log.add_rows" 685),(vC 686),(vZ 155),(vZ 4),(vZ 0),(vZ 0),(vZ 3),(.ref 406),vT,(vZ 181),(.ref 407),vN,(.ref 408),(.ref 409),(.ref 410),(vZ 692),(vZ 155),(vC 693)]))) ::
 (nat_lit 412,(oO (.type "function") (Data.func (FuncData.mk (qS "add_rows") (qS "Log.add_rows") (Hd.dArgs (Hd.inCls (top 38) 9)) (.stmts (Hd.dBody (Hd.inCls (top 38) 9))) (Hd.dScope (Hd.inCls (top 38) 9)) 3 [] vN vN vN (vS "laterline.logs" 595) none (.ref 411) vN 0)))) ::
 (nat_lit 413,(tO #[])) ::
 (nat_lit 415,(tO #[(vS "self" 698),(vS "place" 699)])) ::
 (nat_lit 416,(tO #[])) ::
 (nat_lit 418,(oO (.type "code") (Data.fields #[(vS "written_rows" 695),(vS "Log.written_rows" 696),(vC 697),(vZ 164),(vZ 2),(vZ 0),(vZ 0),(vZ 3),(.ref 413),vT,(vZ 181),(.ref 414),vN,(.ref 415),(.ref 416),(.ref 417),(vZ 700),(vZ 164),(vC 701)]))) ::
 (nat_lit 419,(oO (.type "function") (Data.func (FuncData.mk (qS "written_rows") (qS "Log.written_rows") (Hd.dArgs (Hd.inCls (top 38) 10)) (.stmts (Hd.dBody (Hd.inCls (top 38) 10))) (Hd.dScope (Hd.inCls (top 38) 10)) 3 [] vN vN vN (vS "laterline.logs" 595) none (.ref 418) vN 0)))) ::
 (nat_lit 420,(tO #[])) ::
 (nat_lit 422,(tO #[(vS "self" 706),(vS "place" 707)])) ::
 (nat_lit 423,(tO #[])) ::
 (nat_lit 425,(oO (.type "code") (Data.fields #[(vS "cut_back" 703),(vS "Log.cut_back" 704),(vC 705),(vZ 167),(vZ 2),(vZ 0),(vZ 0),(vZ 3),(.ref 420),vT,(vZ 181),(.ref 421),vN,(.ref 422),(.ref 423),(.ref 424),(vZ 708),(vZ 167),(vC 709)]))) ::
 (nat_lit 426,(oO (.type "function") (Data.func (FuncData.mk (qS "cut_back") (qS "Log.cut_back") (Hd.dArgs (Hd.inCls (top 38) 11)) (.stmts (Hd.dBody (Hd.inCls (top 38) 11))) (Hd.dScope (Hd.inCls (top 38) 11)) 3 [] vN vN vN (vS "laterline.logs" 595) none (.ref 425) vN 0)))) ::
 (nat_lit 427,(tO #[])) ::
 (nat_lit 430,(oO (.type "code") (Data.fields #[(vS "fork" 711),(vS "Log.fork" 712),(vC 713),(vZ 170),(vZ 2),(vZ 0),(vZ 0),(vZ 3),(.ref 427),vT,(vZ 181),(.ref 428),vN,vN,vN,(.ref 429),(vZ 714),(vZ 170),(vC 715)]))) ::
 (nat_lit 431,(oO (.type "function") (Data.func (FuncData.mk (qS "fork") (qS "Log.fork") (Hd.dArgs (Hd.inCls (top 38) 12)) (.stmts (Hd.dBody (Hd.inCls (top 38) 12))) (Hd.dScope (Hd.inCls (top 38) 12)) 3 [] vN vN vN (vS "laterline.logs" 595) none (.ref 430) vN 0)))) ::
 (nat_lit 432,(tO #[])) ::
 (nat_lit 434,(tO #[(vS "self" 720),(vS "history" 721)])) ::
 (nat_lit 435,(tO #[])) ::
 (nat_lit 437,(oO (.type "code") (Data.fields #[(vS "adopt" 717),(vS "Log.adopt" 718),(vC 719),(vZ 175),(vZ 2),(vZ 0),(vZ 0),(vZ 3),(.ref 432),vT,(vZ 181),(.ref 433),vN,(.ref 434),(.ref 435),(.ref 436),(vZ 722),(vZ 175),(vC 723)]))) ::
 (nat_lit 438,(oO (.type "function") (Data.func (FuncData.mk (qS "adopt") (qS "Log.adopt") (Hd.dArgs (Hd.inCls (top 38) 13)) (.stmts (Hd.dBody (Hd.inCls (top 38) 13))) (Hd.dScope (Hd.inCls (top 38) 13)) 3 [] vN vN vN (vS "laterline.logs" 595) none (.ref 437) vN 0)))) ::
 (nat_lit 439,(tO #[])) ::
 (nat_lit 441,(tO #[(vS "self" 728),(vS "place" 729)])) ::
 (nat_lit 442,(tO #[])) ::
 (nat_lit 444,(oO (.type "code") (Data.fields #[(vS "trim" 725),(vS "Log.trim" 726),(vC 727),(vZ 178),(vZ 2),(vZ 0),(vZ 0),(vZ 3),(.ref 439),vT,(vZ 181),(.ref 440),vN,(.ref 441),(.ref 442),(.ref 443),(vZ 730),(vZ 178),(vC 731)]))) ::
 (nat_lit 445,(oO (.type "function") (Data.func (FuncData.mk (qS "trim") (qS "Log.trim") (Hd.dArgs (Hd.inCls (top 38) 14)) (.stmts (Hd.dBody (Hd.inCls (top 38) 14))) (Hd.dScope (Hd.inCls (top 38) 14)) 3 [] vN vN vN (vS "laterline.logs" 595) none (.ref 444) vN 0)))) ::
 (nat_lit 446,(tO #[])) ::
 (nat_lit 448,(tO #[(vS "self" 736)])) ::
 (nat_lit 449,(tO #[])) ::
 (nat_lit 451,(oO (.type "code") (Data.fields #[(vS "__len__" 733),(vS "Log.__len__" 734),(vC 735),(vZ 184),(vZ 1),(vZ 0),(vZ 0),(vZ 3),(.ref 446),vT,(vZ 181),(.ref 447),vN,(.ref 448),(.ref 449),(.ref 450),(vZ 737),(vZ 184),(vC 738)]))) ::
 (nat_lit 452,(oO (.type "function") (Data.func (FuncData.mk (qS "__len__") (qS "Log.__len__") (Hd.dArgs (Hd.inCls (top 38) 15)) (.stmts (Hd.dBody (Hd.inCls (top 38) 15))) (Hd.dScope (Hd.inCls (top 38) 15)) 3 [] vN vN vN (vS "laterline.logs" 595) none (.ref 451) vN 0)))) ::
 (nat_lit 453,(tO #[])) ::
 (nat_lit 455,(tO #[(vS "self" 743),(vS "other" 744)])) ::
 (nat_lit 456,(tO #[])) ::
 (nat_lit 458,(oO (.type "code") (Data.fields #[(vS "__eq__" 740),(vS "Log.__eq__" 741),(vC 742),(vZ 187),(vZ 2),(vZ 0),(vZ 0),(vZ 3),(.ref 453),vT,(vZ 181),(.ref 454),vN,(.ref 455),(.ref 456),(.ref 457),(vZ 745),(vZ 187),(vC 746)]))) ::
 (nat_lit 459,(oO (.type "function") (Data.func (FuncData.mk (qS "__eq__") (qS "Log.__eq__") (Hd.dArgs (Hd.inCls (top 38) 16)) (.stmts (Hd.dBody (Hd.inCls (top 38) 16))) (Hd.dScope (Hd.inCls (top 38) 16)) 3 [] vN vN vN (vS "laterline.logs" 595) none (.ref 458) vN 0)))) ::
 (nat_lit 460,(tO #[(vS "cut_off" 748),(vS "kept_rows" 749),(vS "past" 750)])) ::
 (nat_lit 461,(oO (.type "dict") (Data.dict #[(dE P "__module__" 604 (vS "laterline.logs" 595)),(dE P "__firstlineno__" 608 (.int 108 607)),(dE P "__init__" 620 (.ref 348)),(dE P "end" 627 (.ref 355)),(dE P "floor" 634 (.ref 362)),(dE P "line" 641 (.ref 369)),(dE P "history" 648 (.ref 376)),(dE P "require_kept_from" 656 (.ref 383)),(dE P "row" 664 (.ref 390)),(dE P "put" 672 (.ref 397)),(dE P "rows" 683 (.ref 405)),(dE P "add_rows" 694 (.ref 412)),(dE P "written_rows" 702 (.ref 419)),(dE P "cut_back" 710 (.ref 426)),(dE P "fork" 716 (.ref 431)),(dE P "adopt" 724 (.ref 438)),(dE P "trim" 732 (.ref 445)),(dE P "__len__" 739 (.ref 452)),(dE P "__eq__" 747 (.ref 459)),(dE P "__static_attributes__" 751 (.ref 460)),(dE P "__dict__" 753 (.ref 463)),(dE P "__weakref__" 755 (.ref 464)),(dE P "__doc__" 756 vN),(dE P "__hash__" 757 vN)] 5))) ::
 (nat_lit 462,(Obj.mk (.type "type") none (Data.cls (ClassData.mk (qS "Log") [(.type "object")] [(.ref 462),(.type "object")] 461 (qS "Log") Bool.true [] [] Bool.false none Bool.false)) #[none,none,(some (vS "Log" 597)),(some (vS "Log" 605)),(some (Value.builtin "object.__new__")),(some vT)])) ::
 (nat_lit 463,(oO (.type "getset_descriptor") (Data.fields #[(vS "__dict__" 752),(.ref 462),(Value.builtin "function.__dict__"),(Value.builtin "function.__dict__#set")]))) ::
 (nat_lit 464,(oO (.type "getset_descriptor") (Data.fields #[(vS "__weakref__" 754),(.ref 462),(Value.builtin "ExceptionGroup.__weakref__"),vN]))) ::
 (nat_lit 467,(tO #[])) ::
 (nat_lit 469,(tO #[(vS "_law_script" 765),(vS "_law_cells" 766)])) ::
 (nat_lit 470,(tO #[])) ::
 (nat_lit 472,(oO (.type "code") (Data.fields #[(vS "_law_state" 762),(vS "_law_state" 763),(vC 764),(vZ 190),(vZ 1),(vZ 0),(vZ 0),(vZ 3),(.ref 467),vT,(vZ 181),(.ref 468),vN,(.ref 469),(.ref 470),(.ref 471),(vZ 767),(vZ 190),(vC 768)]))) ::
 (nat_lit 473,(oO (.type "function") (Data.func (FuncData.mk (qS "_law_state") (qS "_law_state") (Hd.dArgs (top 40)) (.stmts (Hd.dBody (top 40))) (Hd.dScope (top 40)) 3 [] vN vN vN (vS "law_laterline_k22_rows_of_another_log" 760) none (.ref 472) vN 0)))) ::
 (nat_lit 474,(tO #[])) ::
 (nat_lit 476,(tO #[(vS "_law_state_here" 773),(vS "_law_below" 774),(vS "_law_found" 775),(vS "_law_cells" 776),(vS "_law_cell" 777)])) ::
 (nat_lit 477,(tO #[])) ::
 (nat_lit 479,(oO (.type "code") (Data.fields #[(vS "_law_next" 770),(vS "_law_next" 771),(vC 772),(vZ 195),(vZ 2),(vZ 0),(vZ 0),(vZ 3),(.ref 474),vT,(vZ 181),(.ref 475),vN,(.ref 476),(.ref 477),(.ref 478),(vZ 778),(vZ 195),(vC 779)]))) ::
 (nat_lit 480,(oO (.type "function") (Data.func (FuncData.mk (qS "_law_next") (qS "_law_next") (Hd.dArgs (top 41)) (.stmts (Hd.dBody (top 41))) (Hd.dScope (top 41)) 3 [] vN vN vN (vS "law_laterline_k22_rows_of_another_log" 760) none (.ref 479) vN 0)))) ::
 (nat_lit 481,(tO #[])) ::
 (nat_lit 483,(tO #[(vS "_law_found" 784),(vS "_law_due" 785),(vS "_law_one" 786),(vS "_law_other" 787)])) ::
 (nat_lit 484,(tO #[])) ::
 (nat_lit 486,(oO (.type "code") (Data.fields #[(vS "_law_alike" 781),(vS "_law_alike" 782),(vC 783),(vZ 208),(vZ 2),(vZ 0),(vZ 0),(vZ 3),(.ref 481),vT,(vZ 181),(.ref 482),vN,(.ref 483),(.ref 484),(.ref 485),(vZ 788),(vZ 208),(vC 789)]))) ::
 (nat_lit 487,(oO (.type "function") (Data.func (FuncData.mk (qS "_law_alike") (qS "_law_alike") (Hd.dArgs (top 42)) (.stmts (Hd.dBody (top 42))) (Hd.dScope (top 42)) 3 [] vN vN vN (vS "law_laterline_k22_rows_of_another_log" 760) none (.ref 486) vN 0)))) ::
 (nat_lit 488,(tO #[])) ::
 (nat_lit 490,(tO #[(vS "_law_state_here" 794),(vS "_law_key" 795),(vS "_law_way" 796),(vS "_law_far" 797),(vS "_law_k" 798)])) ::
 (nat_lit 491,(tO #[])) ::
 (nat_lit 493,(oO (.type "code") (Data.fields #[(vS "_law_row" 791),(vS "_law_row" 792),(vC 793),(vZ 225),(vZ 1),(vZ 0),(vZ 0),(vZ 3),(.ref 488),vT,(vZ 181),(.ref 489),vN,(.ref 490),(.ref 491),(.ref 492),(vZ 799),(vZ 225),(vC 800)]))) ::
 (nat_lit 494,(oO (.type "function") (Data.func (FuncData.mk (qS "_law_row") (qS "_law_row") (Hd.dArgs (top 43)) (.stmts (Hd.dBody (top 43))) (Hd.dScope (top 43)) 3 [] vN vN vN (vS "law_laterline_k22_rows_of_another_log" 760) none (.ref 493) vN 0)))) ::
 (nat_lit 495,(tO #[])) ::
 (nat_lit 498,(oO (.type "code") (Data.fields #[(vS "_law_names" 802),(vS "_law_names" 803),(vC 804),(vZ 236),(vZ 1),(vZ 0),(vZ 0),(vZ 3),(.ref 495),vT,(vZ 181),(.ref 496),vN,vN,vN,(.ref 497),(vZ 805),(vZ 236),(vC 806)]))) ::
 (nat_lit 499,(oO (.type "function") (Data.func (FuncData.mk (qS "_law_names") (qS "_law_names") (Hd.dArgs (top 44)) (.stmts (Hd.dBody (top 44))) (Hd.dScope (top 44)) 3 [] vN vN vN (vS "law_laterline_k22_rows_of_another_log" 760) none (.ref 498) vN 0)))) ::
 (nat_lit 500,(tO #[])) ::
 (nat_lit 502,(tO #[(vS "_law_past" 811),(vS "_law_place" 812),(vS "_law_found" 813),(vS "_law_line" 814),(vS "_law_fork" 815)])) ::
 (nat_lit 503,(tO #[])) ::
 (nat_lit 505,(oO (.type "code") (Data.fields #[(vS "_law_at" 808),(vS "_law_at" 809),(vC 810),(vZ 242),(vZ 2),(vZ 0),(vZ 0),(vZ 3),(.ref 500),vT,(vZ 181),(.ref 501),vN,(.ref 502),(.ref 503),(.ref 504),(vZ 816),(vZ 242),(vC 817)]))) ::
 (nat_lit 506,(oO (.type "function") (Data.func (FuncData.mk (qS "_law_at") (qS "_law_at") (Hd.dArgs (top 45)) (.stmts (Hd.dBody (top 45))) (Hd.dScope (top 45)) 3 [] vN vN vN (vS "law_laterline_k22_rows_of_another_log" 760) none (.ref 505) vN 0)))) ::
 (nat_lit 507,(tO #[])) ::
 (nat_lit 509,(tO #[(vS "_law_log" 822),(vS "_law_past" 823),(vS "_law_low" 824),(vS "_law_rows" 825)])) ::
 (nat_lit 510,(tO #[])) ::
 (nat_lit 512,(oO (.type "code") (Data.fields #[(vS "_law_so" 819),(vS "_law_so" 820),(vC 821),(vZ 248),(vZ 4),(vZ 0),(vZ 0),(vZ 3),(.ref 507),vT,(vZ 181),(.ref 508),vN,(.ref 509),(.ref 510),(.ref 511),(vZ 826),(vZ 248),(vC 827)]))) ::
 (nat_lit 513,(oO (.type "function") (Data.func (FuncData.mk (qS "_law_so") (qS "_law_so") (Hd.dArgs (top 46)) (.stmts (Hd.dBody (top 46))) (Hd.dScope (top 46)) 3 [] vN vN vN (vS "law_laterline_k22_rows_of_another_log" 760) none (.ref 512) vN 0)))) ::
 (nat_lit 514,(tO #[])) ::
 (nat_lit 516,(tO #[(vS "_law_log" 832),(vS "_law_past" 833),(vS "_law_place" 834),(vS "_law_rows" 835),(vS "_law_caught" 836),(vS "_law_error" 837)])) ::
 (nat_lit 517,(tO #[])) ::
 (nat_lit 519,(oO (.type "code") (Data.fields #[(vS "_law_gap_so" 829),(vS "_law_gap_so" 830),(vC 831),(vZ 254),(vZ 4),(vZ 0),(vZ 0),(vZ 3),(.ref 514),vT,(vZ 181),(.ref 515),vN,(.ref 516),(.ref 517),(.ref 518),(vZ 838),(vZ 254),(vC 839)]))) ::
 (nat_lit 520,(oO (.type "function") (Data.func (FuncData.mk (qS "_law_gap_so") (qS "_law_gap_so") (Hd.dArgs (top 47)) (.stmts (Hd.dBody (top 47))) (Hd.dScope (top 47)) 3 [] vN vN vN (vS "law_laterline_k22_rows_of_another_log" 760) none (.ref 519) vN 0)))) ::
 (nat_lit 521,(tO #[])) ::
 (nat_lit 523,(tO #[(vS "_law_state_here" 844),(vS "_law_first" 845),(vS "_law_second" 846),(vS "_law_parts" 847),(vS "_law_past" 848),(vS "_law_rows" 849),(vS "_law_low" 850),(vS "_law_end" 851),(vS "_law_place" 852),(vS "_law_top" 853),(vS "_law_handed_here" 854),(vS "_law_due" 855),(vS "_law_found" 856)])) ::
 (nat_lit 524,(tO #[])) ::
 (nat_lit 526,(oO (.type "code") (Data.fields #[(vS "_law_handed" 841),(vS "_law_handed" 842),(vC 843),(vZ 263),(vZ 4),(vZ 0),(vZ 0),(vZ 3),(.ref 521),vT,(vZ 181),(.ref 522),vN,(.ref 523),(.ref 524),(.ref 525),(vZ 857),(vZ 263),(vC 858)]))) ::
 (nat_lit 527,(oO (.type "function") (Data.func (FuncData.mk (qS "_law_handed") (qS "_law_handed") (Hd.dArgs (top 48)) (.stmts (Hd.dBody (top 48))) (Hd.dScope (top 48)) 3 [] vN vN vN (vS "law_laterline_k22_rows_of_another_log" 760) none (.ref 526) vN 0)))) ::
 (nat_lit 528,(tO #[])) ::
 (nat_lit 531,(oO (.type "code") (Data.fields #[(vS "law" 860),(vS "law" 861),(vC 862),(vZ 274),(vZ 1),(vZ 0),(vZ 0),(vZ 3),(.ref 528),vT,(vZ 181),(.ref 529),vN,vN,vN,(.ref 530),(vZ 863),(vZ 274),(vC 864)]))) ::
 (nat_lit 532,(oO (.type "function") (Data.func (FuncData.mk (qS "law") (qS "law") (Hd.dArgs (top 49)) (.stmts (Hd.dBody (top 49))) (Hd.dScope (top 49)) 3 [] vN vN vN (vS "law_laterline_k22_rows_of_another_log" 760) none (.ref 531) vN 0)))) :: []
noncomputable def KA:List Addr:=[nat_lit 2,nat_lit 3,nat_lit 15,nat_lit 17,nat_lit 18,nat_lit 20,nat_lit 21,nat_lit 22,nat_lit 29,nat_lit 30,nat_lit 31,nat_lit 32,nat_lit 35,nat_lit 38,nat_lit 43,nat_lit 44,nat_lit 46,nat_lit 47,nat_lit 49,nat_lit 50,nat_lit 51,nat_lit 52,nat_lit 53,nat_lit 56,nat_lit 59,nat_lit 64,nat_lit 65,nat_lit 67,nat_lit 68,nat_lit 70,nat_lit 71,nat_lit 72,nat_lit 73,nat_lit 74,nat_lit 77,nat_lit 80,nat_lit 85,nat_lit 86,nat_lit 88,nat_lit 89,nat_lit 91,nat_lit 92,nat_lit 93,nat_lit 94,nat_lit 95,nat_lit 98,nat_lit 101,nat_lit 106,nat_lit 107,nat_lit 109,nat_lit 110,nat_lit 112,nat_lit 113,nat_lit 114,nat_lit 115,nat_lit 116,nat_lit 119,nat_lit 122,nat_lit 127,nat_lit 128,nat_lit 130,nat_lit 131,nat_lit 133,nat_lit 134,nat_lit 135,nat_lit 136,nat_lit 137,nat_lit 140,nat_lit 143,nat_lit 148,nat_lit 149,nat_lit 151,nat_lit 152,nat_lit 154,nat_lit 155,nat_lit 156,nat_lit 157,nat_lit 158,nat_lit 161,nat_lit 164,nat_lit 169,nat_lit 170,nat_lit 172,nat_lit 173,nat_lit 175,nat_lit 176,nat_lit 177,nat_lit 178,nat_lit 179,nat_lit 182,nat_lit 185,nat_lit 190,nat_lit 191,nat_lit 193,nat_lit 194,nat_lit 196,nat_lit 197,nat_lit 198,nat_lit 199,nat_lit 200,nat_lit 203,nat_lit 206,nat_lit 211,nat_lit 212,nat_lit 214,nat_lit 215,nat_lit 217,nat_lit 218,nat_lit 219,nat_lit 220,nat_lit 221,nat_lit 224,nat_lit 226,nat_lit 227,nat_lit 229,nat_lit 230,nat_lit 231,nat_lit 233,nat_lit 234,nat_lit 236,nat_lit 237,nat_lit 238,nat_lit 240,nat_lit 241,nat_lit 243,nat_lit 244,nat_lit 245,nat_lit 247,nat_lit 248,nat_lit 250,nat_lit 251,nat_lit 252,nat_lit 253,nat_lit 254,nat_lit 256,nat_lit 257,nat_lit 259,nat_lit 260,nat_lit 261,nat_lit 263,nat_lit 264,nat_lit 266,nat_lit 267,nat_lit 268,nat_lit 271,nat_lit 272,nat_lit 273,nat_lit 275,nat_lit 276,nat_lit 278,nat_lit 279,nat_lit 280,nat_lit 282,nat_lit 283,nat_lit 285,nat_lit 286,nat_lit 287,nat_lit 289,nat_lit 290,nat_lit 292,nat_lit 293,nat_lit 294,nat_lit 297,nat_lit 298,nat_lit 299,nat_lit 301,nat_lit 302,nat_lit 304,nat_lit 305,nat_lit 306,nat_lit 308,nat_lit 309,nat_lit 311,nat_lit 312,nat_lit 313,nat_lit 315,nat_lit 316,nat_lit 318,nat_lit 319,nat_lit 320,nat_lit 322,nat_lit 323,nat_lit 325,nat_lit 326,nat_lit 327,nat_lit 329,nat_lit 330,nat_lit 332,nat_lit 333,nat_lit 341,nat_lit 342,nat_lit 344,nat_lit 345,nat_lit 347,nat_lit 348,nat_lit 349,nat_lit 351,nat_lit 352,nat_lit 354,nat_lit 355,nat_lit 356,nat_lit 358,nat_lit 359,nat_lit 361,nat_lit 362,nat_lit 363,nat_lit 365,nat_lit 366,nat_lit 368,nat_lit 369,nat_lit 370,nat_lit 372,nat_lit 373,nat_lit 375,nat_lit 376,nat_lit 377,nat_lit 379,nat_lit 380,nat_lit 382,nat_lit 383,nat_lit 384,nat_lit 386,nat_lit 387,nat_lit 389,nat_lit 390,nat_lit 391,nat_lit 393,nat_lit 394,nat_lit 396,nat_lit 397,nat_lit 398,nat_lit 399,nat_lit 401,nat_lit 402,nat_lit 404,nat_lit 405,nat_lit 406,nat_lit 408,nat_lit 409,nat_lit 411,nat_lit 412,nat_lit 413,nat_lit 415,nat_lit 416,nat_lit 418,nat_lit 419,nat_lit 420,nat_lit 422,nat_lit 423,nat_lit 425,nat_lit 426,nat_lit 427,nat_lit 430,nat_lit 431,nat_lit 432,nat_lit 434,nat_lit 435,nat_lit 437,nat_lit 438,nat_lit 439,nat_lit 441,nat_lit 442,nat_lit 444,nat_lit 445,nat_lit 446,nat_lit 448,nat_lit 449,nat_lit 451,nat_lit 452,nat_lit 453,nat_lit 455,nat_lit 456,nat_lit 458,nat_lit 459,nat_lit 460,nat_lit 461,nat_lit 462,nat_lit 463,nat_lit 464,nat_lit 467,nat_lit 469,nat_lit 470,nat_lit 472,nat_lit 473,nat_lit 474,nat_lit 476,nat_lit 477,nat_lit 479,nat_lit 480,nat_lit 481,nat_lit 483,nat_lit 484,nat_lit 486,nat_lit 487,nat_lit 488,nat_lit 490,nat_lit 491,nat_lit 493,nat_lit 494,nat_lit 495,nat_lit 498,nat_lit 499,nat_lit 500,nat_lit 502,nat_lit 503,nat_lit 505,nat_lit 506,nat_lit 507,nat_lit 509,nat_lit 510,nat_lit 512,nat_lit 513,nat_lit 514,nat_lit 516,nat_lit 517,nat_lit 519,nat_lit 520,nat_lit 521,nat_lit 523,nat_lit 524,nat_lit 526,nat_lit 527,nat_lit 528,nat_lit 531,nat_lit 532]
theorem ke:∀P,KA=(KF P).map (·.1):=fun _=>by kernel_rfl
noncomputable def vw:Program:={ PySem.Challenge.pw_laterline_k22_rows_of_another_log with main:={ PySem.Challenge.pw_laterline_k22_rows_of_another_log.main with body:=[top 0,top 2,top 3,top 4,top 5,top 6,top 7,top 8,top 9,top 10,top 11,top 13,top 14,top 15,top 16,top 17,top 19,top 20,top 21,top 22,top 23,top 24,top 25,top 26,top 27,top 29,top 30,top 31,top 32,top 33,top 34,top 35,top 36,top 38,top 40,top 41,top 42,top 43,top 44,top 45,top 46,top 47,top 48,top 49] } }
noncomputable def lv:List (Str×PySem.W.WData):=[("LAST_PLACE",(.int 1000000)),("LAST_LINE",(.int 1000000000)),("MOST",(.int 1000000000000000000))]
noncomputable def lo:List Str:=["LAST_PLACE","LAST_LINE","MOST","Log"]
noncomputable def xt:Shared→Bool:=fun s=>PySem.W.xlAt vw lv s && PySem.W.recOk (PySem.W.RowW.records (PySem.W.OpenRow.toRowW (PySem.W.OpenLaw.row PySem.Challenge.rw_laterline_k22_rows_of_another_log))) s
noncomputable abbrev rn (w:World)(os:OsState):Option PySem.W.SharedT:=(Hd.topT PySem.treeTable PySem.Challenge.pw_laterline_k22_rows_of_another_log w (PySem.W.boot_heap w.params).objs.size ((PySem.W.boot_heap w.params).nsMap mainGlobals "__annotations__") 8594 (Hd.start0 w.params os) (PySem.W.topStub PySem.Challenge.pw_laterline_k22_rows_of_another_log))
set_option maxHeartbeats 0 in
theorem ranA:∀(w:World)(os:OsState),(rn w os).map (fun s=>(PySem.W.staticsOk (importedModules PySem.Challenge.pw_laterline_k22_rows_of_another_log.main.body) (PySem.W.boot_heap w.params) s.abs.heap && PySem.W.namesBound PySem.Challenge.pw_laterline_k22_rows_of_another_log s.abs.heap && PySem.W.gensDone s.abs && PySem.W.laidKept (PySem.W.boot_heap w.params) s.abs.heap))=some true:=by
 intro w os
 kernel_rfl
set_option maxHeartbeats 0 in
theorem ranB:∀(w:World)(os:OsState),(rn w os).map (fun s=>PySem.W.openSeen vw lo (importedModules PySem.Challenge.pw_laterline_k22_rows_of_another_log.main.body) xt true s.abs)=some (PySem.W.openGood vw lo):=by
 intro w os
 kernel_rfl
set_option maxHeartbeats 0 in
theorem ranC:∀(w:World)(os:OsState),(rn w os).map (fun s=>(PySem.W.kHook KF KA ke).obs s.abs)=some ((PySem.W.kHook KF KA ke).val w):=by
 intro w os
 kernel_rfl
theorem map3 {α β γ δ:Type}{o:Option α}{f:α→β}{g:α→γ}{h:α→δ}{x:β}{y:γ}{z:δ}(h1:o.map f=some x)(h2:o.map g=some y)(h3:o.map h=some z):o.map (fun s=>(f s,g s,h s))=some (x,y,z):=by
 cases o with
 | none=>cases h1
 | some s=>simp only[Option.map_some,Option.some.injEq]at h1 h2 h3 ⊢;rw[h1,h2,h3]
theorem ran:∀(w:World)(os:OsState),(rn w os).map (fun s=>((PySem.W.staticsOk (importedModules PySem.Challenge.pw_laterline_k22_rows_of_another_log.main.body) (PySem.W.boot_heap w.params) s.abs.heap && PySem.W.namesBound PySem.Challenge.pw_laterline_k22_rows_of_another_log s.abs.heap && PySem.W.gensDone s.abs && PySem.W.laidKept (PySem.W.boot_heap w.params) s.abs.heap),PySem.W.openSeen vw lo (importedModules PySem.Challenge.pw_laterline_k22_rows_of_another_log.main.body) xt true s.abs,(PySem.W.kHook KF KA ke).obs s.abs))=some (true,PySem.W.openGood vw lo,(PySem.W.kHook KF KA ke).val w):=fun w os=>map3 (ranA w os) (ranB w os) (ranC w os)
theorem left:PySem.W.LeftO PySem.Challenge.pw_laterline_k22_rows_of_another_log vw lo xt (PySem.W.kHook KF KA ke).obs (PySem.W.kHook KF KA ke).val 8594:=Hd.left_of (by kernel_rfl) (by decide) (fun _=>by kernel_rfl) ran
end My
namespace L2
open PySem PySem.Spec PyProof.Rows
noncomputable abbrev Key:=Sum Int Str
noncomputable def keyIs:Key→Value→Bool
 | .inl k,v=>Value.isInt k v
 | .inr x,v=>Value.isStrOf x v
noncomputable def keyH (w:World):Key→Int
 | .inl k=>hashInt k
 | .inr x=>hashStr w x
theorem keyIs_shape:∀ {k:Key}{v:Value},keyIs k v=true→(∃i t,k=Sum.inl i∧v=Value.int i t)∨(∃x t,k=Sum.inr x∧v=Value.str x t)
 | .inl i,v,h=>by
  obtain⟨t,e⟩:=Value.isInt_shape (k:=i) (v:=v) h
  exact .inl ⟨i,t,rfl,e⟩
 | .inr x,v,h=>by
  obtain⟨t,e⟩:=Value.isStrOf_shape (x:=x) (v:=v) h
  exact .inr ⟨x,t,rfl,e⟩
theorem key_ll (a b:Int):decide ((Sum.inl a:Key)=Sum.inl b)=(a == b):=by
 by_cases e:a=b
 ·subst e;simp
 ·have h:¬ (Sum.inl a:Key)=Sum.inl b:=fun q=>e (Sum.inl.inj q)
  rw[decide_eq_false h]
  exact(beq_eq_false_iff_ne.mpr e).symm
theorem key_rr (a b:Str):decide ((Sum.inr a:Key)=Sum.inr b)=decide (a=b):=by
 by_cases e:a=b
 ·subst e;simp
 ·have h:¬ (Sum.inr a:Key)=Sum.inr b:=fun q=>e (Sum.inr.inj q)
  rw[decide_eq_false h,decide_eq_false e]
theorem key_lr (a:Int)(b:Str):decide ((Sum.inl a:Key)=Sum.inr b)=false:=decide_eq_false (fun q=>nomatch q)
theorem key_rl (a:Str)(b:Int):decide ((Sum.inr a:Key)=Sum.inl b)=false:=decide_eq_false (fun q=>nomatch q)
noncomputable def mixKind (prog:Program)(w:World):PySem.KeyKind prog w Key where
 is:=keyIs
 hash:=keyH w
 inj := fun v a b ha hb=>by
  rcases keyIs_shape ha with ⟨i,t,rfl,rfl⟩ | ⟨x,t,rfl,rfl⟩
  ·rcases keyIs_shape hb with ⟨j,u,rfl,e⟩ | ⟨y,u,rfl,e⟩
   ·injection e with e1 _;rw[e1]
   ·exact nomatch e
  ·rcases keyIs_shape hb with ⟨j,u,rfl,e⟩ | ⟨y,u,rfl,e⟩
   ·exact nomatch e
   ·injection e with e1 _;rw[e1]
 byValue:=fun k v h=>by
  rcases keyIs_shape h with ⟨i,t,rfl,rfl⟩ | ⟨x,t,rfl,rfl⟩ <;> rfl
 pyHash:=fun hv h=>by
  rcases keyIs_shape hv with ⟨i,t,rfl,rfl⟩ | ⟨x,t,rfl,rfl⟩
  ·exact wpAny_pyHash_int h
  ·exact wpAny_pyHash_str h
 eqBool:=fun hu hv h=>by
  rcases keyIs_shape hu with ⟨i,t,rfl,rfl⟩ | ⟨x,t,rfl,rfl⟩
  ·rcases keyIs_shape hv with ⟨j,u,rfl,rfl⟩ | ⟨y,u,rfl,rfl⟩
   ·rw[key_ll]at h;exact wpAny_eqBool_int h
   ·rw[key_lr]at h;exact SeqAt.EqAt.int_str i t y u _ _ _ _ h
  ·rcases keyIs_shape hv with ⟨j,u,rfl,rfl⟩ | ⟨y,u,rfl,rfl⟩
   ·rw[key_rl]at h;exact SeqAt.EqAt.str_int x t j u _ _ _ _ h
   ·rw[key_rr]at h;exact wpAny_eqBool_str h
 «strs»:=fun k x t v h=>by
  rcases keyIs_shape h with ⟨i,u,rfl,e⟩ | ⟨y,u,rfl,e⟩
  ·exact nomatch e
  ·injection e with e1 _
   subst e1
   cases v <;> rfl
inductive V where
 | non |bl (b:Bool) |int (i:Int) |str (x:Str) |byt (b:Array UInt8) |flt (b:UInt64) |ref (a:Addr) |ty (n:String)
 deriving DecidableEq
noncomputable def RelV:V→Value→Prop
 | .non,u=>u=Value.none
 | .bl b,u=>u=Value.bool b
 | .int i,u=>∃t,u=Value.int i t
 | .str x,u=>∃t,u=Value.str x t
 | .byt b,u=>∃t,u=Value.bytes b t
 | .flt b,u=>∃t,u=Value.float b t
 | .ref a,u=>u=Value.ref a
 | .ty n,u=>u=Value.type n
noncomputable abbrev Vals:List V→List Value→Prop:=Paired RelV
theorem Vals.length {xs:List V}{us:List Value}(r:Vals xs us):xs.length=us.length:=Paired.length r
theorem Vals.get:∀ {xs:List V}{us:List Value}{i:Nat}{x:V},Vals xs us→xs[i]? = some x→∃u,us[i]? = some u∧RelV x u
 | _,_,_,_,.nil,e=>by simp at e
 | _,_,0,_,.cons r _,e=>by simp at e;subst e;exact⟨_,rfl,r⟩
 | _,_,i+1,x,.cons _ t,e=>by
  obtain⟨u,h1,h2⟩:=Vals.get (i:=i) (x:=x) t (by simpa using e)
  exact⟨u,by simpa using h1,h2⟩
theorem Vals.set {x:V}{u:Value}(r:RelV x u):∀ {xs:List V}{us:List Value}(i:Nat),Vals xs us→Vals (xs.set i x) (us.set i u)
 | _,_,_,.nil=>.nil
 | _,_,0,.cons _ t=>.cons r t
 | _,_,i+1,.cons q t=>.cons q (Vals.set r i t)
theorem Vals.append:∀ {xs ys:List V}{us ws:List Value},Vals xs us→Vals ys ws→Vals (xs ++ ys) (us ++ ws)
 | _,_,_,_,.nil,s=>s
 | _,_,_,_,.cons r t,s=>.cons r (Vals.append t s)
theorem Vals.take:∀ {xs:List V}{us:List Value}(n:Nat),Vals xs us→Vals (xs.take n) (us.take n)
 | _,_,0,_=>.nil
 | _,_,_+1,.nil=>.nil
 | _,_,n+1,.cons r t=>.cons r (Vals.take n t)
theorem Vals.drop:∀ {xs:List V}{us:List Value}(n:Nat),Vals xs us→Vals (xs.drop n) (us.drop n)
 | _,_,0,r=>r
 | _,_,_+1,.nil=>.nil
 | _,_,n+1,.cons _ t=>Vals.drop n t
noncomputable def RelO:Option V→Option Value→Prop
 | some v,some u=>RelV v u
 | none,none=>True
 | _,_=>False
noncomputable def KV {κ:Type}:List (κ×V)→List (κ×Value)→Prop:=Paired fun (p:κ×V)(q:κ×Value)=>p.1=q.1∧RelV p.2 q.2
noncomputable def kV:Key→V
 | .inl i=>.int i
 | .inr x=>.str x
inductive HO where
 | lst (xs:List V)
 | tup (xs:List V)
 | dK (kvs:List (Key×V)) |dT (kvs:List (List Key×V))
 | set (S:Int→Bool) (n:Nat)
 | ins (C dx:Addr) (fs:List (Str×V))
 | own (x:Addr)
 | xd (fs:List (Str×V))
 | met (f x:Addr)
 | rng (lo hi:Int)
 | frz (o:Obj) (u:HO)
 | tbl (ps:Array Value)
 | ext (φ:Heap→Prop)
noncomputable abbrev Hp:=Addr→Option HO
noncomputable def upd (H:Hp)(a:Addr)(o:HO):Hp:=fun b=>if b=a then some o else H b
theorem upd_same {H:Hp}{a:Addr}{o:HO}:upd H a o a=some o:=by unfold upd;rw[if_pos rfl]
theorem upd_ne {H:Hp}{a b:Addr}{o:HO}(h:b≠a):upd H a o b=H b:=by unfold upd;rw[if_neg h]
theorem upd_upd {H:Hp}{a:Addr}{o u:HO}:upd (upd H a o) a u=upd H a u:=by
 funext b;unfold upd;split <;> rfl
theorem ne_of {H:Hp}{a b:Addr}{o u:HO}(h:H a=some o)(h':H b=some u)(d:o≠u):a≠b:=by
 intro e;subst e;rw[h]at h';exact d (Option.some.inj h')
theorem ne_of_none {H:Hp}{a b:Addr}{o:HO}(h:H a=some o)(h':H b=none):a≠b:=by
 intro e;subst e;rw[h]at h';cases h'
section
variable (P:Program)(w:World)
noncomputable def ObjOk (H:Hp)(h:Heap)(a:Addr):HO→Prop
 | .lst xs=>xs.length≤sizeLine∧∃(its:List Value) (n:Nat),Vals xs its∧h.get? a=some { cls:=.type "list",data:=.seq its.toArray n }
 | .tup xs=>xs.length≤sizeLine∧∃its:List Value,Vals xs its∧IsTup h a its.toArray
 | .dK kvs=>kvs.length≤sizeLine∧(a == sysModules)=false∧∃vs,KV kvs vs∧h.DictOf (mixKind P w) a vs
 | .dT kvs=>kvs.length≤sizeLine∧(a == sysModules)=false∧∃xs:List (List Key×Addr×Value),
   Paired (fun (p:List Key×V) (q:List Key×Addr×Value)=>p.1=q.1∧H q.2.1=some (.tup (p.1.map kV))∧RelV p.2 q.2.2) kvs xs ∧
   ∃o es ep,h.get? a=some o∧o.ExactDict∧o.data = .dict es ep∧es.toList=xs.map (entryOfKey (tupleKind (mixKind P w)))∧(xs.map (·.1)).Nodup
 | .set S n=>h.SetOf (intKind P w) a S n
 | .ins C dx fs=>H dx=some (.own a)∧fs.length≤1000∧dx≠a∧h.get? a=some (PySem.W.instObj C dx) ∧
   ∃mA,h.Ns1 dx mA∧(∀f,RelO (fs.lookup f) (mA f))∧PySem.Within mA (fs.map (·.1))
 | .own _=>∃o,h.get? a=some o
 | .xd fs=>∃mA,h.Ns1 a mA∧∀f,RelO (fs.lookup f) (mA f)
 | .rng lo hi=>∃t u v,h.get? a=some { cls:=.type "range",data:=.fields #[.int lo t,.int hi u,.int 1 v] }
 | .frz o u=>h.get? a=some o∧ObjOk H h a u
 | .tbl ps=>h.get? a=some { cls:=.none,data:=.fields ps }
 | .met f x=>h.get? a=some (PySem.W.methodObj (.ref f) (.ref x))
 | .ext φ=>φ h∧(∃o,h.get? a=some o)∧∀h1 h2:Heap,φ h1→(∀o,h1.get? a=some o→h2.get? a=some o)→φ h2
noncomputable def HOk (H:Hp)(h:Heap):Prop:=∀a o,H a=some o→ObjOk P w H h a o
end
section
variable {P:Program}{w:World}{H H':Hp}{h h':Heap}{a:Addr}{o:HO}
theorem ObjOk.lt (x:ObjOk P w H h a o):a<h.objs.size:=by
 cases o with
 | lst xs=>obtain⟨_,_,_,_,e⟩:=x;exact Heap.lt_size e
 | tup xs=>obtain⟨_,_,_,p⟩:=x;exact p.lt
 | dK kvs=>obtain⟨_,_,_,_,o,_,_,e,_⟩:=x;exact Heap.lt_size e
 | dT kvs=>obtain⟨_,_,_,_,o,_,_,e,_⟩:=x;exact Heap.lt_size e
 | set S n=>obtain⟨o,_,_,_,e,_⟩:=x;exact Heap.lt_size e
 | ins C dx fs=>obtain⟨_,_,_,e,_⟩:=x;exact Heap.lt_size e
 | own y=>obtain⟨_,e⟩:=x;exact Heap.lt_size e
 | xd fs=>obtain⟨_,⟨_,_,_,e,_⟩,_⟩:=x;exact Heap.lt_size e
 | rng lo hi=>obtain⟨_,_,_,e⟩:=x;exact Heap.lt_size e
 | frz ob u=>obtain⟨e,_⟩:=x;exact Heap.lt_size e
 | tbl ps=>exact Heap.lt_size (show h.get? a=some _ from x)
 | met f y=>exact Heap.lt_size (show h.get? a=some _ from x)
 | ext φ=>obtain⟨_,⟨_,e⟩,_⟩:=x;exact Heap.lt_size e
theorem Paired.mapP {α β:Type}{F G:α→β→Prop}:∀ {l₁:List α}{l₂:List β},Paired F l₁ l₂→(∀a b,F a b→G a b)→Paired G l₁ l₂
 | _,_,.nil,_=>.nil
 | _,_,.cons r t,f=>.cons (f _ _ r) (Paired.mapP t f)
theorem ObjOk.stay (x:ObjOk P w H h a o)(k:∀b u,(b=a∨H b=some (.own a))→h.get? b=some u→h'.get? b=some u)
  (ho:∀b,H b=some (.own a)→H' b=some (.own a)) (ht:∀b xs,H b=some (.tup xs)→H' b=some (.tup xs)):ObjOk P w H' h' a o:=by
 induction o with
 | lst xs=>obtain⟨z,its,n,r,e⟩:=x;exact⟨z,its,n,r,k _ _ (.inl rfl) e⟩
 | tup xs=>obtain⟨z,its,r,ob,e,c⟩:=x;exact⟨z,its,r,ob,k _ _ (.inl rfl) e,c⟩
 | dK kvs=>obtain⟨z,y,vs,r,ob,es,ep,e,c⟩:=x;exact⟨z,y,vs,r,ob,es,ep,k _ _ (.inl rfl) e,c⟩
 | dT kvs =>
  obtain⟨z,y,xs,r,ob,es,ep,e,c⟩:=x
  exact⟨z,y,xs,Paired.mapP r fun p q z=>⟨z.1,ht _ _ z.2.1,z.2.2⟩,ob,es,ep,k _ _ (.inl rfl) e,c⟩
 | set S n=>obtain⟨ob,es,ep,t,e,c⟩:=x;exact⟨ob,es,ep,t,k _ _ (.inl rfl) e,c⟩
 | ins C dx fs =>
  obtain⟨d,z,ne,e,mA,⟨od,es,ep,e2,c⟩,r⟩:=x
  exact⟨ho _ d,z,ne,k _ _ (.inl rfl) e,mA,⟨od,es,ep,k _ _ (.inr d) e2,c⟩,r⟩
 | own y=>obtain⟨ob,e⟩:=x;exact⟨ob,k _ _ (.inl rfl) e⟩
 | xd fs=>obtain⟨mA,⟨od,es,ep,e,c⟩,r⟩:=x;exact⟨mA,⟨od,es,ep,k _ _ (.inl rfl) e,c⟩,r⟩
 | rng lo hi=>obtain⟨t,u,v,e⟩:=x;exact⟨t,u,v,k _ _ (.inl rfl) e⟩
 | frz ob u ih=>obtain⟨e,q⟩:=x;exact⟨k _ _ (.inl rfl) e,ih q⟩
 | tbl ps =>
  have e:h.get? a=some { cls:=.none,data:=.fields ps }:=x
  show h'.get? a=some { cls:=.none,data:=.fields ps }
  exact k a _ (.inl rfl) e
 | met f y =>
  have e:h.get? a=some (PySem.W.methodObj (.ref f) (.ref y)):=x
  show h'.get? a=some (PySem.W.methodObj (.ref f) (.ref y))
  exact k a _ (.inl rfl) e
 | ext φ=>obtain⟨p,⟨o,e⟩,st⟩:=x;exact⟨st _ _ p fun o q=>k _ _ (.inl rfl) q,⟨o,k _ _ (.inl rfl) e⟩,st⟩
theorem HOk.lt (x:HOk P w H h)(e:H a=some o):a<h.objs.size:=(x a o e).lt
theorem HOk.fresh (x:HOk P w H h)(e:h.objs.size≤a):H a=none:=by
 cases q:H a with
 | none=>rfl
 | some u=>exact absurd (Nat.lt_of_lt_of_le (x.lt q) e) (Nat.lt_irrefl _)
theorem HOk.kept (x:HOk P w H h)(k:∀b u,h.get? b=some u→h'.get? b=some u):HOk P w H h':=fun a o e =>
 (x a o e).stay (fun b u _ q=>k b u q) (fun _ q=>q) fun _ _ q=>q
theorem HOk.laid (x:HOk P w H h)(k:∀b u,h.get? b=some u→h'.get? b=some u)(hp:h.objs.size≤a)(new:ObjOk P w (upd H a o) h' a o):HOk P w (upd H a o) h':=fun b u e=>by
 have hn:=x.fresh hp
 by_cases hb:b=a
 ·subst hb;rw[upd_same]at e;cases e;exact new
 ·rw[upd_ne hb]at e
  exact(x b u e).stay (fun c v _ q=>k c v q) (fun c q=>by rw[upd_ne (ne_of_none q hn)];exact q) fun c xs q=>by rw[upd_ne (ne_of_none q hn)];exact q
end
noncomputable def Rd (H:Hp)(a:Addr)(u:HO):Prop:=H a=some u∨∃o,H a=some (.frz o u)
theorem Rd.ok {P:Program}{w:World}{H:Hp}{h:Heap}{a:Addr}{u:HO}(r:Rd H a u)(x:HOk P w H h):ObjOk P w H h a u:=by
 rcases r with r | ⟨o,r⟩
 ·exact x a u r
 ·obtain⟨_,q⟩:=x a _ r
  exact q
noncomputable def Mut:Option HO→Prop
 | some (.lst _)=>True
 | some (.dK _)=>True
 | some (.dT _)=>True
 | some (.set _ _)=>True
 | some (.ins _ _ _)=>True
 | some (.ext _)=>True
 | _=>False
section
variable {P:Program}{w:World}{H:Hp}{h h':Heap}{x e:Addr}{o':HO}
theorem HOk.write (ok:HOk P w H h)(mu:Mut (H x))(he:e=x∨H e=some (.own x))(k:∀b u,b≠e→h.get? b=some u→h'.get? b=some u)(heo:∃u,h'.get? e=some u)
  (new:ObjOk P w (upd H x o') h' x o'):HOk P w (upd H x o') h':=fun b u q=>by
 have nown:∀c y,H c=some (.own y)→c≠x:=fun c y r z=>by subst z;rw[r]at mu;exact mu
 have ntup:∀c xs,H c=some (.tup xs)→c≠x:=fun c xs r z=>by subst z;rw[r]at mu;exact mu
 by_cases hb:b=x
 ·subst hb;rw[upd_same]at q;cases q;exact new
 ·rw[upd_ne hb]at q
  by_cases hbe:b=e
  ·have q':H b=some (.own x):=by
    rcases he with z |z
    ·exact absurd (hbe.trans z) hb
    ·rw[hbe];exact z
   rw[q]at q';cases q'
   obtain⟨v,hv⟩:=heo
   exact⟨v,by rw[hbe];exact hv⟩
  ·refine(ok b u q).stay (fun c v hc r=>k c v ?_ r) (fun c r=>by rw[upd_ne (nown c b r)];exact r) fun c xs r=>by rw[upd_ne (ntup c xs r)];exact r
   rcases hc with rfl |hc
   ·exact hbe
   ·rintro rfl
    rcases he with z |z
    ·exact nown c b hc z
    ·rw[hc]at z;cases z;exact hb rfl
end
structure Un (fs ex:List Addr) (H H':Hp) (h h':Heap):Prop where
 keep:∀b o,h.get? b=some o→H b=none→b∉fs→b∉ex→h'.get? b=some o
 slot:∀b o,h.get? b=some o→H b=none→b∈fs→b∉ex→∃sl,h'.get? b=some { o with slots:=sl }
 free:∀b o,h.get? b=some o→H b=none→b∉ex→H' b=none
 there:∀b o,h.get? b=some o→b∉ex→∃o',h'.get? b=some o'
 tups:∀b xs,H b=some (.tup xs)→H' b=some (.tup xs)
 frzs:∀b o u,H b=some (.frz o u)→H' b=some (.frz o u)
 tbls:∀b ps,H b=some (.tbl ps)→∃more,H' b=some (.tbl (ps ++ more))
section
variable {fs fs' ex ex':List Addr}{H H1 H2:Hp}{h h1 h2 h':Heap}{a x e:Addr}{o:HO}
theorem Un.any (u:Un fs ex H H1 h h1) {b:Addr}{ob:Obj}(q:h.get? b=some ob)(n:H b=none)(hx:b∉ex):∃sl,h1.get? b=some { ob with slots:=sl }:=by
 by_cases hb:b∈fs
 ·exact u.slot b ob q n hb hx
 ·exact⟨ob.slots,u.keep b ob q n hb hx⟩
theorem Un.kept (k:∀b u,h.get? b=some u→h'.get? b=some u):Un fs ex H H h h' :=
 ⟨fun b ob q _ _ _=>k b ob q,fun b ob q _ _ _=>⟨ob.slots,k b ob q⟩,fun _ _ _ n _=>n,fun b ob q _=>⟨ob,k b ob q⟩,fun _ _ q=>q,fun _ _ _ q=>q,fun _ ps q=>⟨#[],by rw[q];simp⟩⟩
theorem Un.refl:Un fs ex H H h h:=Un.kept fun _ _ q=>q
theorem Un.laid (k:∀b u,h.get? b=some u→h'.get? b=some u)(hp:h.objs.size≤a)(hn:H a=none):Un fs ex H (upd H a o) h h' where
 keep:=fun b u q _ _ _=>k b u q
 slot:=fun b u q _ _ _=>⟨u.slots,k b u q⟩
 free:=fun b u q n _=>by rw[upd_ne (Nat.ne_of_lt (Nat.lt_of_lt_of_le (Heap.lt_size q) hp))];exact n
 there:=fun b u q _=>⟨u,k b u q⟩
 tups:=fun b xs q=>by rw[upd_ne (ne_of_none q hn)];exact q
 frzs:=fun b u xs q=>by rw[upd_ne (ne_of_none q hn)];exact q
 tbls:=fun b ps q=>⟨#[],by rw[upd_ne (ne_of_none q hn),q];simp⟩
theorem Un.write (mu:Mut (H x))(he:e=x∨H e=some (.own x))(k:∀b u,b≠e→h.get? b=some u→h'.get? b=some u)(heo:∃u,h'.get? e=some u):Un fs ex H (upd H x o) h h':=by
 have hx:∀b,H b=none→b≠x:=fun b n z=>by subst z;rw[n]at mu;exact mu
 have hb:∀b,H b=none→b≠e:=fun b n z=>by
  subst z
  rcases he with r |r
  ·exact hx b n r
  ·rw[n]at r;cases r
 have hm:∀b u,H b=some u→¬ Mut (some u)→b≠x:=fun b u q nm z=>by subst z;rw[q]at mu;exact nm mu
 refine⟨fun b u q n _ _=>k b u (hb b n) q,fun b u q n _ _=>⟨u.slots,k b u (hb b n) q⟩,fun b u q n _=>by rw[upd_ne (hx b n)];exact n,fun b u q _=>?_,
  fun b xs q=>by rw[upd_ne (hm b _ q fun z=>z)];exact q,fun b u xs q=>by rw[upd_ne (hm b _ q fun z=>z)];exact q,fun b ps q=>⟨#[],by rw[upd_ne (hm b _ q fun z=>z),q];simp⟩⟩
 by_cases hbe:b=e
 ·subst hbe;exact heo
 ·exact⟨u,k b u hbe q⟩
theorem Un.mono (u:Un fs ex H H1 h h1)(hs:∀b∈fs,b∈fs')(hx:∀b∈ex,b∈ex'):Un fs' ex' H H1 h h1 :=
 ⟨fun b ob q n hb he=>u.keep b ob q n (fun z=>hb (hs b z)) fun z=>he (hx b z),fun _ _ q n _ he=>u.any q n fun z=>he (hx _ z),fun b ob q n he=>u.free b ob q n fun z=>he (hx b z),fun b ob q he=>u.there b ob q fun z=>he (hx b z),u.tups,u.frzs,u.tbls⟩
end
noncomputable def trk (h:Heap)(H:Hp):List Addr:=(List.range h.objs.size).filter fun a=>(H a).isSome
noncomputable def hidT (h:Heap)(H:Hp):Heap:=PySem.W.hideAll h (trk h H)
theorem hidT_size (h:Heap)(H:Hp):(hidT h H).objs.size=h.objs.size:=PySem.W.hideAll_size _ _
theorem hidT_get {h:Heap}{H:Hp}{b:Addr}{o:Obj}(e:h.get? b=some o)(n:H b=none):(hidT h H).get? b=some o :=
 PySem.W.hideAll_get _ e fun hm=>by
  have q:(H b).isSome=true:=(List.mem_filter.mp hm).2
  rw[n]at q;simp at q
theorem of_hidT {h:Heap}{H:Hp}{b:Addr}{o:Obj}(e:(hidT h H).get? b=some o):h.get? b=some o∧H b=none:=by
 have e':h.get? b=some o:=PySem.W.of_hideAll (trk h H) e
 refine⟨e',?_⟩
 cases q:H b with
 | none=>rfl
 | some x =>
  have hm:b∈trk h H:=List.mem_filter.mpr ⟨List.mem_range.mpr (Heap.lt_size e'),by simp[q]⟩
  have z:(hidT h H).get? b=none:=PySem.W.hideAll_none (trk h H) hm
  rw[z]at e;cases e
noncomputable def allNews (g h:Heap)(L:Addr):List (Addr×Obj):=(List.range h.objs.size).filterMap fun a=>if a=L∨(g.get? a).isSome=true then none else (h.get? a).map fun o=>(a,o)
noncomputable def rest (g h:Heap)(L d:Addr):List (Addr×Obj):=(allNews g h L).filter fun p=>decide (p.1≠d)
structure Mod (K:PySem.W.Frag) (mg:Str→Option Value) (base:Heap):Prop where
 kin:K.In base
 glob:base.Ns mainGlobals mg
 blt:∃mb,base.Ns builtinsNs mb∧∀x:Str,x ≠ "__name__"→mb x=bootBuiltins x
 nolimit:base.NoLimit
structure Cx where
 prog:Program
 w:World
 K:PySem.W.Frag
 mg:Str→Option Value
 base:Heap
 A:Around
 N:List Str
 s₀:Shared
 H₀:Hp
 env:Env
 outer:List Env
 stack:List Env
 ex:List Addr
 fn:Str→Bool
 calm:Bool
 pn:List (Addr×Obj)
 xe:Value→Shared→Prop
noncomputable def frs (l:List Env):List Addr:=l.filterMap (·.frame)
noncomputable abbrev Cx.fs (X:Cx):List Addr:=frs X.outer
noncomputable def Vis (sc:Scope)(x:Str):Prop:=sc.names.lookup x=some .local∨sc.names.lookup x=some .cell∨sc.names.lookup x=some .free
noncomputable def Loc (sc:Scope)(x:Str):Prop:=sc.names.lookup x=some .local∨sc.names.lookup x=some .cell
noncomputable def Look (env:Env)(h:Heap)(m:Str→Option Value)(x:Str)(u:Value):Prop :=
 (env.kindOf x=some .local∧m x=some u)∨((env.kindOf x=some .cell∨env.kindOf x=some .free)∧∃c,env.cells.lookup x=some c∧h.IsCell c (some u))
structure Cx.Ok (X:Cx):Prop where
 mod:Mod X.K X.mg X.base
 kind:X.env.scope.kind = .function
 glob:X.env.globals=mainGlobals
 blt:X.env.builtins=builtinsNs
 above:X.s₀.heap.objs.size≤X.env.locals
 inj:∀x y c,X.env.cells.lookup x=some c→X.env.cells.lookup y=some c→x=y
 has:∀x,(X.env.kindOf x=some .cell∨X.env.kindOf x=some .free)→∃c,X.env.cells.lookup x=some c
 cab:∀x c,X.fn x=true→X.env.cells.lookup x=some c→X.s₀.heap.objs.size≤c
 hd:X.calm=true→X.A.handled=none
 frames:X.A.frames=some X.stack
 stk:X.stack=X.outer∨(X.stack=X.env :: X.outer∧X.env.frame=some X.env.locals)
 exf:∀b∈X.ex,b≠X.env.locals∧∀x c,X.env.cells.lookup x=some c→c≠b
 bs:∀b o,X.base.get? b=some o→X.s₀.heap.get? b=some o∧X.H₀ b=none
 bsz:X.base.objs.size≤X.s₀.heap.objs.size
 noex:∀b o,X.base.get? b=some o→b∉X.ex
 exfs:∀b∈X.ex,b∉X.fs
 funs:X.s₀.heap.FunFrames X.base X.outer
 frf:∀b∈X.fs,X.H₀ b=none
structure Inv (X:Cx) (pins:List (Addr×Obj)) (σ:List (Option V)) (H:Hp) (s:Shared):Prop where
 ok:X.Ok
 os:s.os=X.s₀.os
 bare:AllBare s.gens
 base:Un X.fs X.ex X.H₀ H X.s₀.heap s.heap
 loc:∃m,s.heap.Ns X.env.locals m∧∀(i:Nat) (x:Str) (v:V),X.N[i]? = some x→σ[i]? = some (some v)→Vis X.env.scope x→∃u,RelV v u∧Look X.env s.heap m x u
 cell:∀x c,X.env.cells.lookup x=some c→∃v,s.heap.IsCell c v
 free:H X.env.locals=none
 freeC:∀x c,X.env.cells.lookup x=some c→H c=none
 pin:∀p∈X.pn ++ pins,s.heap.get? p.1=some p.2∧H p.1=none∧p.1≠X.env.locals∧p.1∉X.fs∧∀v,p.2.data ≠ .cell v
 hok:HOk X.prog X.w H s.heap
 len:σ.length=X.N.length
section
variable {X:Cx}{pins:List (Addr×Obj)}{σ:List (Option V)}{H H':Hp}{s:Shared}{h':Heap}
theorem Cx.Ok.nofr (ok:X.Ok) {b:Addr}{o:Obj}(e:X.base.get? b=some o):b∉X.fs:=fun hb=>by
 have:=(ok.funs.mem hb).1
 rw[e]at this;cases this
theorem Inv.bs (I:Inv X pins σ H s):∀b o,X.base.get? b=some o→s.heap.get? b=some o∧H b=none:=fun b o e =>
 ⟨I.base.keep b o (I.ok.bs b o e).1 (I.ok.bs b o e).2 (I.ok.nofr e) (I.ok.noex b o e),I.base.free b o (I.ok.bs b o e).1 (I.ok.bs b o e).2 (I.ok.noex b o e)⟩
theorem Inv.bk (I:Inv X pins σ H s):∀b o,X.base.get? b=some o→s.heap.get? b=some o:=fun b o e=>(I.bs b o e).1
theorem Inv.mod (I:Inv X pins σ H s):Mod X.K X.mg X.base:=I.ok.mod
theorem Inv.kIn (I:Inv X pins σ H s):X.K.In s.heap:=I.ok.mod.kin.keeps I.bk
theorem Inv.lt (I:Inv X pins σ H s):X.env.locals<s.heap.objs.size:=let ⟨_,hn,_⟩:=I.loc;hn.lt
theorem Inv.sz (I:Inv X pins σ H s):X.s₀.heap.objs.size≤s.heap.objs.size:=Nat.le_trans I.ok.above (Nat.le_of_lt I.lt)
theorem Inv.nofs (I:Inv X pins σ H s) {a:Addr}(h:s.heap.objs.size≤a):a∉X.fs:=fun hb=>by
 obtain⟨_,o,ho,_⟩:=I.ok.funs.mem hb
 exact absurd (Nat.lt_of_lt_of_le (Heap.lt_size ho) (Nat.le_trans I.sz h)) (Nat.lt_irrefl _)
theorem Inv.cne (I:Inv X pins σ H s):∀x c,X.env.cells.lookup x=some c→c≠X.env.locals:=fun x c e z=>by
 obtain⟨v,o,ho,hd⟩:=I.cell x c e
 obtain⟨m,⟨o',es,ep,ho',hd',_⟩,_⟩:=I.loc
 rw[z,ho']at ho;cases ho;rw[hd']at hd;cases hd
theorem Inv.funs (I:Inv X pins σ H s):s.heap.FunFrames X.base X.outer:=by
 have all:∀(l:List Env),(∀b∈frs l,b∈X.fs)→X.s₀.heap.FunFrames X.base l→s.heap.FunFrames X.base l:=by
  intro l
  induction l with
  | nil=>intro _ _;trivial
  | cons env r ih =>
   intro hs hl
   obtain⟨hk,⟨L,o,hf,hn,ho,hd⟩,hr⟩:=hl
   have hL:L∈X.fs:=hs L (by unfold frs;rw[List.filterMap_cons,hf];exact List.mem_cons_self)
   obtain⟨sl,e⟩:=I.base.slot L o ho (I.ok.frf L hL) hL fun z=>I.ok.exfs L z hL
   exact⟨hk,⟨L,_,hf,hn,e,hd⟩,ih (fun b hb=>hs b (by unfold frs;rw[List.filterMap_cons,hf];exact List.mem_cons_of_mem _ hb)) hr⟩
 exact all X.outer (fun _ hb=>hb) I.ok.funs
theorem Inv.stack (I:Inv X pins σ H s):s.heap.FunFrames X.base X.stack:=by
 rcases I.ok.stk with e | ⟨e,hf⟩
 ·rw[e];exact I.funs
 ·rw[e]
  obtain⟨m,hn,_⟩:=I.loc
  refine .cons (by rw[I.ok.kind];decide) hf hn ?_ I.funs
  exact Heap.get?_none_of_le (Nat.le_trans I.ok.bsz I.ok.above)
theorem Inv.stkSub (I:Inv X pins σ H s):∀b∈frs X.stack,b∈X.env.locals :: X.fs:=fun b hb=>by
 rcases I.ok.stk with e | ⟨e,hf⟩
 ·rw[e]at hb;exact List.mem_cons_of_mem _ hb
 ·rw[e]at hb
  unfold frs at hb
  rw[List.filterMap_cons,hf]at hb
  exact hb
theorem Inv.stkFree (I:Inv X pins σ H s):∀b∈frs X.stack,H b=none:=fun b hb=>by
 rcases List.mem_cons.mp (I.stkSub b hb)with e |hb
 ·rw[e];exact I.free
 ·obtain⟨_,o,ho,_⟩:=I.ok.funs.mem hb
  exact I.base.free b o ho (I.ok.frf b hb) fun z=>I.ok.exfs b z hb
theorem Inv.step {g':Array GenState}{t':Nat}{d':Drawn}{ch:List Addr}(I:Inv X pins σ H s)
  (hch:∀b∈ch,(b∈X.ex∨X.s₀.heap.objs.size≤b)∧b≠X.env.locals∧(∀x c,X.env.cells.lookup x=some c→c≠b)∧∀p∈X.pn ++ pins,p.1≠b)
  (keep:∀b o,b≠X.env.locals→b∉X.fs→b∉ch→s.heap.get? b=some o→H b=none→h'.get? b=some o)
  (slot:∀b o,b≠X.env.locals→b∈X.fs→b∉ch→s.heap.get? b=some o→H b=none→∃sl,h'.get? b=some { o with slots:=sl }) (free:∀b o,b∉ch→s.heap.get? b=some o→H b=none→H' b=none)
  (there:∀b o,b∉ch→s.heap.get? b=some o→∃o',h'.get? b=some o')
  (tups:∀b xs,H b=some (.tup xs)→H' b=some (.tup xs)) (frzs:∀b o u,H b=some (.frz o u)→H' b=some (.frz o u)) (tbls:∀b ps,H b=some (.tbl ps)→∃more,H' b=some (.tbl (ps ++ more)))
  (ns:∀m,s.heap.Ns X.env.locals m→h'.Ns X.env.locals m) (hok:HOk X.prog X.w H' h') (hg:AllBare g') :
  Inv X pins σ H' { s with heap:=h',gens:=g',drawn:=d',toks:=t' }:=by
 have neL:∀b o,X.s₀.heap.get? b=some o→b≠X.env.locals:=fun b o e=>Nat.ne_of_lt (Nat.lt_of_lt_of_le (Heap.lt_size e) I.ok.above)
 have neC:∀b o,X.s₀.heap.get? b=some o→b∉X.ex→b∉ch:=fun b o e hx hb=>by
  rcases(hch b hb).1 with z |z
  ·exact hx z
  ·exact absurd (Nat.lt_of_lt_of_le (Heap.lt_size e) z) (Nat.lt_irrefl _)
 have cellK:∀x c,X.env.cells.lookup x=some c→∀v,s.heap.IsCell c v→h'.IsCell c v:=fun x c e v ⟨o,ho,hd⟩=>by
  have nch:c∉ch:=fun z=>(hch c z).2.2.1 x c e rfl
  by_cases hc:c∈X.fs
  ·obtain⟨sl,q⟩:=slot c o (I.cne x c e) hc nch ho (I.freeC x c e)
   exact⟨_,q,hd⟩
  ·exact⟨o,keep c o (I.cne x c e) hc nch ho (I.freeC x c e),hd⟩
 refine⟨I.ok,I.os,hg,⟨fun b o e n hb hx=>?_,fun b o e n hb hx=>?_,fun b o e n hx=>?_,fun b o e hx=>?_,fun b xs e=>tups b xs (I.base.tups b xs e),fun b o xs e=>frzs b o xs (I.base.frzs b o xs e),fun b ps e=>?_⟩,?_,fun x c e=>?_,?_,fun x c e=>?_,fun p hp=>?_,hok,I.len⟩
 ·exact keep b o (neL b o e) hb (neC b o e hx) (I.base.keep b o e n hb hx) (I.base.free b o e n hx)
 ·obtain⟨sl,e1⟩:=I.base.slot b o e n hb hx
  obtain⟨sl',e2⟩:=slot b _ (neL b o e) hb (neC b o e hx) e1 (I.base.free b o e n hx)
  exact⟨sl',e2⟩
 ·obtain⟨o',e1⟩:=I.base.there b o e hx
  exact free b o' (neC b o e hx) e1 (I.base.free b o e n hx)
 ·obtain⟨o',e1⟩:=I.base.there b o e hx
  exact there b o' (neC b o e hx) e1
 ·obtain⟨m1,e1⟩:=I.base.tbls b ps e
  obtain⟨m2,e2⟩:=tbls b _ e1
  exact⟨m1 ++ m2,by rw[e2,Array.append_assoc]⟩
 ·obtain⟨m,hn,hl⟩:=I.loc
  refine⟨m,ns m hn,fun i x v e1 e2 e3=>?_⟩
  obtain⟨u,r,l⟩:=hl i x v e1 e2 e3
  refine⟨u,r,?_⟩
  rcases l with l | ⟨k,c,e,z⟩
  ·exact .inl l
  ·exact .inr ⟨k,c,e,cellK x c e _ z⟩
 ·obtain⟨v,z⟩:=I.cell x c e
  exact⟨v,cellK x c e v z⟩
 ·obtain⟨m,⟨o,_,_,ho,_⟩,_⟩:=I.loc
  exact free _ o (fun z=>(hch _ z).2.1 rfl) ho I.free
 ·obtain⟨v,o,ho,hd⟩:=I.cell x c e
  exact free c o (fun z=>(hch c z).2.2.1 x c e rfl) ho (I.freeC x c e)
 ·obtain⟨e,n,ne,nf,d⟩:=I.pin p hp
  have nch:p.1∉ch:=fun z=>(hch p.1 z).2.2.2 p hp rfl
  exact⟨keep p.1 p.2 ne nf nch e n,free p.1 p.2 nch e n,ne,nf,d⟩
theorem Inv.un {t':Nat}(I:Inv X pins σ H s)(u:Un X.fs [] H H' s.heap h')(hok:HOk X.prog X.w H' h'):Inv X pins σ H' { s with heap:=h',toks:=t' }:=by
 obtain⟨m,⟨o,es,ep,ho,r⟩,_⟩:=id I.loc
 obtain⟨sl,hL⟩:=u.any ho I.free (by simp)
 exact I.step (g':=s.gens) (d':=s.drawn) (ch:=[]) (fun _ z=>nomatch z) (fun b o _ hb _ e n=>u.keep b o e n hb (by simp)) (fun b o _ hb _ e n=>u.slot b o e n hb (by simp)) (fun b o _ e n=>u.free b o e n (by simp)) (fun b o _ e=>u.there b o e (by simp)) u.tups u.frzs u.tbls (fun m' hm=>by
  obtain⟨o',es',ep',ho',r'⟩:=hm
  rw[ho]at ho';cases ho'
  exact⟨_,es',ep',hL,r'⟩) hok I.bare
theorem Inv.call {g':Array GenState}{t':Nat}{d':Drawn}{ch:List Addr}(I:Inv X pins σ H s)(u:Un (frs X.stack) ch H H' s.heap h')(hok:HOk X.prog X.w H' h')(hg:AllBare g')
  (hch:∀b∈ch,(b∈X.ex∨X.s₀.heap.objs.size≤b)∧b≠X.env.locals∧(∀x c,X.env.cells.lookup x=some c→c≠b)∧∀p∈X.pn ++ pins,p.1≠b) :
  Inv X pins σ H' { s with heap:=h',gens:=g',drawn:=d',toks:=t' }:=by
 obtain⟨m,⟨o,es,ep,ho,r⟩,_⟩:=id I.loc
 obtain⟨sl,hL⟩:=u.any ho I.free fun z=>(hch _ z).2.1 rfl
 exact I.step (ch:=ch) hch (fun b o hL hb hc e n=>u.keep b o e n (fun z=>(List.mem_cons.mp (I.stkSub b z)).elim hL hb) hc) (fun b o _ _ hc e n=>u.any e n hc) (fun b o hc e n=>u.free b o e n hc) (fun b o hc e=>u.there b o e hc) u.tups u.frzs u.tbls (fun m' hm=>by
  obtain⟨o',es',ep',ho',r'⟩:=hm
  rw[ho]at ho';cases ho'
  exact⟨_,es',ep',hL,r'⟩) hok hg
theorem Inv.turned {t':Nat}{it:Addr}(I:Inv X pins σ H s)(k:∀b o,b≠it→s.heap.get? b=some o→h'.get? b=some o)(hn:H it=none)(hL:it≠X.env.locals)
  (h1:it∈X.ex∨X.s₀.heap.objs.size≤it) (h2:∀x c,X.env.cells.lookup x=some c→c≠it) (h3:∀p∈X.pn ++ pins,p.1≠it):Inv X pins σ H { s with heap:=h',toks:=t' }:=by
 have nit:∀b u,H b=some u→b≠it:=fun b u e z=>by rw[z,hn]at e;cases e
 refine I.step (g':=s.gens) (d':=s.drawn) (ch:=[it]) (fun b hb=>?_) (fun b o _ _ hc e _=>k b o (fun z=>hc (by simp[z])) e) (fun b o _ _ hc e _=>⟨o.slots,k b o (fun z=>hc (by simp[z])) e⟩) (fun _ _ _ _ n=>n)
  (fun b o hc e=>⟨o,k b o (fun z=>hc (by simp[z])) e⟩) (fun _ _ e=>e) (fun _ _ _ e=>e) (fun b ps e=>⟨#[],by rw[e];simp⟩) (fun m hm=>?_) (fun b u e=>?_) I.bare
 ·have e:b=it:=by simpa using hb
  subst e
  exact⟨h1,hL,h2,h3⟩
 ·obtain⟨o,es,ep,ho,r⟩:=hm
  exact⟨o,es,ep,k _ o (Ne.symm hL) ho,r⟩
 ·refine(I.hok b u e).stay (fun c v hc q=>k c v ?_ q) (fun _ q=>q) fun _ _ q=>q
  rcases hc with z |z
  ·rw[z];exact nit b u e
  ·exact nit c _ z
theorem Inv.tok (I:Inv X pins σ H s) (t:Nat):Inv X pins σ H { s with toks:=t }:=I.un (h':=s.heap) (t':=t) Un.refl I.hok
theorem Inv.kept {t':Nat}(I:Inv X pins σ H s)(k:∀b u,s.heap.get? b=some u→h'.get? b=some u):Inv X pins σ H { s with heap:=h',toks:=t' }:=I.un (Un.kept k) (I.hok.kept k)
theorem Inv.laid {a:Addr}{o:HO}{t':Nat}(I:Inv X pins σ H s)(k:∀b u,s.heap.get? b=some u→h'.get? b=some u)(hp:s.heap.objs.size≤a)(new:ObjOk X.prog X.w (upd H a o) h' a o) :
  Inv X pins σ (upd H a o) { s with heap:=h',toks:=t' }:=I.un (Un.laid k hp (I.hok.fresh hp)) (I.hok.laid k hp new)
theorem Inv.write {x e:Addr}{o:HO}{t':Nat}(I:Inv X pins σ H s)(mu:Mut (H x))(he:e=x∨H e=some (.own x))(k:∀b u,b≠e→s.heap.get? b=some u→h'.get? b=some u)(heo:∃u,h'.get? e=some u)
  (new:ObjOk X.prog X.w (upd H x o) h' x o):Inv X pins σ (upd H x o) { s with heap:=h',toks:=t' }:=I.un (Un.write mu he k heo) (I.hok.write mu he k heo new)
theorem Inv.pins_of {pins':List (Addr×Obj)}(I:Inv X pins σ H s)(h:∀p∈pins',s.heap.get? p.1=some p.2∧H p.1=none∧p.1≠X.env.locals∧p.1∉X.fs∧∀v,p.2.data ≠ .cell v):Inv X pins' σ H s :=
 ⟨I.ok,I.os,I.bare,I.base,I.loc,I.cell,I.free,I.freeC,fun p hp=>(List.mem_append.mp hp).elim (fun z=>I.pin p (List.mem_append_left _ z)) (h p),I.hok,I.len⟩
theorem nodup_ix {N:List Str}(hN:N.Nodup) {i j:Nat}{x:Str}(a:N[i]? = some x)(b:N[j]? = some x):i=j:=by
 obtain⟨h1,e1⟩:=List.getElem?_eq_some_iff.mp a
 obtain⟨h2,e2⟩:=List.getElem?_eq_some_iff.mp b
 exact(List.getElem_inj hN).mp (e1.trans e2.symm)
theorem store_ok2 {M:Model}{A:Around}{E:Value→Shared→Prop}{i:Nat}{x:Str}{v:V}{u:Value}{Q:Unit→Shared→Prop}(I:Inv X pins σ H s)(hN:X.N.Nodup)(hi:X.N[i]? = some x)(hx:Loc X.env.scope x)(r:RelV v u)
  (h:∀s',Inv X pins (σ.set i (some v)) H s'→(∃a,Heap.SameBut a s.heap s'.heap∧(a=X.env.locals∨X.env.cells.lookup x=some a))→Q () s') (hf:X.fn x=true∨X.env.scope.names.lookup x=some .local:=by first |exact .inl rfl |exact .inr rfl |assumption):wpAny M A (storeName X.env x u) Q E s:=by
 obtain⟨m,hn,hl⟩:=id I.loc
 have hcls:(X.env.scope.kind == .class || (X.env.scope.kind == .module && X.env.locals != X.env.globals))=false:=by rw[I.ok.kind];rfl
 have hiσ:i<σ.length:=by rw[I.len];exact(List.getElem?_eq_some_iff.mp hi).1
 have cne:=I.cne
 have tracked:∀ {a:Addr}{h':Heap},(∃o,s.heap.get? a=some o∧H a=none)→Heap.SameBut a s.heap h'→HOk X.prog X.w H h':=fun {a h'} ha hs b ob e=>by
  obtain⟨_,_,hfree⟩:=ha
  refine(I.hok b ob e).stay (fun c w' hc q=>(hs.2 c ?_).trans q) (fun _ q=>q) fun _ _ q=>q
  rintro rfl
  rcases hc with rfl |hc
  ·rw[hfree]at e;cases e
  ·rw[hfree]at hc;cases hc
 rcases hx with hk |hk
 ·refine wpAny_storeName_local hk hn (fun h' hn' hs=>?_) hcls
  obtain⟨oL,_,_,hoL,_⟩:=id hn
  refine h _ ⟨I.ok,I.os,I.bare,⟨fun b o e n hb hx=>?_,fun b o e n hb hx=>?_,I.base.free,fun b o e hx=>?_,I.base.tups,I.base.frzs,I.base.tbls⟩,⟨_,hn',fun j y v' e1 e2 e3=>?_⟩,fun y c e=>?_,I.free,I.freeC,fun p hp=>?_,tracked ⟨oL,hoL,I.free⟩ hs,by simpa using I.len⟩ ⟨_,hs,.inl rfl⟩
  ·exact(hs.2 b (Nat.ne_of_lt (Nat.lt_of_lt_of_le (Heap.lt_size e) I.ok.above))).trans (I.base.keep b o e n hb hx)
  ·obtain⟨sl,e1⟩:=I.base.slot b o e n hb hx
   exact⟨sl,(hs.2 b (Nat.ne_of_lt (Nat.lt_of_lt_of_le (Heap.lt_size e) I.ok.above))).trans e1⟩
  ·obtain⟨o',e1⟩:=I.base.there b o e hx
   exact⟨o',(hs.2 b (Nat.ne_of_lt (Nat.lt_of_lt_of_le (Heap.lt_size e) I.ok.above))).trans e1⟩
  ·by_cases hj:j=i
   ·subst hj
    rw[hi]at e1;cases e1
    rw[List.getElem?_set_self hiσ]at e2
    cases e2
    exact⟨u,r,.inl ⟨hk,by simp⟩⟩
   ·rw[List.getElem?_set_ne (Ne.symm hj)]at e2
    obtain⟨u',r',q⟩:=hl j y v' e1 e2 e3
    refine⟨u',r',?_⟩
    rcases q with ⟨k,e⟩ | ⟨k,c,e,z⟩
    ·refine .inl ⟨k,?_⟩
     have:y≠x:=fun e=>hj (nodup_ix hN e1 (e ▸ hi))
     simp[this,e]
    ·exact .inr ⟨k,c,e,z.sameBut hs (cne y c e)⟩
  ·obtain⟨w',z⟩:=I.cell y c e
   exact⟨w',z.sameBut hs (cne y c e)⟩
  ·obtain⟨e,n,ne,nf,d⟩:=I.pin p hp
   exact⟨(hs.2 p.1 ne).trans e,n,ne,nf,d⟩
 ·have hfn:X.fn x=true:=by
   rcases hf with z |z
   ·exact z
   ·rw[z]at hk;cases hk
  obtain⟨c,hc⟩:=I.ok.has x (.inl hk)
  obtain⟨w',z⟩:=I.cell x c hc
  refine wpAny_storeName_cell I.ok.kind hk hc z (fun h' hc' hs=>?_)
  obtain⟨oc,hoc,hocd⟩:=id z
  refine h { s with heap:=h' } ⟨I.ok,I.os,I.bare,⟨fun b o e n hb hx=>?_,fun b o e n hb hx=>?_,I.base.free,fun b o e hx=>?_,I.base.tups,I.base.frzs,I.base.tbls⟩,⟨m,hn.sameBut hs (Ne.symm (cne x c hc)),fun j y v' e1 e2 e3=>?_⟩,fun y c' e=>?_,I.free,I.freeC,fun p hp=>?_,tracked ⟨oc,hoc,I.freeC x c hc⟩ hs,by simpa using I.len⟩ ⟨c,hs,.inr hc⟩
  ·exact(hs.2 b (Nat.ne_of_lt (Nat.lt_of_lt_of_le (Heap.lt_size e) (I.ok.cab x c hfn hc)))).trans (I.base.keep b o e n hb hx)
  ·obtain⟨sl,e1⟩:=I.base.slot b o e n hb hx
   exact⟨sl,(hs.2 b (Nat.ne_of_lt (Nat.lt_of_lt_of_le (Heap.lt_size e) (I.ok.cab x c hfn hc)))).trans e1⟩
  ·obtain⟨o',e1⟩:=I.base.there b o e hx
   exact⟨o',(hs.2 b (Nat.ne_of_lt (Nat.lt_of_lt_of_le (Heap.lt_size e) (I.ok.cab x c hfn hc)))).trans e1⟩
  ·by_cases hj:j=i
   ·subst hj
    rw[hi]at e1;cases e1
    rw[List.getElem?_set_self hiσ]at e2
    cases e2
    exact⟨u,r,.inr ⟨.inl hk,c,hc,hc'⟩⟩
   ·rw[List.getElem?_set_ne (Ne.symm hj)]at e2
    obtain⟨u',r',q⟩:=hl j y v' e1 e2 e3
    refine⟨u',r',?_⟩
    rcases q with q | ⟨k,c',e,z'⟩
    ·exact .inl q
    ·refine .inr ⟨k,c',e,z'.sameBut hs ?_⟩
     rintro rfl
     exact hj (nodup_ix hN e1 (I.ok.inj _ _ _ e hc ▸ hi))
  ·by_cases hcc:c'=c
   ·subst hcc;exact⟨_,hc'⟩
   ·obtain⟨w2,z2⟩:=I.cell y c' e
    exact⟨w2,z2.sameBut hs hcc⟩
  ·obtain⟨e,n,ne,nf,d⟩:=I.pin p hp
   refine⟨(hs.2 p.1 ?_).trans e,n,ne,nf,d⟩
   intro q
   rw[q,hoc]at e
   have q':oc=p.2:=Option.some.inj e
   exact d w' (by rw[← q'];exact hocd)
theorem store_ok {M:Model}{A:Around}{E:Value→Shared→Prop}{i:Nat}{x:Str}{v:V}{u:Value}{Q:Unit→Shared→Prop}(I:Inv X pins σ H s)(hN:X.N.Nodup)(hi:X.N[i]? = some x)(hx:Loc X.env.scope x)(r:RelV v u)
  (h:∀s',Inv X pins (σ.set i (some v)) H s'→Q () s') (hf:X.fn x=true∨X.env.scope.names.lookup x=some .local:=by first |exact .inl rfl |exact .inr rfl |assumption):wpAny M A (storeName X.env x u) Q E s :=
 store_ok2 I hN hi hx r (fun s' I' _=>h s' I') hf
end
noncomputable abbrev XK:=Value→Option Addr→Hp→Prop
noncomputable abbrev St:=List (Option V)
noncomputable abbrev VK:=V→Hp→Prop
noncomputable abbrev TE:=St→Hp→VK→Prop
noncomputable abbrev TT:=St→Hp→(Bool→Hp→Prop)→Prop
noncomputable abbrev TA:=St→Hp→(List V→Hp→Prop)→Prop
structure Ends where
 nx:St→Hp→Prop
 rt:VK
 bk:St→Hp→Prop:=fun _ _=>False
 ct:St→Hp→Prop:=fun _ _=>False
noncomputable abbrev TS:=Ends→St→Hp→Prop
noncomputable def EP (X:Cx)(pins:List (Addr×Obj)) (σ:St)(Q:VK)(u:Value)(s':Shared):Prop:=∃v H',Inv X pins σ H' s'∧RelV v u∧Q v H'
noncomputable def TP (X:Cx)(pins:List (Addr×Obj)) (σ:St)(Q:Bool→Hp→Prop)(b:Bool)(s':Shared):Prop:=∃H',Inv X pins σ H' s'∧Q b H'
noncomputable def AP (X:Cx)(pins:List (Addr×Obj)) (σ:St)(Q:List V→Hp→Prop)(us:List Value)(s':Shared):Prop:=∃vs H',Inv X pins σ H' s'∧Vals vs us∧Q vs H'
noncomputable def SP (X:Cx)(pins:List (Addr×Obj))(D:Ends)(f:Flow)(s':Shared):Prop :=
 match f with
 | .next=>∃ σ' H',Inv X pins σ' H' s'∧D.nx σ' H'
 | .brk=>∃ σ' H',Inv X pins σ' H' s'∧D.bk σ' H'
 | .cont=>∃ σ' H',Inv X pins σ' H' s'∧D.ct σ' H'
 | .ret u=>∃v σ' H',Inv X pins σ' H' s'∧RelV v u∧D.rt v H'
noncomputable def PE (X:Cx)(e:Expr)(t:TE):Prop :=
 ∀(pins:List (Addr×Obj)) (s:Shared) (σ:St) (H:Hp) (Q:VK),Inv X pins σ H s→t σ H Q→wpAny (model X.prog X.w) X.A (eval e X.env) (EP X pins σ Q) X.xe s
noncomputable def PT (X:Cx)(e:Expr)(t:TT):Prop :=
 ∀(pins:List (Addr×Obj)) (s:Shared) (σ:St) (H:Hp) (Q:Bool→Hp→Prop),Inv X pins σ H s→t σ H Q→wpAny (model X.prog X.w) X.A (isTrue e X.env (eval e X.env)) (TP X pins σ Q) X.xe s
noncomputable def PW (X:Cx)(e:Expr)(t:TT):Prop :=
 ∀(whole:Sem Value) (pins:List (Addr×Obj)) (s:Shared) (σ:St) (H:Hp) (Q:Bool→Hp→Prop),Inv X pins σ H s→t σ H Q→wpAny (model X.prog X.w) X.A (isTrue e X.env whole) (TP X pins σ Q) X.xe s
theorem PW.pt {X:Cx}{e:Expr}{t:TT}(h:PW X e t):PT X e t:=h _
noncomputable def PA (X:Cx)(es:List Expr)(t:TA):Prop :=
 ∀(pos:Pos) (pins:List (Addr×Obj)) (s:Shared) (σ:St) (H:Hp) (Q:List V→Hp→Prop),Inv X pins σ H s→t σ H Q→wpAny (model X.prog X.w) X.A (spliced (backTo pos (starEach es X.env))) (AP X pins σ Q) X.xe s
noncomputable def PS (X:Cx)(st:Stmt)(t:TS):Prop :=
 ∀(pins:List (Addr×Obj)) (s:Shared) (σ:St) (H:Hp) (D:Ends),Inv X pins σ H s→t D σ H→wpAny (model X.prog X.w) X.A (exec st X.env) (SP X pins D) X.xe s
noncomputable def PSs (X:Cx)(st:List Stmt)(t:TS):Prop :=
 ∀(pins:List (Addr×Obj)) (s:Shared) (σ:St) (H:Hp) (D:Ends),Inv X pins σ H s→t D σ H→wpAny (model X.prog X.w) X.A (execs st X.env) (SP X pins D) X.xe s
theorem thn {α:Type}{t:Sem α}{Q Q':α→Shared→Prop}{M:Model}{A:Around}{E:Value→Shared→Prop}{s:Shared}(h:wpAny M A t Q E s)(hQ:∀a s,Q a s→Q' a s):wpAny M A t Q' E s:=wpAny_mono h hQ fun _ _ x=>x
section
variable {X:Cx}
noncomputable def tVar (i:Nat):TE:=fun σ H Q=>∃v,σ[i]? = some (some v)∧Q v H
noncomputable def tC (v:V):TE:=fun _ H Q=>Q v H
theorem pe_var {i:Nat}{x:Str}{pos:Pos}(hN:X.N[i]? = some x)(hv:Vis X.env.scope x)(hd:(x == ("__debug__":Str))=false:=by decide)(hcd:(x == ("__classdict__":Str))=false:=by decide):PE X (.Name x pos) (tVar i):=by
 intro pins s σ H Q I h
 obtain⟨v,e,h⟩:=h
 obtain⟨m,hn,hl⟩:=I.loc
 obtain⟨u,r,l⟩:=hl i x v hN e hv
 have fin:EP X pins σ Q u s:=⟨v,H,I,r,h⟩
 rcases l with ⟨hk,hm⟩ | ⟨hk,c,hc,hcell⟩
 ·exact wpAny_Name (wpAny_loadName_local I.ok.kind hk hn hm fin) hd
 ·rcases hk with hk |hk
  ·exact wpAny_Name (wpAny_loadName_cell I.ok.kind hk hc hcell fin) hd
  ·exact wpAny_Name (wpAny_loadName_free I.ok.kind hk hc hcell fin hcd) hd
theorem pe_int {i j pos}:PE X (.Constant (.int i) j pos) (tC (.int i)):=fun _ _ _ H _ I h=>wpAny_Constant_int ⟨.int i,H,I.tok _,⟨_,rfl⟩,h⟩
theorem pe_bl {b j pos}:PE X (.Constant (.bool b) j pos) (tC (.bl b)):=fun _ _ _ H _ I h=>Constant_bool ⟨.bl b,H,I,rfl,h⟩
theorem pe_non {j pos}:PE X (.Constant .none j pos) (tC .non):=fun _ _ _ H _ I h=>Constant_none ⟨.non,H,I,rfl,h⟩
theorem pe_str {x j pos}:PE X (.Constant (.str x) j pos) (tC (.str x)):=fun _ _ _ H _ I h=>Calls.Constant_str ⟨.str x,H,I.tok _,⟨_,rfl⟩,h⟩
noncomputable def Gl (X:Cx)(x:Str):Prop:=X.env.kindOf x=some .globalImplicit
theorem ld_glob {E:Value→Shared→Prop}{pins:List (Addr×Obj)}{s:Shared}{σ:St}{H:Hp}{x:Str}{u:Value}{pos:Pos}{Q:Value→Shared→Prop}(I:Inv X pins σ H s)(hg:Gl X x)(hm:X.mg x=some u)(h:Q u s)
  (hd:(x == ("__debug__":Str))=false:=by decide):wpAny (model X.prog X.w) X.A (eval (.Name x pos) X.env) Q E s :=
 Calls.Name_function_global I.ok.kind hg (Calls.loadGlobal_global (by rw[I.ok.glob];exact I.mod.glob.keeps I.bk) hm h) hd
theorem ld_blt {E:Value→Shared→Prop}{pins:List (Addr×Obj)}{s:Shared}{σ:St}{H:Hp}{x:Str}{u:Value}{pos:Pos}{Q:Value→Shared→Prop}(I:Inv X pins σ H s)(hg:Gl X x)(hm:X.mg x=none)(hv:bootBuiltins x=some u)(h:Q u s)
  (hn:x ≠ "__name__":=by decide) (hd:(x == ("__debug__":Str))=false:=by decide):wpAny (model X.prog X.w) X.A (eval (.Name x pos) X.env) Q E s:=by
 obtain⟨mb,h1,h2⟩:=I.mod.blt
 exact Calls.Name_function_global I.ok.kind hg (Calls.loadGlobal_builtin (by rw[I.ok.glob];exact I.mod.glob.keeps I.bk) hm (by rw[I.ok.blt];exact h1.keeps I.bk) ((h2 x hn).trans hv) h) hd
theorem pe_glob {x:Str}{v:V}{u:Value}{pos:Pos}(hg:Gl X x)(hm:X.mg x=some u)(r:RelV v u)(hd:(x == ("__debug__":Str))=false:=by decide):PE X (.Name x pos) (tC v) :=
 fun _ _ _ H _ I h=>ld_glob I hg hm ⟨v,H,I,r,h⟩ hd
theorem pe_bltn {x:Str}{v:V}{u:Value}{pos:Pos}(hg:Gl X x)(hm:X.mg x=none)(hv:bootBuiltins x=some u)(r:RelV v u)(hn:x ≠ "__name__":=by decide)(hd:(x == ("__debug__":Str))=false:=by decide):PE X (.Name x pos) (tC v) :=
 fun _ _ _ H _ I h=>ld_blt I hg hm hv ⟨v,H,I,r,h⟩ hn hd
variable {a b:Expr}{ta tb:TE}{pos:Pos}
noncomputable def tB (t:TE):TT:=fun σ H Q=>t σ H fun x H1=>∃c,x = .bl c∧Q c H1
theorem pt_val {e:Expr}{t:TE}(h:PE X e t)(he:∀whole,isTrue e X.env whole=(do let v ← whole;standAt e.pos;holding [v] (truthy v)):=by intro _;rfl):PT X e (tB t):=by
 intro pins s σ H Q I hw
 refine isTrue_plain (thn (h pins s σ H _ I hw) fun v s1 ⟨x,H1,I1,r1,q1⟩=>?_) (he _)
 obtain⟨d,rfl,q⟩:=q1
 cases r1
 exact wpAny_truthy_bool ⟨H1,I1,q⟩
variable {tA tB':TT}{rest:List Expr}
noncomputable def tAnd (t u:TT):TT:=fun σ H Q=>t σ H fun c H1=>if c=true then u σ H1 Q else Q false H1
noncomputable def tOr (t u:TT):TT:=fun σ H Q=>t σ H fun c H1=>if c=true then Q true H1 else u σ H1 Q
noncomputable def tNot (t:TT):TT:=fun σ H Q=>t σ H fun c H1=>Q (!c) H1
theorem pw_and1 (ha:PT X a tA):PW X (.BoolOp .And [a] pos) tA:=by
 intro wh pins s σ H Q I h
 refine isTrue_and (thn (ha pins s σ H Q I h) fun c s1 e=>?_)
 cases c with
 | true=>exact isTrue_and_nil e
 | false=>exact e
theorem pw_or1 (ha:PT X a tA):PW X (.BoolOp .Or [a] pos) tA:=by
 intro wh pins s σ H Q I h
 refine isTrue_or (thn (ha pins s σ H Q I h) fun c s1 e=>?_)
 cases c with
 | false=>exact isTrue_or_nil e
 | true=>exact e
theorem pw_and (ha:PT X a tA)(hb:PW X (.BoolOp .And (b :: rest) pos) tB'):PW X (.BoolOp .And (a :: b :: rest) pos) (tAnd tA tB'):=by
 intro wh pins s σ H Q I h
 refine isTrue_and (thn (ha pins s σ H _ I h) fun c s1 ⟨H1,I1,q1⟩=>?_)
 cases c with
 | true=>exact hb wh pins s1 σ H1 Q I1 q1
 | false=>exact⟨H1,I1,q1⟩
theorem pw_or (ha:PT X a tA)(hb:PW X (.BoolOp .Or (b :: rest) pos) tB'):PW X (.BoolOp .Or (a :: b :: rest) pos) (tOr tA tB'):=by
 intro wh pins s σ H Q I h
 refine isTrue_or (thn (ha pins s σ H _ I h) fun c s1 ⟨H1,I1,q1⟩=>?_)
 cases c with
 | true=>exact⟨H1,I1,q1⟩
 | false=>exact hb wh pins s1 σ H1 Q I1 q1
theorem pt_not (ha:PT X a tA):PT X (.UnaryOp .Not a pos) (tNot tA):=by
 intro pins s σ H Q I h
 exact isTrue_not (ha pins s σ H (fun c H1=>Q (!c) H1) I h)
noncomputable def tAndV (ta tb:TE):TE:=fun σ H Q=>ta σ H fun x H1=>∃c,x = .bl c∧if c=true then tb σ H1 Q else Q (.bl false) H1
noncomputable def tOrV (ta tb:TE):TE:=fun σ H Q=>ta σ H fun x H1=>∃c,x = .bl c∧if c=true then Q (.bl true) H1 else tb σ H1 Q
noncomputable def tNotV (ta:TE):TE:=fun σ H Q=>ta σ H fun x H1=>∃c,x = .bl c∧Q (.bl (!c)) H1
theorem pe_one {op}{t:TE}(h:PE X a t):PE X (.BoolOp op [a] pos) t:=fun pins s σ H Q I hw=>BoolOp_one (h pins s σ H Q I hw)
theorem pe_and (ha:PE X a ta)(hb:PE X (.BoolOp .And (b :: rest) pos) tb):PE X (.BoolOp .And (a :: b :: rest) pos) (tAndV ta tb):=by
 intro pins s σ H Q I h
 refine BoolOp_and (thn (ha pins s σ H _ I h) fun v s1 ⟨x,H1,I1,r1,q1⟩=>?_)
 obtain⟨c,rfl,q1⟩:=q1
 cases r1
 refine wpAny_truthy_bool ?_
 cases c with
 | true=>exact hb pins s1 σ H1 Q I1 q1
 | false=>exact⟨.bl false,H1,I1,rfl,q1⟩
theorem pe_or (ha:PE X a ta)(hb:PE X (.BoolOp .Or (b :: rest) pos) tb):PE X (.BoolOp .Or (a :: b :: rest) pos) (tOrV ta tb):=by
 intro pins s σ H Q I h
 refine BoolOp_or (thn (ha pins s σ H _ I h) fun v s1 ⟨x,H1,I1,r1,q1⟩=>?_)
 obtain⟨c,rfl,q1⟩:=q1
 cases r1
 refine wpAny_truthy_bool ?_
 cases c with
 | false=>exact hb pins s1 σ H1 Q I1 q1
 | true=>exact⟨.bl true,H1,I1,rfl,q1⟩
theorem pe_not (ha:PE X a ta):PE X (.UnaryOp .Not a pos) (tNotV ta):=by
 intro pins s σ H Q I h
 refine UnaryOp_ (thn (ha pins s σ H _ I h) fun v s1 ⟨x,H1,I1,r1,q1⟩=>?_)
 obtain⟨c,rfl,q1⟩:=q1
 cases r1
 exact not_of (wpAny_truthy_bool ⟨.bl (!c),H1,I1,rfl,q1⟩)
noncomputable def tIf (t:TT)(ta tb:TE):TE:=fun σ H Q=>t σ H fun c H1=>if c=true then ta σ H1 Q else tb σ H1 Q
theorem pe_ifExp {c:Expr}(hc:PT X c tA)(ha:PE X a ta)(hb:PE X b tb):PE X (.IfExp c a b pos) (tIf tA ta tb):=by
 intro pins s σ H Q I h
 refine wpAny_IfExp (thn (hc pins s σ H _ I h) fun d s1 ⟨H1,I1,q1⟩=>?_)
 cases d with
 | true=>exact ha pins s1 σ H1 Q I1 q1
 | false=>exact hb pins s1 σ H1 Q I1 q1
end
noncomputable def SqL (K:PySem.W.Frag)(H:Hp)(a:Addr)(xs:List V):Prop :=
 Rd H a (.lst xs) ∨
  ∃(o:Obj) (its:Array Value) (n:Nat),K.lookup a=some o∧o.cls = .type "list"∧o.dict=none∧o.data = .seq its n∧its.size≤sizeLine∧Vals xs its.toList
noncomputable def SqT (K:PySem.W.Frag)(H:Hp)(a:Addr)(xs:List V):Prop :=
 Rd H a (.tup xs) ∨
  ∃(o:Obj) (its:Array Value) (n:Nat),K.lookup a=some o∧o.cls = .type "tuple"∧o.data = .seq its n∧its.size≤sizeLine∧Vals xs its.toList
noncomputable def absV:Value→Option V
 | .none=>some .non
 | .bool b=>some (.bl b)
 | .int i _=>some (.int i)
 | .str x _=>some (.str x)
 | .bytes b _=>some (.byt b)
 | .float b _=>some (.flt b)
 | .ref a=>some (.ref a)
 | .type n=>some (.ty n)
 | _=>none
theorem RelV.abs {x:V}{u:Value}(r:RelV x u):absV u=some x:=by
 cases x with
 | non=>cases r;rfl
 | bl _=>cases r;rfl
 | int _=>obtain⟨t,rfl⟩:=r;rfl
 | str _=>obtain⟨t,rfl⟩:=r;rfl
 | byt _=>obtain⟨t,rfl⟩:=r;rfl
 | flt _=>obtain⟨t,rfl⟩:=r;rfl
 | ref _=>cases r;rfl
 | ty _=>cases r;rfl
theorem RelV.inj {x y:V}{u:Value}(r:RelV x u)(q:RelV y u):x=y:=Option.some.inj (r.abs.symm.trans q.abs)
theorem Vals.inj:∀ {xs ys:List V}{us:List Value},Vals xs us→Vals ys us→xs=ys
 | _,_,_,.nil,.nil=>rfl
 | _,_,_,.cons r t,.cons r' t'=>by rw[r.inj r',Vals.inj t t']
section
variable {X:Cx}{pins:List (Addr×Obj)}{σ:St}{H:Hp}{s:Shared}{a:Addr}{xs ys:List V}
theorem SqL.of {K:PySem.W.Frag}(h:H a=some (.lst xs)):SqL K H a xs:=.inl (.inl h)
theorem SqT.of {K:PySem.W.Frag}(h:H a=some (.tup xs)):SqT K H a xs:=.inl (.inl h)
theorem Inv.list (I:Inv X pins σ H s)(h:SqL X.K H a xs):∃its:List Value,Vals xs its∧PlainL s.heap a its.toArray∧xs.length≤sizeLine:=by
 rcases h with h | ⟨o,its,n,hk,hc,hd,hs,hz,r⟩
 ·obtain⟨z,its,n,r,e⟩:=h.ok I.hok
  exact⟨its,r,⟨_,n,e,rfl,rfl,rfl⟩,z⟩
 ·refine⟨its.toList,r,⟨o,n,I.kIn a o hk,hc,hd,by simpa using hs⟩,?_⟩
  have e:=r.length
  simp only[Array.length_toList]at e
  omega
theorem Inv.tuple (I:Inv X pins σ H s)(h:SqT X.K H a xs):∃its:List Value,Vals xs its∧IsTup s.heap a its.toArray∧xs.length≤sizeLine:=by
 rcases h with h | ⟨o,its,n,hk,hc,hs,hz,r⟩
 ·obtain⟨z,its,r,p⟩:=h.ok I.hok
  exact⟨its,r,p,z⟩
 ·refine⟨its.toList,r,⟨o,I.kIn a o hk,hc,n,by simpa using hs⟩,?_⟩
  have e:=r.length
  simp only[Array.length_toList]at e
  omega
theorem Inv.list_inj (I:Inv X pins σ H s)(h:SqL X.K H a xs)(h':SqL X.K H a ys):xs=ys:=by
 obtain⟨its,r,⟨o,n,e,_,_,d⟩,_⟩:=I.list h
 obtain⟨its',r',⟨o',n',e',_,_,d'⟩,_⟩:=I.list h'
 rw[e]at e';cases e'
 rw[d]at d'
 injection d' with d1 _
 have:its=its':=by simpa using congrArg Array.toList d1
 subst this
 exact r.inj r'
theorem Inv.tuple_inj (I:Inv X pins σ H s)(h:SqT X.K H a xs)(h':SqT X.K H a ys):xs=ys:=by
 obtain⟨its,r,⟨o,e,_,n,d⟩,_⟩:=I.tuple h
 obtain⟨its',r',⟨o',e',_,n',d'⟩,_⟩:=I.tuple h'
 rw[e]at e';cases e'
 rw[d]at d'
 injection d' with d1 _
 have:its=its':=by simpa using congrArg Array.toList d1
 subst this
 exact r.inj r'
end
noncomputable abbrev Cx.wish (X:Cx)(E:Value→Shared→Prop):Cx:={ X with xe:=E }
noncomputable abbrev Cx.nox (X:Cx):Cx:=X.wish fun _ _=>False
theorem Cx.Ok.wish {X:Cx}(ok:X.Ok)(E:Value→Shared→Prop):(X.wish E).Ok :=
 ⟨ok.mod,ok.kind,ok.glob,ok.blt,ok.above,ok.inj,ok.has,ok.cab,ok.hd,ok.frames,ok.stk,ok.exf,ok.bs,ok.bsz,ok.noex,ok.exfs,ok.funs,ok.frf⟩
theorem Cx.Ok.unwish {X:Cx}{E:Value→Shared→Prop}(ok:(X.wish E).Ok):X.Ok :=
 ⟨ok.mod,ok.kind,ok.glob,ok.blt,ok.above,ok.inj,ok.has,ok.cab,ok.hd,ok.frames,ok.stk,ok.exf,ok.bs,ok.bsz,ok.noex,ok.exfs,ok.funs,ok.frf⟩
section
variable {X:Cx}{pins:List (Addr×Obj)}{σ:St}{H:Hp}{s:Shared}{E:Value→Shared→Prop}
theorem Inv.wish (I:Inv X pins σ H s)(E:Value→Shared→Prop):Inv (X.wish E) pins σ H s:=⟨I.ok.wish E,I.os,I.bare,I.base,I.loc,I.cell,I.free,I.freeC,I.pin,I.hok,I.len⟩
theorem Inv.unwish (I:Inv (X.wish E) pins σ H s):Inv X pins σ H s:=⟨I.ok.unwish,I.os,I.bare,I.base,I.loc,I.cell,I.free,I.freeC,I.pin,I.hok,I.len⟩
theorem SP.unwish {D:Ends}{f:Flow}{s':Shared}(h:SP (X.wish E) pins D f s'):SP X pins D f s':=by
 cases f with
 | next=>obtain⟨σ',H',I,q⟩:=h;exact⟨σ',H',I.unwish,q⟩
 | brk=>obtain⟨σ',H',I,q⟩:=h;exact⟨σ',H',I.unwish,q⟩
 | cont=>obtain⟨σ',H',I,q⟩:=h;exact⟨σ',H',I.unwish,q⟩
 | ret u=>obtain⟨v,σ',H',I,r,q⟩:=h;exact⟨v,σ',H',I.unwish,r,q⟩
theorem PSs.nox {st:List Stmt}{t:TS}(h:PSs X.nox st t):PSs X st t:=fun pins s σ H D I hw =>
 wpAny_mono (h pins s σ H D (I.wish _) hw) (fun _ _ q=>q.unwish) fun _ _ z=>False.elim z
end
section
variable {X:Cx}{st:Stmt}{rest:List Stmt}{t u:TS}{e:Expr}{te:TE}{pos:Pos}
noncomputable def tNext:TS:=fun D σ H=>D.nx σ H
noncomputable def tSeq (t u:TS):TS:=fun D σ H=>t { D with nx:=u D } σ H
theorem pss_nil:PSs X [] tNext:=fun _ _ σ H _ I h=>wpAny_execs_nil ⟨σ,H,I,h⟩
theorem pss_cons (h1:PS X st t)(h2:PSs X rest u):PSs X (st :: rest) (tSeq t u):=by
 intro pins s σ H D I h
 refine wpAny_execs_cons (thn (h1 pins s σ H { D with nx:=u D } I h) fun f s1 q=>?_)
 cases f with
 | next =>
  obtain⟨σ',H',I',q⟩:=q
  exact h2 pins s1 σ' H' D I' q
 | ret v=>exact q
 | brk=>exact q
 | cont=>exact q
theorem pss_one (h1:PS X st t):PSs X [st] t:=by
 intro pins s σ H D I h
 refine wpAny_execs_cons (thn (h1 pins s σ H D I h) fun f s1 q=>?_)
 cases f with
 | next=>exact wpAny_execs_nil q
 | ret v=>exact q
 | brk=>exact q
 | cont=>exact q
theorem Inv.quiet {pins:List (Addr×Obj)}{σ:St}{H:Hp}{s:Shared}(I:Inv X pins σ H s):interactive X.env=false:=by simp[interactive,I.ok.kind]
noncomputable def tDrop (te:TE):TS:=fun D σ H=>te σ H fun _ H1=>D.nx σ H1
theorem ps_expr (he:PE X e te)(hs:swapsWith e none pos.line X.env=pure false:=by rfl):PS X (.Expr e pos) (tDrop te):=by
 intro pins s σ H D I h
 exact wpAny_Expr_any (thn (he pins s σ H _ I h) fun v s1 ⟨x,H1,I1,r1,q1⟩=>⟨σ,H1,I1,q1⟩) I.quiet hs
noncomputable def tRet (te:TE):TS:=fun D σ H=>te σ H D.rt
theorem ps_ret (he:PE X e te):PS X (.Return (some e) pos) (tRet te):=by
 intro pins s σ H D I h
 exact wpAny_Return_some (thn (he pins s σ H _ I h) fun v s1 ⟨x,H1,I1,r1,q1⟩=>⟨x,σ,H1,I1,r1,q1⟩)
noncomputable def tIfS (c:TT)(t u:TS):TS:=fun D σ H=>c σ H fun b H1=>if b=true then t D σ H1 else u D σ H1
theorem ps_if {c:Expr}{a b:List Stmt}{tc:TT}(hc:PT X c tc)(ha:PSs X a t)(hb:PSs X b u):PS X (.If c a b pos) (tIfS tc t u):=by
 intro pins s σ H D I h
 refine wpAny_If (thn (hc pins s σ H _ I h) fun d s1 ⟨H1,I1,q1⟩=>?_)
 cases d with
 | true=>exact ha pins s1 σ H1 D I1 q1
 | false=>exact hb pins s1 σ H1 D I1 q1
end
noncomputable abbrev TG:=V→St→Hp→(St→Hp→Prop)→Prop
noncomputable abbrev TGs:=List V→St→Hp→(St→Hp→Prop)→Prop
noncomputable def PG (X:Cx)(target:Expr)(t:TG):Prop :=
 ∀(pins:List (Addr×Obj)) (s:Shared) (σ:St) (H:Hp) (v:V) (u:Value) (Q:St→Hp→Prop),Inv X pins σ H s→RelV v u→t v σ H Q →
  wpAny (model X.prog X.w) X.A (assign target X.env u) (fun _ s'=>∃ σ' H',Inv X pins σ' H' s'∧Q σ' H') X.xe s
noncomputable def PGs (X:Cx)(ts:List Expr)(t:TGs):Prop :=
 ∀(pins:List (Addr×Obj)) (s:Shared) (σ:St) (H:Hp) (vs:List V) (us:List Value) (Q:St→Hp→Prop),Inv X pins σ H s→Vals vs us→t vs σ H Q →
  wpAny (model X.prog X.w) X.A (assignInOrder ((assignEach ts X.env).map (·.2)) us) (fun _ s'=>∃ σ' H',Inv X pins σ' H' s'∧Q σ' H') X.xe s
noncomputable abbrev TSet:=V→V→V→Hp→(Hp→Prop)→Prop
noncomputable def PSet (X:Cx)(t:TSet):Prop :=
 ∀(pins:List (Addr×Obj)) (s:Shared) (σ:St) (H:Hp) (o i v:V) (ov iv u:Value) (Q:Hp→Prop),Inv X pins σ H s→RelV o ov→RelV i iv→RelV v u→t o i v H Q →
  wpAny (model X.prog X.w) X.A (setItem ov iv u) (fun _ s'=>∃H',Inv X pins σ H' s'∧Q H') X.xe s
section
variable {X:Cx}{pos:Pos}
noncomputable def gName (i:Nat):TG:=fun v σ H Q=>Q (σ.set i (some v)) H
theorem pg_name {i:Nat}{x:Str}(hN:X.N.Nodup)(hi:X.N[i]? = some x)(hx:Loc X.env.scope x)(hf:X.fn x=true∨X.env.scope.names.lookup x=some .local:=by first |exact .inl rfl |exact .inr rfl |assumption):PG X (.Name x pos) (gName i):=by
 intro pins s σ H v u Q I r h
 exact wpAny_assign_Name (store_ok I hN hi hx r (fun s' I'=>⟨_,H,I',h⟩) hf)
noncomputable def gNil:TGs:=fun vs σ H Q=>vs = []∧Q σ H
noncomputable def gCons (t:TG)(u:TGs):TGs:=fun vs σ H Q=>∃v r,vs=v :: r∧t v σ H fun σ' H'=>u r σ' H' Q
theorem pgs_nil:PGs X [] gNil:=by
 intro pins s σ H vs us Q I r h
 obtain⟨e,h⟩:=h
 subst e
 cases r
 exact assignInOrder_nil ⟨σ,H,I,h⟩
theorem pgs_cons {e:Expr}{es:List Expr}{t:TG}{u:TGs}(h1:PG X e t)(h2:PGs X es u)
  (hs:(assignEach (e :: es) X.env).map (·.2)=assign e X.env :: (assignEach es X.env).map (·.2):=by rfl):PGs X (e :: es) (gCons t u):=by
 intro pins s σ H vs us Q I r h
 obtain⟨v,vr,e1,h⟩:=h
 subst e1
 cases r with
 | cons r rr =>
  rw[hs]
  refine assignInOrder_cons (thn (h1 pins s σ H _ _ _ I r h) fun _ s1 ⟨σ1,H1,I1,q1⟩=>?_)
  exact h2 pins s1 σ1 H1 _ _ Q I1 rr q1
noncomputable def gTup (K:PySem.W.Frag)(n:Nat)(t:TGs):TG:=fun v σ H Q=>∃a xs,v = .ref a∧SqT K H a xs∧xs.length=n∧t xs σ H Q
theorem pg_tup {es:List Expr}{k:Nat}{t:TGs}{n:Nat}(hc:X.calm=true)(h:PGs X es t)
  (hn:(assignEach es X.env).length=n:=by rfl) (hst:(assignEach es X.env).findIdx? (·.1)=none:=by rfl):PG X (.Tuple es k pos) (gTup X.K n t):=by
 intro pins s σ H v u Q I r hw
 obtain⟨a,xs,e1,hq,hl,hw⟩:=hw
 subst e1
 cases r
 obtain⟨its,rv,ht,hz⟩:=I.tuple hq
 refine assign_Tuple_tuple (I.ok.hd hc) ht (by simp[hn,← hl,rv.length]) hst fun h' hx=>?_
 have I1:Inv X pins σ H { s with heap:=h' }:=I.kept (t':=s.toks) fun b o e=>hx b o (Nat.ne_of_lt (Heap.lt_size e)) e
 exact h pins _ σ H xs _ Q I1 (by simpa using rv) hw
noncomputable def gSub (to ti:TE)(t:TSet):TG:=fun v σ H Q=>to σ H fun o H1=>ti σ H1 fun i H2=>t o i v H2 fun H3=>Q σ H3
theorem pg_sub {o i:Expr}{to ti:TE}{t:TSet}(ho:PE X o to)(hi:PE X i ti)(hs:PSet X t)
  (ha:∀v,assign (.Subscript o i pos) X.env v=(do
   let ov ← holding [v] (eval o X.env)
   let iv ← holding [v,ov] (eval i X.env)
   standAt pos
   holding [v,ov,iv] (setItem ov iv v)
   release [v,ov,iv] []):=by intro _;rfl):PG X (.Subscript o i pos) (gSub to ti t):=by
 intro pins s σ H v u Q I r h
 rw[ha]
 refine wpAny_bind (wpAny_holding (thn (ho pins s σ H _ I h) fun ov s1 ⟨x,H1,I1,r1,q1⟩=>?_))
 refine wpAny_bind (wpAny_holding (thn (hi pins s1 σ H1 _ I1 q1) fun iv s2 ⟨y,H2,I2,r2,q2⟩=>?_))
 refine wpAny_bind (wpAny_standAt (wpAny_bind (wpAny_holding (thn (hs pins s2 σ H2 x y v ov iv u _ I2 r1 r2 r q2) fun _ s3 ⟨H3,I3,q3⟩=>?_))))
 exact wpAny_release ⟨σ,H3,I3,q3⟩
noncomputable def tAsg (te:TE)(g:TG):TS:=fun D σ H=>te σ H fun x H1=>g x σ H1 D.nx
theorem ps_asg {tg e:Expr}{te:TE}{g:TG}(he:PE X e te)(hg:PG X tg g)(hs:swapsWithSole [tg] e pos.line X.env=pure false:=by rfl)(hw:swappedStores [tg] e X.env=pure none:=by rfl)
  (h1:(assignEach [tg] X.env).map (·.2) = [assign tg X.env]:=by rfl):PS X (.Assign [tg] e pos) (tAsg te g):=by
 intro pins s σ H D I h
 refine wpAny_Assign_stores (thn (he pins s σ H _ I h) fun v s1 ⟨x,H1,I1,r1,q1⟩=>?_) hs hw
 rw[h1]
 exact thn (hg pins s1 σ H1 x v _ I1 r1 q1) fun _ s2 q=>q
theorem ps_set {i:Nat}{x:Str}{e:Expr}{te:TE}{pos':Pos}(hN:X.N.Nodup)(hi:X.N[i]? = some x)(hx:Loc X.env.scope x)(he:PE X e te)(hs:swapsWith e (some (.Name x pos')) pos.line X.env=pure false:=by rfl)(hf:X.fn x=true∨X.env.scope.names.lookup x=some .local:=by first |exact .inl rfl |exact .inr rfl |assumption) :
  PS X (.Assign [.Name x pos'] e pos) (tAsg te (gName i)):=by
 intro pins s σ H D I h
 refine wpAny_Assign_Name (thn (he pins s σ H _ I h) fun v s1 ⟨y,H1,I1,r1,q1⟩=>?_) hs
 exact store_ok I1 hN hi hx r1 (fun s2 I2=>⟨_,H1,I2,q1⟩) hf
end
section
variable {X:Cx}{pos:Pos}
end
structure It where
 go:Nat→Hp→Prop
 yld:Nat→Hp→V→Hp→Prop
 stop:Nat→Hp→Prop
noncomputable def FpOk (X:Cx)(pins:List (Addr×Obj))(H:Hp)(b:Addr):Prop :=
 H b=none∧b≠X.env.locals∧b∉X.fs∧(b∈X.ex∨X.s₀.heap.objs.size≤b)∧(∀x c,X.env.cells.lookup x=some c→c≠b)∧∀p∈X.pn ++ pins,p.1≠b
theorem Inv.fpOk {X:Cx}{pins:List (Addr×Obj)}{σ:St}{H H':Hp}{s:Shared}{b:Addr}(I:Inv X pins σ H s)(hb:s.heap.objs.size≤b)(hn:H' b=none):FpOk X pins H' b:=by
 refine⟨hn,Nat.ne_of_gt (Nat.lt_of_lt_of_le I.lt hb),I.nofs hb,.inr (Nat.le_trans I.sz hb),fun x c e z=>?_,fun p hp z=>?_⟩
 ·obtain⟨v,q⟩:=I.cell x c e
  exact absurd (Nat.lt_of_lt_of_le q.lt (by rw[z];exact hb)) (Nat.lt_irrefl _)
 ·exact absurd (Nat.lt_of_lt_of_le (Heap.lt_size (I.pin p hp).1) (by rw[z];exact hb)) (Nat.lt_irrefl _)
structure Turn (P:Program) (w:World) (K:PySem.W.Frag) (tg:Expr) (J:It) (fp:List Addr) (it:Addr) (tn:Nat→Heap→Prop):Prop where
 mem:it∈fp
 obj:∀i h,tn i h→∀b∈fp,∃o,h.get? b=some o∧∀v,o.data ≠ .cell v
 keep:∀i h h',tn i h→(∀b∈fp,∀o,h.get? b=some o→h'.get? b=some o)→tn i h'
 item:∀(X:Cx),X.prog=P→X.w=w→X.K=K→X.calm=true→∀(i:Nat) (pins:List (Addr×Obj)) (s:Shared) (σ:St) (H:Hp) (E:Value→Shared→Prop),Inv X pins σ H s→(∀b∈fp,FpOk X pins H b)→tn i s.heap→J.go i H →
  wpAny (model P w) X.A (pyNext (.ref it)) (fun r s1=>∃u,r=some u ∧
   wpAny (model P w) X.A (letOwnedTupleGo tg (.ref it) u) (fun _ s2=>∃x H',Inv X pins σ H' s2∧RelV x u∧J.yld i H x H'∧tn (i+1) s2.heap∧∀b∈fp,H' b=none) E s1) E s
 done:∀(X:Cx),X.prog=P→X.w=w→X.K=K→X.calm=true→∀(i:Nat) (pins:List (Addr×Obj)) (s:Shared) (σ:St) (H:Hp) (E:Value→Shared→Prop),Inv X pins σ H s→(∀b∈fp,FpOk X pins H b)→tn i s.heap→J.stop i H →
  wpAny (model P w) X.A (pyNext (.ref it)) (fun r s1=>r=none∧Inv X pins σ H s1) E s
 self:∀(A:Around) (i:Nat) (s:Shared) (Q:Value→Shared→Prop) (E:Value→Shared→Prop),tn i s.heap→Q (.ref it) s→wpAny (model P w) A (pyIter (.ref it)) Q E s
noncomputable abbrev TI:=St→Hp→(It→Hp→Prop)→Prop
noncomputable def PIE (X:Cx)(pins:List (Addr×Obj)) (σ:St)(tg:Expr)(R:It→Hp→Prop)(itv:Value)(s2:Shared):Prop :=
 ∃(it:Addr) (fp:List Addr) (tn:Nat→Heap→Prop) (J:It) (H':Hp),itv = .ref it∧Inv X pins σ H' s2∧Turn X.prog X.w X.K tg J fp it tn∧tn 0 s2.heap∧(∀b∈fp,FpOk X pins H' b)∧R J H'
noncomputable def PI (X:Cx)(tg iter:Expr)(wi:TI):Prop :=
 ∀(pins:List (Addr×Obj)) (s:Shared) (σ:St) (H:Hp) (R:It→Hp→Prop),Inv X pins σ H s→wi σ H R →
  wpAny (model X.prog X.w) X.A (eval iter X.env) (fun v s1=>wpAny (model X.prog X.w) X.A (pyIter v) (PIE X pins σ tg R) X.xe s1) X.xe s
theorem go_of {M:Model}{A:Around}{E:Value→Shared→Prop}{s:Shared}{tg:Expr}{it:Addr}{u:Value}{o:Obj}{n:String}{vs:Array Value}{Q:Unit→Shared→Prop}(ho:s.heap.get? it=some o)(hc:o.cls = .type n)(hd:o.data = .fields vs)
    (hn:["enumerate","zip","dict_itemiterator","dict_reverseitemiterator","odict_iterator","itertools.zip_longest","itertools.pairwise"].contains n=false) (hQ:Q () s):wpAny M A (letOwnedTupleGo tg (.ref it) u) Q E s:=by
  unfold letOwnedTupleGo
  cases tg <;> first
    | exact wpAny_pure hQ
    | (cases u <;> first
        | exact wpAny_pure hQ
        | (refine wpAny_bind (wpAny_load ho ?_)
           rw[hc,hd]
           show wpAny M A (if (["enumerate","zip","dict_itemiterator","dict_reverseitemiterator","odict_iterator","itertools.zip_longest","itertools.pairwise"].contains n && vs[0]? == some (rawInt _))=true then _ else _) Q E s
           rw[if_neg (by intro h;rw[hn,Bool.false_and]at h;cases h)]
           exact wpAny_pure hQ))
noncomputable def Itl (K:PySem.W.Frag)(a:Addr):It :=
 ⟨fun i H=>∃xs x,SqL K H a xs∧xs[i]? = some x,fun i H x H'=>H'=H∧∀xs,SqL K H a xs→xs[i]? = some x,fun i H=>∃xs,SqL K H a xs∧xs.length≤i⟩
noncomputable def Itt (K:PySem.W.Frag)(a:Addr):It :=
 ⟨fun i H=>∃xs x,SqT K H a xs∧xs[i]? = some x,fun i H x H'=>H'=H∧∀xs,SqT K H a xs→xs[i]? = some x,fun i H=>∃xs,SqT K H a xs∧xs.length≤i⟩
noncomputable def Itr (lo:Int)(n:Nat):It:=⟨fun i _=>i<n,fun i H x H'=>H'=H∧x = .int (lo+i),fun i _=>n≤i⟩
theorem turn_list {P:Program}{w:World}{K:PySem.W.Frag}{tg:Expr}(a it:Addr):Turn P w K tg (Itl K a) [it] it (fun i h=>h.IsListIter it a i) where
 mem:=by simp
 obj:=fun i h st b hb=>by
  have e:b=it:=by simpa using hb
  subst e
  obtain⟨o,e,c,d⟩:=st
  exact⟨o,e,fun v z=>by rw[d]at z;cases z⟩
 keep:=fun i h h' st k=>st.at fun o e=>k it (by simp) o e
 item:=by
  intro X hP hw hK hc i pins s σ H E I hf st hg
  subst hP hw hK
  obtain⟨xs,x,hq,hx⟩:=hg
  obtain⟨its,rv,p,hz⟩:=I.list hq
  obtain⟨u,hu,ru⟩:=rv.get hx
  obtain⟨f0,f1,f2,f3,f4,f5⟩:=hf it (by simp)
  refine wpAny_pyNext_list_item st p.isList (x:=u) (by simpa using hu) fun h' st' sb=>?_
  have I1:Inv X pins σ H { s with heap:=h' }:=I.turned (t':=s.toks) (fun b o hb e=>(sb.2 b hb).trans e) f0 f1 f3 f4 f5
  obtain⟨o,e,c,d⟩:=id st'
  exact⟨u,rfl,go_of (s:={ s with heap:=h' }) e c d (by decide) ⟨x,H,I1,ru,⟨rfl,fun ys hy=>by rw[I.list_inj hy hq];exact hx⟩,st',fun b hb=>(hf b hb).1⟩⟩
 done:=by
  intro X hP hw hK hc i pins s σ H E I hf st hg
  subst hP hw hK
  obtain⟨xs,hq,hx⟩:=hg
  obtain⟨its,rv,p,hz⟩:=I.list hq
  obtain⟨f0,f1,f2,f3,f4,f5⟩:=hf it (by simp)
  have hl:=rv.length
  exact wpAny_pyNext_list_end (I.ok.hd hc) st p.isList (by simp;omega) fun h' eb=>⟨rfl,I.turned (t':=s.toks) (fun b o hb e=>eb b o hb e) f0 f1 f3 f4 f5⟩
 self:=fun _ _ _ _ _ st h=>wpAny_pyIter_listiter st h
theorem turn_tuple {P:Program}{w:World}{K:PySem.W.Frag}{tg:Expr}(a it:Addr):Turn P w K tg (Itt K a) [it] it (fun i h=>h.IsTupleIter it a i) where
 mem:=by simp
 obj:=fun i h st b hb=>by
  have e:b=it:=by simpa using hb
  subst e
  obtain⟨o,e,c,d⟩:=st
  exact⟨o,e,fun v z=>by rw[d]at z;cases z⟩
 keep:=fun i h h' st k=>st.at fun o e=>k it (by simp) o e
 item:=by
  intro X hP hw hK hc i pins s σ H E I hf st hg
  subst hP hw hK
  obtain⟨xs,x,hq,hx⟩:=hg
  obtain⟨its,rv,p,hz⟩:=I.tuple hq
  obtain⟨u,hu,ru⟩:=rv.get hx
  obtain⟨f0,f1,f2,f3,f4,f5⟩:=hf it (by simp)
  refine wpAny_pyNext_tuple_item st (show s.heap.IsTuple a its.toArray from p) (x:=u) (by simpa using hu) fun h' st' sb=>?_
  have I1:Inv X pins σ H { s with heap:=h' }:=I.turned (t':=s.toks) (fun b o hb e=>(sb.2 b hb).trans e) f0 f1 f3 f4 f5
  obtain⟨o,e,c,d⟩:=id st'
  exact⟨u,rfl,go_of (s:={ s with heap:=h' }) e c d (by decide) ⟨x,H,I1,ru,⟨rfl,fun ys hy=>by rw[I.tuple_inj hy hq];exact hx⟩,st',fun b hb=>(hf b hb).1⟩⟩
 done:=by
  intro X hP hw hK hc i pins s σ H E I hf st hg
  subst hP hw hK
  obtain⟨xs,hq,hx⟩:=hg
  obtain⟨its,rv,p,hz⟩:=I.tuple hq
  obtain⟨f0,f1,f2,f3,f4,f5⟩:=hf it (by simp)
  have hl:=rv.length
  exact wpAny_pyNext_tuple_end (I.ok.hd hc) st (show s.heap.IsTuple a its.toArray from p) (by simp;omega) fun h' eb=>⟨rfl,I.turned (t':=s.toks) (fun b o hb e=>eb b o hb e) f0 f1 f3 f4 f5⟩
 self:=fun _ _ _ _ _ st h=>wpAny_pyIter_tupleiter st h
theorem turn_range {P:Program}{w:World}{K:PySem.W.Frag}{tg:Expr}(it:Addr)(lo:Int)(n:Nat):Turn P w K tg (Itr lo n) [it] it (fun i h=>IsRangeIter h it (lo+(i:Nat) * 1) ((n:Int) - (i:Nat)) 1) where
 mem:=by simp
 obj := fun i h st b hb=>by
  have e:b=it:=by simpa using hb
  subst e
  exact⟨_,st,fun v z=>by
   have z':Data.fields _=Data.cell v:=z
   cases z'⟩
 keep:=fun i h h' st k=>k it (by simp) _ st
 item:=by
  intro X hP hw hK hc i pins s σ H E I hf st hg
  subst hP hw hK
  obtain⟨f0,f1,f2,f3,f4,f5⟩:=hf it (by simp)
  have W:=Walks.range (prog:=X.prog) (w:=X.w) (I.ok.hd hc) it lo 1 n
  refine W.item i s _ _ hg st fun v h' tk hv st' kk=>?_
  obtain⟨t,rfl⟩:=hv
  have I1:Inv X pins σ H { s with heap:=h',toks:=tk }:=I.turned (fun b o hb e=>kk b o (by simpa using hb) e) f0 f1 f3 f4 f5
  refine⟨_,rfl,go_of (s:={ s with heap:=h',toks:=tk }) (n:="range_iterator") st' rfl rfl (by decide) ⟨.int (lo+i),H,I1,⟨t,?_⟩,⟨rfl,rfl⟩,st',fun b hb=>(hf b hb).1⟩⟩
  rw[Int.mul_one]
 done:=by
  intro X hP hw hK hc i pins s σ H E I hf st hg
  subst hP hw hK
  obtain⟨f0,f1,f2,f3,f4,f5⟩:=hf it (by simp)
  exact wpAny_pyNext_range_end (I.ok.hd hc) st (by have:n≤i:=hg;omega) fun h' eb=>⟨rfl,I.turned (t':=s.toks) (fun b o hb e=>eb b o hb e) f0 f1 f3 f4 f5⟩
 self:=fun _ _ _ _ _ st h=>wpAny_pyIter_rangeiter st h
section
variable {X:Cx}{tg:Expr}
noncomputable def iList (K:PySem.W.Frag)(tl:TE):TI:=fun σ H R=>tl σ H fun x H1=>∃a,x = .ref a∧(∃xs,SqL K H1 a xs)∧R (Itl K a) H1
noncomputable def iTup (K:PySem.W.Frag)(tl:TE):TI:=fun σ H R=>tl σ H fun x H1=>∃a,x = .ref a∧(∃xs,SqT K H1 a xs)∧R (Itt K a) H1
theorem pi_list {l:Expr}{tl:TE}(hl:PE X l tl):PI X tg l (iList X.K tl):=by
 intro pins s σ H R I h
 refine thn (hl pins s σ H _ I h) fun v s1 ⟨x,H1,I1,r1,q1⟩=>?_
 obtain⟨a,e,⟨xs,hq⟩,q⟩:=q1
 subst e
 cases r1
 obtain⟨its,rv,p,hz⟩:=I1.list hq
 refine wpAny_pyIter_list p.isList ?_
 refine⟨s1.heap.objs.size,[s1.heap.objs.size],_,_,H1,rfl,I1.kept (t':=s1.toks) fun b o e=>Heap.get?_push_of_some _ e,turn_list a _,⟨_,Heap.get?_push_size _ rfl,rfl,rfl⟩,fun b hb=>?_,q⟩
 have e:b=s1.heap.objs.size:=by simpa using hb
 subst e
 exact I1.fpOk (Nat.le_refl _) (I1.hok.fresh (Nat.le_refl _))
theorem pi_tup {l:Expr}{tl:TE}(hl:PE X l tl):PI X tg l (iTup X.K tl):=by
 intro pins s σ H R I h
 refine thn (hl pins s σ H _ I h) fun v s1 ⟨x,H1,I1,r1,q1⟩=>?_
 obtain⟨a,e,⟨xs,hq⟩,q⟩:=q1
 subst e
 cases r1
 obtain⟨its,rv,p,hz⟩:=I1.tuple hq
 refine wpAny_pyIter_tuple (show s1.heap.IsTuple a its.toArray from p) ?_
 refine⟨s1.heap.objs.size,[s1.heap.objs.size],_,_,H1,rfl,I1.kept (t':=s1.toks) fun b o e=>Heap.get?_push_of_some _ e,turn_tuple a _,⟨_,Heap.get?_push_size _ rfl,rfl,rfl⟩,fun b hb=>?_,q⟩
 have e:b=s1.heap.objs.size:=by simpa using hb
 subst e
 exact I1.fpOk (Nat.le_refl _) (I1.hok.fresh (Nat.le_refl _))
theorem range_it {pins:List (Addr×Obj)}{σ:St}{H:Hp}{s:Shared}{R:It→Hp→Prop}{E:Value→Shared→Prop}{lo hi:Int}{t u v:Tok}{tk:Nat}(I:Inv X pins σ H s)(h1:-(2 ^ 62)≤lo)(h2:lo<2 ^ 62)(h3:-(2 ^ 62)≤hi)(h4:hi<2 ^ 62)
  (q:R (Itr lo (hi - lo).toNat) H):wpAny (model X.prog X.w) X.A (pyIter (.ref s.heap.objs.size)) (PIE X pins σ tg R) E { s with heap:=s.heap.push { cls:=.type "range",data:=.fields #[.int lo t,.int hi u,.int 1 v] },toks:=tk }:=by
 refine wpAny_pyIter_range (IsRange.new ..) (small_one h1 h2 h3 h4) ?_
 have I1:Inv X pins σ H { s with heap:=s.heap.push { cls:=.type "range",data:=.fields #[.int lo t,.int hi u,.int 1 v] },toks:=tk }:=I.kept fun b o e=>Heap.get?_push_of_some _ e
 refine⟨(s.heap.push { cls:=.type "range",data:=.fields #[.int lo t,.int hi u,.int 1 v] }).objs.size,[(s.heap.push { cls:=.type "range",data:=.fields #[.int lo t,.int hi u,.int 1 v] }).objs.size],_,_,H,rfl,
  I1.kept (t':=tk) fun b o e=>Heap.get?_push_of_some _ e,turn_range _ lo (hi - lo).toNat,?_,fun b hb=>?_,q⟩
 ·have e1:lo+((0:Nat):Int) * 1=lo:=by simp
  have e2:(((hi - lo).toNat:Nat):Int) - ((0:Nat):Int)=Builtin.Range.rangeSize lo hi 1:=by rw[rangeSize_one];split <;> omega
  show IsRangeIter _ _ (lo+((0:Nat):Int) * 1) ((((hi - lo).toNat:Nat):Int) - ((0:Nat):Int)) 1
  rw[e1,e2]
  exact Heap.get?_push_size _ rfl
 ·have e:b=(s.heap.push { cls:=.type "range",data:=.fields #[.int lo t,.int hi u,.int 1 v] }).objs.size:=by simpa using hb
  subst e
  exact I1.fpOk (Nat.le_refl _) (I1.hok.fresh (Nat.le_refl _))
noncomputable def iRng1 (ta:TA):TI:=fun σ H R=>ta σ H fun vs H1=>∃j:Int,vs = [.int j]∧-(2 ^ 62)≤j∧j<2 ^ 62∧R (Itr 0 j.toNat) H1
noncomputable def iRng2 (ta:TA):TI:=fun σ H R=>ta σ H fun vs H1=>∃i j:Int,vs = [.int i,.int j]∧(-(2 ^ 62)≤i∧i<2 ^ 62∧-(2 ^ 62)≤j∧j<2 ^ 62)∧R (Itr i (j - i).toNat) H1
theorem pi_range1 {a:Expr}{ta:TA}{p pos:Pos}(hg:Gl X "range")(hm:X.mg "range" = none)(ha:PA X [a] ta)(hs:starEach [a] X.env = [(false,eval a X.env)]:=by rfl):PI X tg (.Call (.Name "range" p) [a] [] pos) (iRng1 ta):=by
 intro pins s σ H R I h
 refine Call_ (ld_blt I hg hm boot_range (PyProof.Rows.callWith_type1 (thn (ha pos pins s σ H _ I h) fun us s1 ⟨vs,H1,I1,r1,q1⟩=>?_) hs rfl))
 obtain⟨j,e,q1,q2,q⟩:=q1
 subst e
 cases r1 with
 | cons r rr =>
  cases rr
  obtain⟨t,rfl⟩:=r
  exact call_range_1 (range_it I1 (by omega) (by omega) q1 q2 (by simpa using q))
theorem pi_range2 {a b:Expr}{ta:TA}{p pos:Pos}(hg:Gl X "range")(hm:X.mg "range" = none)(ha:PA X [a,b] ta)(hs:starEach [a,b] X.env = [(false,eval a X.env),(false,eval b X.env)]:=by rfl)(hs2:starEach [b] X.env = [(false,eval b X.env)]:=by rfl) :
  PI X tg (.Call (.Name "range" p) [a,b] [] pos) (iRng2 ta):=by
 intro pins s σ H R I h
 refine Call_ (ld_blt I hg hm boot_range (PyProof.Rows.callWith_type1 (thn (ha pos pins s σ H _ I h) fun us s1 ⟨vs,H1,I1,r1,q1⟩=>?_) (by rw[hs,hs2]) (by rw[hs2];rfl)))
 obtain⟨i,j,e,⟨q1,q2,q3,q4⟩,q⟩:=q1
 subst e
 cases r1 with
 | cons r rr =>
  cases rr with
  | cons r' rr =>
   cases rr
   obtain⟨t,rfl⟩:=r
   obtain⟨t',rfl⟩:=r'
   exact call_range_2 (range_it I1 q1 q2 q3 q4 q)
noncomputable def tFor (wi:TI)(g:TG)(tb:TS):TS:=fun D σ H=>wi σ H fun J H1=>∃W:Nat→Nat→St→Hp→Prop,(∃m,W 0 m σ H1)∧∀i m σ H,W i m σ H →
 (J.stop i H∧D.nx σ H)∨(J.go i H∧∃N:St→Hp→Prop,(∀ σ' H',N σ' H'→∃m',m'<m∧W (i+1) m' σ' H')∧∀x H',J.yld i H x H'→g x σ H' fun σ2 H2=>tb { D with nx:=N,ct:=N,bk:=D.nx } σ2 H2)
noncomputable def pinsAt (fp:List Addr)(h:Heap):List (Addr×Obj):=fp.filterMap fun b=>(h.get? b).map fun o=>(b,o)
theorem mem_pinsAt {fp:List Addr}{h:Heap}{b:Addr}{o:Obj}(hb:b∈fp)(e:h.get? b=some o):(b,o)∈pinsAt fp h:=List.mem_filterMap.mpr ⟨b,hb,by rw[e];rfl⟩
theorem of_pinsAt {fp:List Addr}{h:Heap}{p:Addr×Obj}(hp:p∈pinsAt fp h):p.1∈fp∧h.get? p.1=some p.2:=by
 obtain⟨b,hb,e⟩:=List.mem_filterMap.mp hp
 cases q:h.get? b with
 | none=>rw[q]at e;cases e
 | some o =>
  rw[q]at e
  have e':(b,o)=p:=Option.some.inj e
  subst e'
  exact⟨hb,q⟩
theorem Inv.pinned {pins:List (Addr×Obj)}{σ:St}{H:Hp}{s:Shared}{fp:List Addr}(I:Inv X pins σ H s)(hf:∀b∈fp,FpOk X pins H b)(ho:∀b∈fp,∃o,s.heap.get? b=some o∧∀v,o.data ≠ .cell v):Inv X (pins ++ pinsAt fp s.heap) σ H s :=
 I.pins_of fun p hp=>(List.mem_append.mp hp).elim (fun z=>I.pin p (List.mem_append_right _ z)) fun z=>by
  obtain⟨hb,e⟩:=of_pinsAt z
  obtain⟨f0,f1,f2,_⟩:=hf p.1 hb
  obtain⟨o,e',d⟩:=ho p.1 hb
  rw[e]at e';cases e'
  exact⟨e,f0,f1,f2,d⟩
theorem Inv.unpinned {pins pl:List (Addr×Obj)}{σ:St}{H:Hp}{s:Shared}(I:Inv X (pins ++ pl) σ H s):Inv X pins σ H s:=I.pins_of fun p hp=>I.pin p (List.mem_append_right _ (List.mem_append_left _ hp))
theorem ps_for {iter:Expr}{body:List Stmt}{wi:TI}{g:TG}{tb:TS}{pos:Pos}(hp:PassesOwn (model X.prog X.w) X.A X.env X.xe)(hc:X.calm=true)(hi:PI X tg iter wi)(hg:PG X tg g)(hb:PSs X body tb)
  (hs:∀x,foldedSetIterable iter X.env x=pure x:=by intro _;rfl):PS X (.For tg iter body [] pos) (tFor wi g tb):=by
 intro pins s σ H D I h
 refine wpAny_For (thn (hi pins s σ H _ I h) fun v s1 h1=>thn h1 fun itv s2 h2=>?_) hs
 obtain⟨it,fp,tn,J,H2,e,I2,T,st2,f2,W,⟨m0,w0⟩,turn⟩:=h2
 subst e
 -- what stays true of the iterator's objects through the loop
 have stat:∀ {H':Hp},(∀b∈fp,H' b=none)→∀b∈fp,FpOk X pins H' b:=fun hn b hb=>⟨hn b hb,(f2 b hb).2⟩
 refine codeAny_forLoop_any (fun n s'=>∃i σ' H',Inv X pins σ' H' s'∧tn i s'.heap∧(∀b∈fp,H' b=none)∧W i n σ' H') ?_ m0 ⟨0,σ,H2,I2,st2,fun b hb=>(f2 b hb).1,w0⟩
 rintro n s3 ⟨i,σ3,H3,I3,st3,fr3,w3⟩
 rcases turn i n σ3 H3 w3 with ⟨stop,qn⟩ | ⟨go,N,hN,step⟩
 ·refine wpAny_passesOwn hp (thn (T.done X rfl rfl rfl hc i pins s3 σ3 H3 X.xe I3 (stat fr3) st3 stop) fun r s4 ⟨hr,I4⟩=>?_)
  subst hr
  exact wpAny_execs_nil ⟨σ3,H3,I4,qn⟩
 ·refine wpAny_passesOwn hp (thn (T.item X rfl rfl rfl hc i pins s3 σ3 H3 X.xe I3 (stat fr3) st3 go) fun r s4 ⟨u,hr,h4⟩=>?_)
  subst hr
  refine wpAny_passesOwn hp (thn h4 fun _ s5 ⟨x,H5,I5,r5,y5,st5,fr5⟩=>?_)
  have I5':=I5.pinned (stat fr5) (T.obj _ _ st5)
  refine wpAny_passesOwn hp (thn (hg _ s5 σ3 H5 x u _ I5' r5 (step x H5 y5)) fun _ s6 ⟨σ6,H6,I6,q6⟩=>?_)
  refine wpAny_passesOwn hp (thn (hb _ s6 σ6 H6 _ I6 q6) fun f s7 q7=>?_)
  have again:∀ {σ7:St}{H7:Hp},Inv X (pins ++ pinsAt fp s5.heap) σ7 H7 s7→N σ7 H7→∃m,m<n∧∃i σ' H',Inv X pins σ' H' s7∧tn i s7.heap∧(∀b∈fp,H' b=none)∧W i m σ' H':=fun {σ7 H7} I7 n7=>by
   obtain⟨m',hm,w7⟩:=hN σ7 H7 n7
   refine⟨m',hm,i+1,σ7,H7,I7.unpinned,T.keep _ _ _ st5 fun b hb o e=>(I7.pin (b,o) (List.mem_append_right _ (List.mem_append_right _ (mem_pinsAt hb e)))).1,fun b hb=>?_,w7⟩
   obtain⟨o,e,d⟩:=T.obj _ _ st5 b hb
   exact(I7.pin (b,o) (List.mem_append_right _ (List.mem_append_right _ (mem_pinsAt hb e)))).2.1
  cases f with
  | next=>obtain⟨σ7,H7,I7,n7⟩:=q7;exact again I7 n7
  | cont=>obtain⟨σ7,H7,I7,n7⟩:=q7;exact again I7 n7
  | brk=>obtain⟨σ7,H7,I7,q7⟩:=q7;exact⟨σ7,H7,I7.unpinned,q7⟩
  | ret v=>obtain⟨x7,σ7,H7,I7,r7,q7⟩:=q7;exact⟨x7,σ7,H7,I7.unpinned,r7,q7⟩
end
theorem for_tup {K:PySem.W.Frag}{a:Addr}{xs:List V}{g:TG}{tb:TS}{D:Ends}{σ:St}{H:Hp}(Pv:Nat→St→Hp→Prop)(h0:Pv 0 σ H)(hl:∀i σ H,i≤xs.length→Pv i σ H→SqT K H a xs)
  (hs:∀i x σ H,xs[i]? = some x→Pv i σ H→g x σ H fun σ2 H2=>tb { D with nx:=Pv (i+1),ct:=Pv (i+1),bk:=D.nx } σ2 H2) (hd:∀ σ H,Pv xs.length σ H→D.nx σ H) :
  ∃W:Nat→Nat→St→Hp→Prop,(∃m,W 0 m σ H)∧∀i m σ H,W i m σ H →
   ((Itt K a).stop i H∧D.nx σ H)∨((Itt K a).go i H∧∃N:St→Hp→Prop,(∀ σ' H',N σ' H'→∃m',m'<m∧W (i+1) m' σ' H')∧∀x H',(Itt K a).yld i H x H'→g x σ H' fun σ2 H2=>tb { D with nx:=N,ct:=N,bk:=D.nx } σ2 H2):=by
 refine⟨fun i m σ H=>m=xs.length - i∧i≤xs.length∧Pv i σ H,⟨xs.length,by simp,Nat.zero_le _,h0⟩,?_⟩
 rintro i m σ H ⟨rfl,hi,p⟩
 have q:=hl i σ H hi p
 by_cases hlt:i<xs.length
 ·refine .inr ⟨⟨xs,xs[i],q,by simp[hlt]⟩,Pv (i+1),fun σ' H' p'=>⟨xs.length - (i+1),by omega,rfl,hlt,p'⟩,fun x H' y=>?_⟩
  obtain⟨e,y⟩:=y
  subst e
  exact hs i x σ _ (y xs q) p
 ·have e:i=xs.length:=by omega
  subst e
  exact .inl ⟨⟨xs,q,Nat.le_refl _⟩,hd σ H p⟩
theorem for_range {lo:Int}{n:Nat}{g:TG}{tb:TS}{D:Ends}{σ:St}{H:Hp}(Pv:Nat→St→Hp→Prop)(h0:Pv 0 σ H)
  (hs:∀i σ H,i<n→Pv i σ H→g (.int (lo+i)) σ H fun σ2 H2=>tb { D with nx:=Pv (i+1),ct:=Pv (i+1),bk:=D.nx } σ2 H2) (hd:∀ σ H,Pv n σ H→D.nx σ H) :
  ∃W:Nat→Nat→St→Hp→Prop,(∃m,W 0 m σ H)∧∀i m σ H,W i m σ H →
   ((Itr lo n).stop i H∧D.nx σ H)∨((Itr lo n).go i H∧∃N:St→Hp→Prop,(∀ σ' H',N σ' H'→∃m',m'<m∧W (i+1) m' σ' H')∧∀x H',(Itr lo n).yld i H x H'→g x σ H' fun σ2 H2=>tb { D with nx:=N,ct:=N,bk:=D.nx } σ2 H2):=by
 refine⟨fun i m σ H=>m=n - i∧i≤n∧Pv i σ H,⟨n,by simp,Nat.zero_le _,h0⟩,?_⟩
 rintro i m σ H ⟨rfl,hi,p⟩
 by_cases hlt:i<n
 ·refine .inr ⟨hlt,Pv (i+1),fun σ' H' p'=>⟨n - (i+1),by omega,rfl,hlt,p'⟩,fun x H' y=>?_⟩
  obtain⟨e,y⟩:=y
  subst e y
  exact hs i σ _ hlt p
 ·have e:i=n:=by omega
  subst e
  exact .inl ⟨Nat.le_refl _,hd σ H p⟩
noncomputable abbrev R2:=V→V→Hp→VK→Prop
noncomputable def OpR (X:Cx)(f:Value→Value→Sem Value)(r:R2):Prop :=
 ∀(pins:List (Addr×Obj)) (s:Shared) (σ:St) (H:Hp) (x y:V) (v u:Value) (Q:VK),Inv X pins σ H s→RelV x v→RelV y u→r x y H Q →
  wpAny (model X.prog X.w) X.A (f v u) (EP X pins σ Q) X.xe s
noncomputable def UnR (X:Cx)(f:Value→Sem Value)(r:V→Hp→VK→Prop):Prop :=
 ∀(pins:List (Addr×Obj)) (s:Shared) (σ:St) (H:Hp) (x:V) (v:Value) (Q:VK),Inv X pins σ H s→RelV x v→r x H Q →
  wpAny (model X.prog X.w) X.A (f v) (EP X pins σ Q) X.xe s
noncomputable def CallR (X:Cx)(f:Value)(r:List V→Hp→VK→Prop):Prop :=
 ∀(pins:List (Addr×Obj)) (s:Shared) (σ:St) (H:Hp) (xs:List V) (us:List Value) (Q:VK),Inv X pins σ H s→Vals xs us→r xs H Q →
  wpAny (model X.prog X.w) X.A (call f us) (EP X pins σ Q) X.xe s
noncomputable def tOp (r:R2)(ta tb:TE):TE:=fun σ H Q=>ta σ H fun x H1=>tb σ H1 fun y H2=>r x y H2 Q
noncomputable def tUn (r:V→Hp→VK→Prop)(ta:TE):TE:=fun σ H Q=>ta σ H fun x H1=>r x H1 Q
noncomputable def rI (C:Int→Int→Prop)(g:Int→Int→V):R2:=fun x y H Q=>∃i j,x = .int i∧y = .int j∧C i j∧Q (g i j) H
noncomputable def rI0 (g:Int→Int→V):R2:=fun x y H Q=>∃i j,x = .int i∧y = .int j∧Q (g i j) H
noncomputable def rU (g:Int→V):V→Hp→VK→Prop:=fun x H Q=>∃i,x = .int i∧Q (g i) H
section
variable {X:Cx}{a b c:Expr}{ta tb tc:TE}{pos:Pos}
theorem binT (ha:PE X a ta)(hb:PE X b tb) {pins:List (Addr×Obj)}{s:Shared}{σ:St}{H:Hp}{R:V→V→Hp→Prop}(I:Inv X pins σ H s)
  (h:ta σ H fun x H1=>tb σ H1 fun y H2=>R x y H2) {Q:Value→Shared→Prop}{f:Value→Value→Sem Value}
  (hf:∀v u s2 x y H2,Inv X pins σ H2 s2→RelV x v→RelV y u→R x y H2→wpAny (model X.prog X.w) X.A (f v u) Q X.xe s2) :
  wpAny (model X.prog X.w) X.A (eval a X.env) (fun v s₁=>wpAny (model X.prog X.w) X.A (eval b X.env) (fun u s₂=>wpAny (model X.prog X.w) X.A (f v u) Q X.xe s₂) X.xe s₁) X.xe s:=by
 refine thn (ha pins s σ H _ I h) fun v s1 ⟨x,H1,I1,r1,q1⟩=>?_
 refine thn (hb pins s1 σ H1 _ I1 q1) fun u s2 ⟨y,H2,I2,r2,q2⟩=>?_
 exact hf v u s2 x y H2 I2 r1 r2 q2
theorem pe_op {op:Operator}{r:R2}(ho:OpR X (binaryOp op) r)(ha:PE X a ta)(hb:PE X b tb):PE X (.BinOp a op b pos) (tOp r ta tb):=by
 intro pins s σ H Q I h
 exact wpAny_BinOp (binT ha hb I h fun v u s2 x y H2 I2 rx ry q=>ho pins s2 σ H2 x y v u Q I2 rx ry q)
theorem pe_un {op:UnaryOp}{r:V→Hp→VK→Prop}(ho:UnR X (unaryOp op) r)(ha:PE X a ta):PE X (.UnaryOp op a pos) (tUn r ta):=by
 intro pins s σ H Q I h
 exact UnaryOp_ (thn (ha pins s σ H _ I h) fun v s1 ⟨x,H1,I1,r1,q1⟩=>ho pins s1 σ H1 x v Q I1 r1 q1)
theorem opI {f:Value→Value→Sem Value}{C:Int→Int→Prop}{g:Int→Int→Int}
  (rule:∀(i j:Int) (t u:Tok) (s:Shared) (Q:Value→Shared→Prop) (E:Value→Shared→Prop),C i j→Q (.int (g i j) s.toks) { s with toks:=s.toks+1 }→wpAny (model X.prog X.w) X.A (f (.int i t) (.int j u)) Q E s) :
  OpR X f (rI C fun i j=>.int (g i j)):=by
 intro pins s σ H x y v u Q I rx ry h
 obtain⟨i,j,rfl,rfl,hc,q⟩:=h
 obtain⟨t,rfl⟩:=rx
 obtain⟨t',rfl⟩:=ry
 exact rule i j t t' s _ _ hc ⟨.int (g i j),H,I.tok _,⟨_,rfl⟩,q⟩
theorem opI0 {f:Value→Value→Sem Value}{g:Int→Int→Int}
  (rule:∀(i j:Int) (t u:Tok) (s:Shared) (Q:Value→Shared→Prop) (E:Value→Shared→Prop),Q (.int (g i j) s.toks) { s with toks:=s.toks+1 }→wpAny (model X.prog X.w) X.A (f (.int i t) (.int j u)) Q E s) :
  OpR X f (rI0 fun i j=>.int (g i j)):=by
 intro pins s σ H x y v u Q I rx ry h
 obtain⟨i,j,rfl,rfl,q⟩:=h
 obtain⟨t,rfl⟩:=rx
 obtain⟨t',rfl⟩:=ry
 exact rule i j t t' s _ _ ⟨.int (g i j),H,I.tok _,⟨_,rfl⟩,q⟩
theorem opB0 {f:Value→Value→Sem Value}{g:Int→Int→Bool}
  (rule:∀(i j:Int) (t u:Tok) (s:Shared) (Q:Value→Shared→Prop) (E:Value→Shared→Prop),Q (.bool (g i j)) s→wpAny (model X.prog X.w) X.A (f (.int i t) (.int j u)) Q E s) :
  OpR X f (rI0 fun i j=>.bl (g i j)):=by
 intro pins s σ H x y v u Q I rx ry h
 obtain⟨i,j,rfl,rfl,q⟩:=h
 obtain⟨t,rfl⟩:=rx
 obtain⟨t',rfl⟩:=ry
 exact rule i j t t' s _ _ ⟨.bl (g i j),H,I,rfl,q⟩
noncomputable def CDiv (i j:Int):Prop:=0<j∧j<1073741824
noncomputable def CPow (i j:Int):Prop:=0≤j∧j≤1000000∧i.natAbs<2 ^ 64
noncomputable def CMul (i j:Int):Prop:=(-(2 ^ 64)<i∧i<2 ^ 64)∨(-(2 ^ 64)<j∧j<2 ^ 64)
theorem CMul.ok {i j:Int}(h:CMul i j):IntMulOk i j:=by
 rcases h with ⟨h1,h2⟩ | ⟨h1,h2⟩
 ·exact .of_left (intBits_le_64 h1 h2)
 ·exact .of_right (intBits_le_64 h1 h2)
theorem op_add:OpR X (binaryOp .Add) (rI0 fun i j=>.int (i+j)):=opI0 fun _ _ _ _ _ _ _ q=>add_int q
theorem op_sub:OpR X (binaryOp .Sub) (rI0 fun i j=>.int (i - j)):=opI0 fun _ _ _ _ _ _ _ q=>sub_int q
theorem op_mul:OpR X (binaryOp .Mult) (rI CMul fun i j=>.int (i * j)):=opI fun _ _ _ _ _ _ _ hc q=>mul_int q hc.ok
theorem op_mod:OpR X (binaryOp .Mod) (rI (fun _ j=>0<j) fun i j=>.int (i % j)):=opI fun i j _ _ _ _ _ hc q=>by
 have h1:(0:Int)<j:=hc
 exact mod_int' (by omega) (by rw[Int.fmod_eq_emod_of_nonneg i (by omega)];exact q)
theorem op_pow:OpR X (binaryOp .Pow) (rI CPow fun i j=>.int (i ^ j.toNat)):=opI fun _ _ _ _ _ _ _ hc q=>pow_int_small hc.1 hc.2.1 hc.2.2 q
theorem unI {f:Value→Sem Value}{g:Int→Int}
  (rule:∀(i:Int) (t:Tok) (s:Shared) (Q:Value→Shared→Prop) (E:Value→Shared→Prop),Q (.int (g i) s.toks) { s with toks:=s.toks+1 }→wpAny (model X.prog X.w) X.A (f (.int i t)) Q E s) :
  UnR X f (rU fun i=>.int (g i)):=by
 intro pins s σ H x v Q I rx h
 obtain⟨i,rfl,q⟩:=h
 obtain⟨t,rfl⟩:=rx
 exact rule i t s _ _ ⟨.int (g i),H,I.tok _,⟨_,rfl⟩,q⟩
theorem un_neg:UnR X (unaryOp .USub) (rU fun i=>.int (-i)):=unI fun _ _ _ _ _ q=>neg_int q
end
noncomputable def scal:V→V→Bool
 | .non,.non=>true | .non,.int _=>true | .int _,.non=>true | .non,.bl _=>true | .bl _,.non=>true | .non,.str _=>true | .str _,.non=>true
 | .int _,.int _=>true | .bl _,.bl _=>true | .str _,.str _=>true | .byt _,.byt _=>true
 | .int _,.str _=>true | .str _,.int _=>true | .bl _,.str _=>true | .str _,.bl _=>true
 | _,_=>false
noncomputable def rEq:R2:=fun x y H Q=>scal x y=true∧Q (.bl (decide (x=y))) H
noncomputable def rNe:R2:=fun x y H Q=>scal x y=true∧Q (.bl (!decide (x=y))) H
theorem dec_int {i j:Int}:decide (V.int i=V.int j)=(i == j):=by
 rw[Bool.eq_iff_iff]
 simp
theorem dec_bl {i j:Bool}:decide (V.bl i=V.bl j)=(i == j):=by
 rw[Bool.eq_iff_iff]
 simp
theorem dec_str {i j:Str}:decide (V.str i=V.str j)=(i == j):=by
 rw[Bool.eq_iff_iff]
 simp
theorem dec_byt {i j:Array UInt8}:decide (V.byt i=V.byt j)=(i.toList == j.toList):=by
 rw[Bool.eq_iff_iff]
 cases i
 cases j
 simp
section
variable {X:Cx}{a b c:Expr}{ta tb tc:TE}{pos:Pos}
theorem fin_bl {pins:List (Addr×Obj)}{σ:St}{H:Hp}{s:Shared}{Q:VK}{k k':Bool}(I:Inv X pins σ H s)(q:Q (.bl k) H)(e:k=k'):EP X pins σ Q (.bool k') s:=by
 subst e
 exact⟨.bl k,H,I,rfl,q⟩
theorem op_eq:OpR X (compareOp .Eq) rEq:=by
 intro pins s σ H x y v u Q I rx ry h
 obtain⟨hs,q⟩:=h
 cases x with
 | non =>
  cases rx
  cases y with
  | non=>cases ry;exact PySem.EqNone.eq_none_none (fin_bl I q (by simp))
  | bl j=>cases ry;exact PySem.EqNone.eq_none_bool (fin_bl I q (by simp))
  | int j=>obtain⟨t',rfl⟩:=ry;exact PySem.EqNone.eq_none_int (fin_bl I q (by simp))
  | str j=>obtain⟨t',rfl⟩:=ry;exact PySem.EqNone.eq_none_str (fin_bl I q (by simp))
  | _=>exact absurd (show false=true from hs) Bool.false_ne_true
 | bl i =>
  cases rx
  cases y with
  | non=>cases ry;exact PySem.EqNone.eq_bool_none (fin_bl I q (by simp))
  | bl j=>cases ry;exact eq_bool (fin_bl I q dec_bl)
  | str j=>obtain⟨t',rfl⟩:=ry;exact PySem.EqMixed.eq_bool_str (fin_bl I q (by simp))
  | _=>exact absurd (show false=true from hs) Bool.false_ne_true
 | int i =>
  obtain⟨t,rfl⟩:=rx
  cases y with
  | non=>cases ry;exact PySem.EqNone.eq_int_none (fin_bl I q (by simp))
  | int j=>obtain⟨t',rfl⟩:=ry;exact eq_int (fin_bl I q dec_int)
  | str j=>obtain⟨t',rfl⟩:=ry;exact PySem.EqMixed.eq_int_str (fin_bl I q (by simp))
  | _=>exact absurd (show false=true from hs) Bool.false_ne_true
 | str i =>
  obtain⟨t,rfl⟩:=rx
  cases y with
  | non=>cases ry;exact PySem.EqNone.eq_str_none (fin_bl I q (by simp))
  | bl j=>cases ry;exact PySem.EqMixed.eq_str_bool (fin_bl I q (by simp))
  | int j=>obtain⟨t',rfl⟩:=ry;exact PySem.EqMixed.eq_str_int (fin_bl I q (by simp))
  | str j=>obtain⟨t',rfl⟩:=ry;exact eq_str (fin_bl I q dec_str)
  | _=>exact absurd (show false=true from hs) Bool.false_ne_true
 | byt i =>
  obtain⟨t,rfl⟩:=rx
  cases y with
  | byt j=>obtain⟨t',rfl⟩:=ry;exact PySem.W.eq_bytes (fin_bl I q dec_byt)
  | _=>exact absurd (show false=true from hs) Bool.false_ne_true
 | _=>cases y <;> exact absurd (show false=true from hs) Bool.false_ne_true
theorem op_ne:OpR X (compareOp .NotEq) rNe:=by
 intro pins s σ H x y v u Q I rx ry h
 obtain⟨hs,q⟩:=h
 cases x with
 | non =>
  cases rx
  cases y with
  | non=>cases ry;exact PySem.EqNone.ne_none_none (fin_bl I q (by simp))
  | bl j=>cases ry;exact PySem.EqNone.ne_none_bool (fin_bl I q (by simp))
  | int j=>obtain⟨t',rfl⟩:=ry;exact PySem.EqNone.ne_none_int (fin_bl I q (by simp))
  | str j=>obtain⟨t',rfl⟩:=ry;exact PySem.EqNone.ne_none_str (fin_bl I q (by simp))
  | _=>exact absurd (show false=true from hs) Bool.false_ne_true
 | bl i =>
  cases rx
  cases y with
  | non=>cases ry;exact PySem.EqNone.ne_bool_none (fin_bl I q (by simp))
  | bl j=>cases ry;exact ne_bool (fin_bl I q (congrArg not dec_bl))
  | str j=>obtain⟨t',rfl⟩:=ry;exact PySem.EqMixed.ne_bool_str (fin_bl I q (by simp))
  | _=>exact absurd (show false=true from hs) Bool.false_ne_true
 | int i =>
  obtain⟨t,rfl⟩:=rx
  cases y with
  | non=>cases ry;exact PySem.EqNone.ne_int_none (fin_bl I q (by simp))
  | int j=>obtain⟨t',rfl⟩:=ry;exact ne_int (fin_bl I q (congrArg not dec_int))
  | str j=>obtain⟨t',rfl⟩:=ry;exact PySem.EqMixed.ne_int_str (fin_bl I q (by simp))
  | _=>exact absurd (show false=true from hs) Bool.false_ne_true
 | str i =>
  obtain⟨t,rfl⟩:=rx
  cases y with
  | non=>cases ry;exact PySem.EqNone.ne_str_none (fin_bl I q (by simp))
  | bl j=>cases ry;exact PySem.EqMixed.ne_str_bool (fin_bl I q (by simp))
  | int j=>obtain⟨t',rfl⟩:=ry;exact PySem.EqMixed.ne_str_int (fin_bl I q (by simp))
  | str j=>obtain⟨t',rfl⟩:=ry;exact ne_str (fin_bl I q (congrArg not dec_str))
  | _=>exact absurd (show false=true from hs) Bool.false_ne_true
 | byt i =>
  obtain⟨t,rfl⟩:=rx
  cases y with
  | byt j=>obtain⟨t',rfl⟩:=ry;exact PySem.W.ne_bytes (fin_bl I q (congrArg not dec_byt))
  | _=>exact absurd (show false=true from hs) Bool.false_ne_true
 | _=>cases y <;> exact absurd (show false=true from hs) Bool.false_ne_true
theorem op_lt:OpR X (compareOp .Lt) (rI0 fun i j=>.bl (decide (i<j))):=opB0 fun _ _ _ _ _ _ _ q=>lt_int q
theorem op_le:OpR X (compareOp .LtE) (rI0 fun i j=>.bl (decide (i≤j))):=opB0 fun _ _ _ _ _ _ _ q=>le_int q
theorem op_gt:OpR X (compareOp .Gt) (rI0 fun i j=>.bl (decide (j<i))):=opB0 fun _ _ _ _ _ _ _ q=>gt_int q
theorem op_ge:OpR X (compareOp .GtE) (rI0 fun i j=>.bl (decide (j≤i))):=opB0 fun _ _ _ _ _ _ _ q=>ge_int q
theorem op_isN:OpR X (compareOp .Is) (fun x y H Q=>y = .non∧Q (.bl (decide (x = .non))) H):=by
 intro pins s σ H x y v u Q I rx ry h
 obtain⟨rfl,q⟩:=h
 cases ry
 refine is_none_gen (fin_bl I q ?_)
 cases x <;> first
  | (cases rx;rfl)
  | (obtain⟨t,rfl⟩:=rx;rfl)
theorem op_notN:OpR X (compareOp .IsNot) (fun x y H Q=>y = .non∧Q (.bl (!decide (x = .non))) H):=by
 intro pins s σ H x y v u Q I rx ry h
 obtain⟨rfl,q⟩:=h
 cases ry
 refine isnot_none_gen (fin_bl I q ?_)
 cases x <;> first
  | (cases rx;rfl)
  | (obtain⟨t,rfl⟩:=rx;rfl)
theorem nomark (b:Expr) {op:CmpOp}(h:op ≠ .In:=by decide)(h2:op ≠ .NotIn:=by decide):behindInMarks op b=false:=by
 have e1:(op == CmpOp.In)=false:=by cases op <;> first |rfl |exact absurd rfl h
 have e2:(op == CmpOp.NotIn)=false:=by cases op <;> first |rfl |exact absurd rfl h2
 cases b <;> simp[behindInMarks,e1,e2]
theorem pe_cmpR {op:CmpOp}{r:R2}(ho:OpR X (compareOp op) r)(ha:PE X a ta)(hb:PE X b tb)(hm:behindInMarks op b=false):PE X (.Compare a [op] [b] pos) (tOp r ta tb):=by
 intro pins s σ H Q I h
 exact wpAny_Compare1 (binT ha hb I h fun v u s2 x y H2 I2 rx ry q=>ho pins s2 σ H2 x y v u Q I2 rx ry q) hm
noncomputable def tTest (t:TE):TT:=fun σ H Q=>t σ H fun x H'=>∃k,x = .bl k∧Q k H'
theorem pt_cmpR {op:CmpOp}{r:R2}(ho:OpR X (compareOp op) r)(ha:PE X a ta)(hb:PE X b tb)(hm:behindInMarks op b=false):PT X (.Compare a [op] [b] pos) (tTest (tOp r ta tb)):=by
 intro pins s σ H Q I h
 refine wpAny_isTrue_Compare1 (thn (ha pins s σ H _ I h) fun v s1 ⟨x,H1,I1,r1,q1⟩=>thn (hb pins s1 σ H1 _ I1 q1) fun u s2 ⟨y,H2,I2,r2,q2⟩ =>
  thn (ho pins s2 σ H2 x y v u _ I2 r1 r2 q2) fun c s3 ⟨z,H3,I3,r3,k,e,q3⟩=>?_) hm
 subst e
 cases r3
 exact wpAny_truthy_bool ⟨H3,I3,q3⟩
noncomputable def tChain (r r':R2)(ta tb tc:TE):TE:=fun σ H Q=>ta σ H fun x H1=>tb σ H1 fun y H2=>r x y H2 fun z H3=>∃k,z = .bl k ∧
 (if k=true then tc σ H3 fun w' H4=>r' y w' H4 Q else Q (.bl false) H3)
theorem pe_chain {op op':CmpOp}{r r':R2}(ho:OpR X (compareOp op) r)(ho':OpR X (compareOp op') r')(ha:PE X a ta)(hb:PE X b tb)(hc:PE X c tc)
  (hm:lastMarks [op,op'] [b,c]=false:=by with_unfolding_all rfl):PE X (.Compare a [op,op'] [b,c] pos) (tChain r r' ta tb tc):=by
 intro pins s σ H Q I h
 refine Compare_chain (thn (ha pins s σ H _ I h) fun v s1 ⟨x,H1,I1,r1,q1⟩=>chain_link (thn (hb pins s1 σ H1 _ I1 q1) fun u s2 ⟨y,H2,I2,r2,q2⟩ =>
  thn (ho pins s2 σ H2 x y v u _ I2 r1 r2 q2) fun d s3 ⟨z,H3,I3,r3,k,e,q3⟩=>?_)) hm
 subst e
 cases r3
 refine wpAny_truthy_bool ?_
 cases k with
 | false=>exact ite_ff ⟨.bl false,H3,I3,rfl,q3⟩
 | true=>exact ite_tt (chain_last (thn (hc pins s3 σ H3 _ I3 q3) fun w' s4 ⟨z',H4,I4,r4,q4⟩=>ho' pins s4 σ H4 y z' u w' Q I4 r2 r4 q4))
theorem pt_chain {op op':CmpOp}{r r':R2}(ho:OpR X (compareOp op) r)(ho':OpR X (compareOp op') r')(ha:PE X a ta)(hb:PE X b tb)(hc:PE X c tc)
  (hm:lastMarks [op,op'] [b,c]=false:=by with_unfolding_all rfl):PT X (.Compare a [op,op'] [b,c] pos) (tTest (tChain r r' ta tb tc)):=by
 intro pins s σ H Q I h
 refine isTrue_chain (thn (ha pins s σ H _ I h) fun v s1 ⟨x,H1,I1,r1,q1⟩=>test_link (thn (hb pins s1 σ H1 _ I1 q1) fun u s2 ⟨y,H2,I2,r2,q2⟩ =>
  thn (ho pins s2 σ H2 x y v u _ I2 r1 r2 q2) fun d s3 ⟨z,H3,I3,r3,k,e,q3⟩=>?_)) hm
 subst e
 cases r3
 refine wpAny_truthy_bool ?_
 cases k with
 | false =>
  obtain⟨k',e',q'⟩:=q3
  cases e'
  exact ite_ff ⟨H3,I3,q'⟩
 | true =>
  refine ite_tt (test_last (thn (hc pins s3 σ H3 _ I3 q3) fun w' s4 ⟨z',H4,I4,r4,q4⟩=>thn (ho' pins s4 σ H4 y z' u w' _ I4 r2 r4 q4) fun d' s5 ⟨z2,H5,I5,r5,k2,e2,q5⟩=>?_))
  subst e2
  cases r5
  exact wpAny_truthy_bool ⟨H5,I5,q5⟩
theorem line63:(sizeLine:Nat)<2 ^ 63:=by rw[sizeLine_eq];decide
theorem vals1 {x:V}{us:List Value}(r:Vals [x] us):∃u,us = [u]∧RelV x u:=by
 cases r with
 | cons r1 r2=>cases r2;exact⟨_,rfl,r1⟩
theorem vals2 {x y:V}{us:List Value}(r:Vals [x,y] us):∃u w',us = [u,w']∧RelV x u∧RelV y w':=by
 cases r with
 | cons r1 r2 =>
  cases r2 with
  | cons r3 r4=>cases r4;exact⟨_,_,rfl,r1,r3⟩
theorem call_max2 (hc:X.calm=true):CallR X (.builtin "max") (fun xs H Q=>∃i j,xs = [.int i,.int j]∧Q (.int (if j > i then j else i)) H):=by
 intro pins s σ H xs us Q I r h
 obtain⟨i,j,rfl,q⟩:=h
 obtain⟨u,w',rfl,⟨t,rfl⟩,⟨t',rfl⟩⟩:=vals2 r
 refine max_two_ints (I.ok.hd hc) fun h' tk k=>⟨_,H,I.kept k,?_,q⟩
 by_cases hj:j > i
 ·rw[if_pos hj,if_pos hj];exact⟨_,rfl⟩
 ·rw[if_neg hj,if_neg hj];exact⟨_,rfl⟩
theorem call_min2 (hc:X.calm=true):CallR X (.builtin "min") (fun xs H Q=>∃i j,xs = [.int i,.int j]∧Q (.int (if j<i then j else i)) H):=by
 intro pins s σ H xs us Q I r h
 obtain⟨i,j,rfl,q⟩:=h
 obtain⟨u,w',rfl,⟨t,rfl⟩,⟨t',rfl⟩⟩:=vals2 r
 refine min_two_ints (I.ok.hd hc) fun h' tk k=>⟨_,H,I.kept k,?_,q⟩
 by_cases hj:j<i
 ·rw[if_pos hj,if_pos hj];exact⟨_,rfl⟩
 ·rw[if_neg hj,if_neg hj];exact⟨_,rfl⟩
end
structure ObjM (h:Heap) (x dx C:Addr) (mA:Str→Option Value):Prop where
 obj:h.get? x=some (PySem.W.instObj C dx)
 ns:h.Ns1 dx mA
 ne:dx≠x
theorem lookIn_ns {h:Heap}{dx:Addr}{mA:Str→Option Value}(n:h.Ns1 dx mA):∃od,h.get? dx=some od∧∀name,PySem.W.lookIn name od=some (mA name):=by
 obtain⟨o,es,ep,ho,hd,hk,_,hm⟩:=n
 refine⟨o,ho,fun name=>?_⟩
 have e:=hm name
 unfold nsFind findBy at e
 rw[← Array.find?_toList]at e
 unfold PySem.W.lookIn
 rw[hd]
 dsimp only
 split
 ·rename_i y q
  rw[q]at e
  exact congrArg some e
 ·rename_i q
  rw[q]at e
  have a:es.toList.any (·.refKey)=false:=by
   rw[List.any_eq_false]
   intro y hy
   obtain⟨z,t,hkey⟩:=hk y (Array.mem_toList_iff.mp hy)
   simp[DictEntry.refKey,hkey]
  have a':¬ es.toList.any (·.refKey)=true:=by rw[a];exact Bool.false_ne_true
  rw[if_neg a']
  exact congrArg some e
theorem ObjM.look {h:Heap}{x dx C:Addr}{mA:Str→Option Value}(I:ObjM h x dx C mA):∃od,PySem.W.InstAt h x (PySem.W.instObj C dx) C (some od)∧∀name,PySem.W.lookIn name od=some (mA name) :=
 let ⟨od,ho,hl⟩:=lookIn_ns I.ns
 ⟨od,⟨I.obj,rfl,rfl,ho⟩,hl⟩
section
variable {prog:Program}{w:World}{A:Around}{E:Value→Shared→Prop}{s:Shared}{K:PySem.W.Frag}{x dx C f:Addr}{mA:Str→Option Value}{name:Str}{v:Value}
theorem get_map {expr:Bool}{Q:Value→Shared→Prop}(X:K.In s.heap)(I:ObjM s.heap x dx C mA)(hg:PySem.W.plainGet K C name=true)(hh:PySem.W.hasDictIn K C=true)
  (ha:PySem.W.findIn K (.ref C) name=some none) (hv:mA name=some v) (hv':PySem.W.handedIn v=true) (h:Q v { s with toks:=s.toks+1 }) :
  wpAny (model prog w) A (getAttr (.ref x) name expr) Q E s:=by
 obtain⟨od,J,hl⟩:=I.look
 exact PySem.W.get_value X J (PySem.W.plainGet_of hg).1 (PySem.W.findObj_own hh ha rfl (by rw[hl,hv])) hv' h
theorem get_meth {pl:Sem Bool}{Q:Value×List Value→Shared→Prop}(X:K.In s.heap)(I:ObjM s.heap x dx C mA)(hg:PySem.W.plainGet K C name=true)
  (hf:PySem.W.findIn K (.ref C) name=some (some (.ref f))) (ht:PySem.W.isFn K (.ref f)=true) (hv:mA name=none) (h:Q (.ref f,[.ref x]) s) :
  wpAny (model prog w) A (getMethod (.ref x) name pl) Q E s:=by
 obtain⟨od,J,hl⟩:=I.look
 exact PySem.W.method_fn X J (PySem.W.plainGet_of hg).1 (PySem.W.plainGet_of hg).2 hf (beq_iff_eq.mp ht) (by show (PySem.W.lookIn name od).map (·.isSome)=some false;rw[hl,hv];rfl) h
theorem set_map {ns:List Str}{Q:Unit→Shared→Prop}(X:K.In s.heap)(I:ObjM s.heap x dx C mA)
  (hs:PySem.W.findIn K (.ref C) "__setattr__" = some (some (.builtin "object.__setattr__"))) (hp:PySem.W.plainOver K C=true) (ht:PySem.W.takerIn K C name=some none) (hh:PySem.W.hasDictIn K C=true)
  (hw:PySem.Within mA ns) (hsz:ns.length≤sizeLine)
  (h:∀h',ObjM h' x dx C (fun y=>if y=name then some v else mA y)→Heap.SameBut dx s.heap h'→Q () { s with heap:=h',toks:=s.toks+2 }) :
  wpAny (model prog w) A (setAttr (.ref x) name v) Q E s:=by
 obtain⟨od,J,hl⟩:=I.look
 refine PySem.W.set_plain X J hs (PySem.W.osa_open (s:={ s with toks:=s.toks+1 }) (r:=none) X J hp ht fun b=>?_)
 obtain⟨cd,hc,hd'⟩:=PySem.W.any_some hh
 have hx:s.heap.get? x=some ⟨.ref C,some dx,.plain,#[]⟩:=I.obj
 refine wpAny_bind (wpAny_pure (wpAny_bind (wpAny_bind (wpAny_loadPart hx (wpAny_bind (PySem.W.Looks.here (s:={ s with toks:=s.toks+1 }) (PySem.W.looks_clsIn X hc) ?_))))))
 rw[hd']
 refine wpAny_pure (a:=some dx) (wpAny_bind (wpAny_pure (wpAny_bind ?_)))
 refine wpAny_nsSet1 (s:={ s with toks:=s.toks+1 }) I.ns fun h' hn2 hs2=>?_
 obtain⟨oD,esD,epD,hoD,hdD,hcD⟩:=hn2.count (PySem.Within.cons name v hw)
 refine wpAny_bind (wpAny_lookBehind hoD (by rw[hdD];exact pastItsLine_dict (Nat.le_trans hcD (by rw[List.length_cons];omega))) ?_)
 exact wpAny_pure (h _ ⟨(hs2.2 _ (Ne.symm I.ne)).trans I.obj,hn2,I.ne⟩ hs2)
theorem make_map {R:Result→Shared→Prop}{vs:List Value}{kw:List (Str×Value)}(X:K.In s.heap)(hm:PySem.W.makesIn K C=true)
  (hi:PySem.W.findIn K (.ref C) "__init__" = some (some (.ref f))) (hf:PySem.W.typeIn K (.ref f)=some (.type "function"))
  (h:codeAny (model prog w) (A.under (.builtin "type.__call__" ⟨.ref C :: vs,kw⟩)) (.call (.ref f) ⟨.ref (s.heap.objs.size+1) :: vs,kw⟩) (PySem.W.InitBack (s.heap.objs.size+1) R)
   { s with heap:=(s.heap.push PySem.W.emptyDict).push (PySem.W.instObj C s.heap.objs.size) }) :
  codeAny (model prog w) A (.call (.ref C) ⟨vs,kw⟩) R s:=by
 obtain⟨hh,g,d,t,os⟩:=s
 exact PySem.W.make_core (PySem.W.makes_of X hm) (PySem.W.looks_findIn X hi) (fun self=>PySem.W.bind_fn X self hf) (.inl rfl) h
end
noncomputable def putF (f:Str)(v:V):List (Str×V)→List (Str×V)
 | []=>[(f,v)]
 | (g,x) :: r=>if g=f then (g,v) :: r else (g,x) :: putF f v r
theorem lookup_putF (f g:Str)(v:V):∀fs:List (Str×V),(putF f v fs).lookup g=if g=f then some v else fs.lookup g
 | []=>by
  show List.lookup g [(f,v)]=_
  by_cases h:g=f
  ·have hb:(g == f)=true:=beq_iff_eq.mpr h
   simp only[List.lookup,hb,if_pos h]
  ·have hb:(g == f)=false:=beq_eq_false_iff_ne.mpr h
   simp only[List.lookup,hb,if_neg h]
 | (k, x) :: r=>by
  have ih:=lookup_putF f g v r
  rw[show putF f v ((k,x) :: r)=(if k=f then (k,v) :: r else (k,x) :: putF f v r)from rfl]
  by_cases hk:k=f
  ·rw[if_pos hk]
   by_cases h:g=k
   ·have hb:(g == k)=true:=beq_iff_eq.mpr h
    simp only[List.lookup,hb,if_pos (h.trans hk)]
   ·have hb:(g == k)=false:=beq_eq_false_iff_ne.mpr h
    simp only[List.lookup,hb,if_neg (fun e:g=f=>h (e.trans hk.symm))]
  ·rw[if_neg hk]
   by_cases h:g=k
   ·have hb:(g == k)=true:=beq_iff_eq.mpr h
    simp only[List.lookup,hb,if_neg (fun e:g=f=>hk (h.symm.trans e))]
   ·have hb:(g == k)=false:=beq_eq_false_iff_ne.mpr h
    simp only[List.lookup,hb]
    exact ih
theorem keys_putF (f:Str)(v:V):∀fs:List (Str×V),f∈(putF f v fs).map (·.1)∧∀g,g∈fs.map (·.1)→g∈(putF f v fs).map (·.1)
 | []=>⟨by simp[putF],fun g h=>by simp at h⟩
 | (k, x) :: r=>by
  obtain⟨i1,i2⟩:=keys_putF f v r
  rw[show putF f v ((k,x) :: r)=(if k=f then (k,v) :: r else (k,x) :: putF f v r)from rfl]
  by_cases hk:k=f
  ·rw[if_pos hk]
   subst hk
   exact⟨by simp,fun g h=>by simpa using h⟩
  ·rw[if_neg hk]
   refine⟨?_,fun g h=>?_⟩
   ·rw[List.map_cons]
    exact List.mem_cons_of_mem _ i1
   ·rw[List.map_cons]at h ⊢
    rcases List.mem_cons.mp h with e |e
    ·exact List.mem_cons.mpr (.inl e)
    ·exact List.mem_cons_of_mem _ (i2 g e)
theorem length_putF (f:Str)(v:V):∀fs:List (Str×V),(putF f v fs).length≤fs.length+1
 | []=>by simp[putF]
 | (k,x) :: r=>by
  have ih:=length_putF f v r
  rw[show putF f v ((k,x) :: r)=(if k=f then (k,v) :: r else (k,x) :: putF f v r)from rfl]
  by_cases hk:k=f
  ·rw[if_pos hk,List.length_cons,List.length_cons];omega
  ·rw[if_neg hk,List.length_cons,List.length_cons];omega
theorem RelO.some_of {v:V}{o:Option Value}(r:RelO (some v) o):∃u,o=some u∧RelV v u:=by
 cases o with
 | none=>exact(show False from r).elim
 | some u=>exact⟨u,rfl,r⟩
theorem RelO.none_of {o:Option Value}(r:RelO none o):o=none:=by
 cases o with
 | none=>rfl
 | some u=>exact(show False from r).elim
theorem handed_of {v:V}{u:Value}(r:RelV v u):PySem.W.handedIn u=true:=by
 cases v with
 | non=>cases (show u=Value.none from r);rfl
 | bl b=>cases (show u=Value.bool b from r);rfl
 | int i=>obtain⟨t,e⟩:=(show ∃t,u=Value.int i t from r);cases e;rfl
 | str x=>obtain⟨t,e⟩:=(show ∃t,u=Value.str x t from r);cases e;rfl
 | byt b=>obtain⟨t,e⟩:=(show ∃t,u=Value.bytes b t from r);cases e;rfl
 | flt b=>obtain⟨t,e⟩:=(show ∃t,u=Value.float b t from r);cases e;rfl
 | ref a=>cases (show u=Value.ref a from r);rfl
 | ty n=>cases (show u=Value.type n from r);rfl
section
variable {P:Program}{w:World}{H H':Hp}{h h':Heap}{a C dx:Addr}{fs fs':List (Str×V)}
theorem ins_get (hok:HOk P w H h)(e:H a=some (.ins C dx fs)):∃mA,ObjM h a dx C mA∧(∀f,RelO (fs.lookup f) (mA f))∧PySem.Within mA (fs.map (·.1))∧fs.length≤1000∧H dx=some (.own a):=by
 obtain⟨d,z,ne,ob,mA,n,r,q⟩:=(show ObjOk P w H h a (.ins C dx fs)from hok a _ e)
 exact⟨mA,⟨ob,n,ne⟩,r,q,z,d⟩
end
structure Cls (K:PySem.W.Frag) (C:Addr):Prop where
 pg:PySem.W.plainGet K C Str.empty=true
 hd:PySem.W.hasDictIn K C=true
 po:PySem.W.plainOver K C=true
 sa:PySem.W.findIn K (.ref C) "__setattr__" = some (some (.builtin "object.__setattr__"))
theorem Cls.get {K:PySem.W.Frag}{C:Addr}(c:Cls K C)(f:Str):PySem.W.plainGet K C f=true:=c.pg
noncomputable def NoAttr (K:PySem.W.Frag)(C:Addr)(f:Str):Prop:=PySem.W.findIn K (.ref C) f=some none
theorem NoAttr.taker {K:PySem.W.Frag}{C:Addr}{f:Str}(n:NoAttr K C f):PySem.W.takerIn K C f=some none:=by
 unfold PySem.W.takerIn
 rw[show PySem.W.findIn K (.ref C) f=some none from n]
 rfl
structure Meth (K:PySem.W.Frag) (C:Addr) (m:Str) (f:Addr):Prop where
 at_:PySem.W.findIn K (.ref C) m=some (some (.ref f))
 fn:PySem.W.isFn K (.ref f)=true
 kp:PySem.W.keepIn K (.ref f)=true
section
variable {X:Cx}{pins:List (Addr×Obj)}{σ:St}{H:Hp}{s:Shared}{a C dx:Addr}{fs:List (Str×V)}{f:Str}{v:V}{A:Around}{E:Value→Shared→Prop}
theorem getattr_ok {b:Bool}{Q:Value→Shared→Prop}(I:Inv X pins σ H s)(e:H a=some (.ins C dx fs))(c:Cls X.K C)(n:NoAttr X.K C f)(l:fs.lookup f=some v)
  (h:∀u s',Inv X pins σ H s'→RelV v u→Q u s'):wpAny (model X.prog X.w) A (getAttr (.ref a) f b) Q E s:=by
 obtain⟨mA,O,r,_,_,_⟩:=ins_get I.hok e
 obtain⟨u,hu,ru⟩:=RelO.some_of (v:=v) (o:=mA f) (by rw[← l];exact r f)
 exact get_map I.kIn O (c.get f) c.hd n hu (handed_of ru) (h u _ (I.tok _) ru)
theorem getmeth_ok {m:Str}{g:Addr}{pl:Sem Bool}{Q:Value×List Value→Shared→Prop}(I:Inv X pins σ H s)(e:H a=some (.ins C dx fs))(c:Cls X.K C)(k:Meth X.K C m g)(l:fs.lookup m=none)
  (h:Q (.ref g,[.ref a]) s):wpAny (model X.prog X.w) A (getMethod (.ref a) m pl) Q E s:=by
 obtain⟨mA,O,r,_,_,_⟩:=ins_get I.hok e
 have hn:mA m=none:=RelO.none_of (by rw[← l];exact r m)
 exact get_meth I.kIn O (c.get m) k.at_ k.fn hn h
theorem setattr_ok {y:V}{u:Value}{Q:Unit→Shared→Prop}(I:Inv X pins σ H s)(e:H a=some (.ins C dx fs))(c:Cls X.K C)(n:NoAttr X.K C f)(hl:fs.length<1000)(ry:RelV y u)
  (h:∀s',Inv X pins σ (upd H a (.ins C dx (putF f y fs))) s'→Q () s'):wpAny (model X.prog X.w) A (setAttr (.ref a) f u) Q E s:=by
 obtain⟨mA,O,r,wi,_,ho⟩:=ins_get I.hok e
 have hz:(fs.map (·.1)).length≤sizeLine:=by rw[List.length_map,sizeLine_eq];omega
 refine set_map I.kIn O c.sa c.po n.taker c.hd wi hz fun h' O' sb=>h _ ?_
 have hd:∃o,h'.get? dx=some o:=let ⟨o,_,_,e',_⟩:=O'.ns; ⟨o,e'⟩
 refine I.write (x:=a) (e:=dx) (by rw[e];exact True.intro) (.inr ho) (fun b q hb z=>(sb.2 b hb).trans z) hd ?_
 refine⟨by rw[upd_ne O.ne];exact ho,?_,O.ne,O'.obj,_,O'.ns,fun g=>?_,fun g hg=>?_⟩
 ·have:=length_putF f y fs;omega
 ·show RelO ((putF f y fs).lookup g) (if g=f then some u else mA g)
  rw[lookup_putF]
  by_cases q:g=f
  ·rw[if_pos q,if_pos q];exact ry
  ·rw[if_neg q,if_neg q];exact r g
 ·by_cases q:g=f
  ·rw[q];exact(keys_putF f y fs).1
  ·refine(keys_putF f y fs).2 g (wi g fun z=>hg ?_)
   show (if g=f then some u else mA g)=none
   rw[if_neg q];exact z
theorem Inv.made (I:Inv X pins σ H s):Inv X pins σ (upd (upd H s.heap.objs.size (.own (s.heap.objs.size+1))) (s.heap.objs.size+1) (.ins C s.heap.objs.size []))
  { s with heap:=(s.heap.push PySem.W.emptyDict).push (PySem.W.instObj C s.heap.objs.size) }:=by
 have e1:(s.heap.push PySem.W.emptyDict).get? s.heap.objs.size=some PySem.W.emptyDict:=Heap.get?_push_size s.heap rfl
 have e2:((s.heap.push PySem.W.emptyDict).push (PySem.W.instObj C s.heap.objs.size)).get? (s.heap.objs.size+1)=some (PySem.W.instObj C s.heap.objs.size):=by
  have:=Heap.get?_push_size (s.heap.push PySem.W.emptyDict) (o:=PySem.W.instObj C s.heap.objs.size) rfl
  rwa [Heap.size_push]at this
 have e3:(s.heap.push PySem.W.emptyDict).Ns s.heap.objs.size (fun _=>none):=⟨PySem.W.emptyDict,#[],_,e1,rfl,(fun e he=>absurd he (by simp)),fun _=>rfl⟩
 have I1:=I.laid (a:=s.heap.objs.size) (o:=.own (s.heap.objs.size+1)) (h':=s.heap.push PySem.W.emptyDict) (t':=s.toks) (fun b u q=>Heap.get?_push_of_some _ q) (Nat.le_refl _) ⟨_,e1⟩
 refine I1.laid (a:=s.heap.objs.size+1) (o:=.ins C s.heap.objs.size []) (t':=s.toks) (fun b u q=>Heap.get?_push_of_some _ q) (Nat.le_of_eq (Heap.size_push _ _)) ?_
 have ne:s.heap.objs.size≠s.heap.objs.size+1:=Nat.ne_of_lt (Nat.lt_succ_self _)
 refine⟨by rw[upd_ne ne,upd_same],Nat.zero_le _,ne,e2,fun _=>none,(Heap.Ns1.of_empty e3).at fun o q=>Heap.get?_push_of_some _ q,fun _=>True.intro,fun y hy=>absurd rfl hy⟩
theorem attr_of {prog:Program}{w:World}{env:Env}{e:Expr}{f:Str}{pos:Pos}{s:Shared}{Q:Value→Shared→Prop}(hb:attributeBase e f env (eval e env)=eval e env)
  (h:wpAny (model prog w) A (eval e env) (fun o s₁=>wpAny (model prog w) A (getAttr o f true) Q E s₁) E s):wpAny (model prog w) A (eval (.Attribute e f pos) env) Q E s :=
 Attribute_any_ h (by rw[arm_eval_Attribute,hb])
end
noncomputable def tFld (K:PySem.W.Frag)(ta:TE)(f:Str):TE:=fun σ H Q=>ta σ H fun x H1=>∃a C dx fs v,x = .ref a∧H1 a=some (.ins C dx fs)∧Cls K C∧NoAttr K C f∧fs.lookup f=some v∧Q v H1
noncomputable def sFld (K:PySem.W.Frag)(ta tv:TE)(f:Str):TS:=fun D σ H=>tv σ H fun y H1=>ta σ H1 fun x H2=>∃a C dx fs,x = .ref a∧H2 a=some (.ins C dx fs)∧Cls K C∧NoAttr K C f∧fs.length<1000 ∧
 D.nx σ (upd H2 a (.ins C dx (putF f y fs)))
section
variable {X:Cx}{o e value:Expr}{f:Str}{pos pos' tpos:Pos}{ta tv:TE}
theorem pe_fld (he:PE X e ta)(hb:attributeBase e f X.env (eval e X.env)=eval e X.env):PE X (.Attribute e f pos) (tFld X.K ta f):=by
 intro pins s σ H Q I h
 refine attr_of hb (thn (he pins s σ H _ I h) fun u s1 ⟨x,H1,I1,rx,a,C,dx,fs,v,ex,ea,c,n,l,q⟩=>?_)
 subst ex
 obtain rfl:u=Value.ref a:=rx
 exact getattr_ok I1 ea c n l fun u' s2 I2 ru=>⟨v,H1,I2,ru,q⟩
theorem ps_fld (ha:PE X o ta)(hv:PE X value tv)(hs:swapsWith value (some (.Attribute o f pos')) pos.line X.env=pure false):PS X (.Assign [.Attribute o f pos'] value pos) (sFld X.K ta tv f):=by
 intro pins s σ H D I h
 refine plainObj_wpAny_Assign_Attribute (thn (hv pins s σ H _ I h) fun u s1 ⟨y,H1,I1,ry,q⟩=>thn (ha pins s1 σ H1 _ I1 q) fun ov s2 ⟨x,H2,I2,rx,a,C,dx,fs,ex,ea,c,n,l,q2⟩=>?_) hs
 subst ex
 obtain rfl:ov=Value.ref a:=rx
 exact setattr_ok I2 ea c n l ry fun s3 I3=>⟨σ,_,I3,q2⟩
end
section
variable {X:Cx}{pins:List (Addr×Obj)}{σ:St}{H:Hp}{s:Shared}{A:Around}{E:Value→Shared→Prop}{Q:Value→Shared→Prop}{c:Value}{b:Bool}
inductive TyOf (K:PySem.W.Frag) (H:Hp):V→Value→Prop where
 | non:TyOf K H .non (.type "NoneType")
 | bl (x:Bool):TyOf K H (.bl x) (.type "bool")
 | int (i:Int):TyOf K H (.int i) (.type "int")
 | str (x:Str):TyOf K H (.str x) (.type "str")
 | flt (x:UInt64):TyOf K H (.flt x) (.type "float")
 | lst {a:Addr}{xs:List V}(e:H a=some (.lst xs)):TyOf K H (.ref a) (.type "list")
 | frz {a:Addr}{o:Obj}{xs:List V}(e:H a=some (.frz o (.lst xs))):TyOf K H (.ref a) (.type "list")
 | tup {a:Addr}{xs:List V}(e:H a=some (.tup xs)):TyOf K H (.ref a) (.type "tuple")
 | dK {a:Addr}{kvs:List (Key×V)}(e:H a=some (.dK kvs)):TyOf K H (.ref a) (.type "dict")
 | dT {a:Addr}{kvs:List (List Key×V)}(e:H a=some (.dT kvs)):TyOf K H (.ref a) (.type "dict")
 | ins {a C dx:Addr}{fs:List (Str×V)}(e:H a=some (.ins C dx fs)) (cl:Cls K C) (ha:PySem.W.findIn K (.ref C) "__class__" = some (some (.builtin "object.__class__")))
   (hn:PySem.W.specialIn K (.builtin "object.__class__") "__get__" = some (some (.builtin "getset_descriptor.__get__"))) (htk:PySem.W.takesIn K (.builtin "object.__class__")=some true)
   (hm:PySem.W.mroIn K C (.type "object")=some true):TyOf K H (.ref a) (.ref C)
end
structure Room (k:Nat) (A:Around):Prop where
 hd:A.handled=none
 dp:A.depth+3 * k+5<recursionLimit
 un:A.units+16 * k+200<cLine
 gd:A.guards=some []
theorem Room.mono {j k:Nat}{A:Around}(r:Room k A)(h:j≤k):Room j A:=⟨r.hd,by have:=r.dp;omega,by have:=r.un;omega,r.gd⟩
theorem Room.deeper {k:Nat}{A:Around}(r:Room (k+1) A)(env:Env):Room k (A.deeper env) :=
 ⟨r.hd,by have:=r.dp;show A.depth+1+3 * k+5<_;omega,by have:=r.un;show A.units+3+16 * k+200<_;omega,r.gd⟩
theorem Room.in1 {k:Nat}{A:Around}(r:Room (k+1) A):Room k A.in1 :=
 ⟨r.hd,by have:=r.dp;show A.depth+3 * k+5<_;omega,by have:=r.un;show A.units+1+16 * k+200<_;omega,r.gd⟩
theorem make_depth {A:Around}{C:Addr}{us:List Value}{kw:List (Str×Value)}:(A.under (.builtin "type.__call__" ⟨.ref C :: us,kw⟩)).depth=A.depth+1:=by
 first |rfl |simp[Around.under,Code.weight,Code.isCreation,Code.isGuard,Code.isCaller,Code.frames,Code.isFrame,guardIds]
theorem make_units {A:Around}{C:Addr}{us:List Value}{kw:List (Str×Value)}:(A.under (.builtin "type.__call__" ⟨.ref C :: us,kw⟩)).units=A.units+1:=by
 first |rfl |simp[Around.under,Code.cUnits,Code.frames,Code.isFrame]
theorem make_guards {A:Around}{C:Addr}{us:List Value}{kw:List (Str×Value)}(h:A.guards=some []):(A.under (.builtin "type.__call__" ⟨.ref C :: us,kw⟩)).guards=some []:=by
 first |exact h | (simpa [Around.under,Code.weight,Code.isCreation,Code.isGuard,Code.isCaller,Code.frames,Code.isFrame,guardIds]using h)
theorem Room.make {k:Nat}{A:Around}(r:Room (k+1) A)(C:Addr)(us:List Value)(kw:List (Str×Value)):Room k (A.under (.builtin "type.__call__" ⟨.ref C :: us,kw⟩)) :=
 ⟨r.hd,by have:=r.dp;rw[make_depth];omega,by have:=r.un;rw[make_units];omega,make_guards r.gd⟩
theorem Room.depth {k:Nat}{A:Around}(r:Room k A):A.depth<recursionLimit:=by have:=r.dp;omega
theorem Room.units {k:Nat}{A:Around}(r:Room k A):A.units+64<cLine:=by have:=r.un;omega
noncomputable def tNil:TA:=fun _ H Q=>Q [] H
noncomputable def tCons (ta:TE)(tr:TA):TA:=fun σ H Q=>ta σ H fun x H1=>tr σ H1 fun xs H2=>Q (x :: xs) H2
section
variable {X:Cx}{e:Expr}{es:List Expr}{te:TE}{t:TA}{pos:Pos}
theorem pa_nil:PA X [] tNil:=fun _ _ _ _ H Q I h=>Calls.spliced_nil ⟨[],H,I,.nil,h⟩
theorem pa_cons (ha:PE X e te)(hr:PA X es t)(hs:starEach (e :: es) X.env=(false,eval e X.env) :: starEach es X.env:=by rfl):PA X (e :: es) (tCons te t):=by
 intro pos pins s σ H Q I h
 rw[hs]
 show wpAny _ _ (spliced ((false,eval e X.env) :: backTo pos (starEach es X.env))) _ _ s
 refine Calls.spliced_cons (thn (ha pins s σ H _ I h) fun u s1 ⟨x,H1,I1,r1,q1⟩=>?_)
 exact thn (hr pos pins s1 σ H1 _ I1 q1) fun us s2 ⟨xs,H2,I2,r2,q2⟩=>⟨x :: xs,H2,I2,.cons r1 r2,q2⟩
end
noncomputable abbrev Sp:=List V→Hp→VK→XK→Prop
noncomputable abbrev CXT:=List Env→Hp→Shared→XK→Value→Shared→Prop
structure Env0 (P:Program) (w:World) (K:PySem.W.Frag) (mg:Str→Option Value) (base:Heap) (A:Around) (outer:List Env) (s:Shared) (H:Hp):Prop where
 frames:A.frames=some outer
 mod:Mod K mg base
 bs:∀b o,base.get? b=some o→s.heap.get? b=some o∧H b=none
 bsz:base.objs.size≤s.heap.objs.size
 funs:s.heap.FunFrames base outer
 frf:∀b∈frs outer,H b=none
 hok:HOk P w H s.heap
 bare:AllBare s.gens
noncomputable def CE (outer:List Env)(P:Program)(w:World)(H:Hp)(s:Shared)(Q:VK)(u:Value)(s':Shared):Prop :=
 ∃v H',s'.os=s.os∧AllBare s'.gens∧Un (frs outer) [] H H' s.heap s'.heap∧HOk P w H' s'.heap∧RelV v u∧Q v H'
noncomputable def CR (CX:CXT)(outer:List Env)(P:Program)(w:World)(H:Hp)(s:Shared)(Q:VK)(E:XK)(r:Result)(s':Shared):Prop :=
 match r with
 | .ok (.ret u)=>CE outer P w H s Q u s'
 | .ok _=>False
 | .error e=>CX outer H s E e s'
structure FnOk (P:Program) (w:World) (K:PySem.W.Frag) (mg:Str→Option Value) (base:Heap) (CX:CXT) (k:Nat) (f:Addr) (fd:FuncData) (ps:List Str) (sp:Sp):Prop where
 len:∀vs H Q E,sp vs H Q E→vs.length=ps.length
 run:∀(A:Around) (outer:List Env) (s:Shared) (H:Hp) (args:Args) (us:List Value) (vs:List V) (Q:VK) (E:XK),Room k A→Env0 P w K mg base A outer s H→BindsTo s fd args (ps.zip us)→Vals vs us→sp vs H Q E →
  codeAny (model P w) A (.call (.ref f) args) (CR CX outer P w H s Q E) s
theorem FnOk.mono {P:Program}{w:World}{K:PySem.W.Frag}{mg:Str→Option Value}{base:Heap}{CX:CXT}{j k:Nat}{f:Addr}{fd:FuncData}{ps:List Str}{sp:Sp}(F:FnOk P w K mg base CX j f fd ps sp)(h:j≤k) :
  FnOk P w K mg base CX k f fd ps sp:=⟨F.len,fun A outer s H args us vs Q E hr=>F.run A outer s H args us vs Q E (hr.mono h)⟩
theorem FnOk.imp {P:Program}{w:World}{K:PySem.W.Frag}{mg:Str→Option Value}{base:Heap}{CX:CXT}{k:Nat}{f:Addr}{fd:FuncData}{ps:List Str}{sp sp':Sp}(F:FnOk P w K mg base CX k f fd ps sp)
  (h:∀vs H Q E,sp' vs H Q E→sp vs H Q E):FnOk P w K mg base CX k f fd ps sp' :=
 ⟨fun vs H Q E q=>F.len vs H Q E (h _ _ _ _ q),fun A outer s H args us vs Q E hr he hb hv hs=>F.run A outer s H args us vs Q E hr he hb hv (h _ _ _ _ hs)⟩
theorem Env0.make {P:Program}{w:World}{K:PySem.W.Frag}{mg:Str→Option Value}{base:Heap}{A:Around}{outer:List Env}{s:Shared}{H:Hp}(e:Env0 P w K mg base A outer s H)(C:Addr)(us:List Value)(kw:List (Str×Value)) :
  Env0 P w K mg base (A.under (.builtin "type.__call__" ⟨.ref C :: us,kw⟩)) outer s H:=⟨by first |exact e.frames | (simpa [Around.under,Code.envs,Code.isFrame,pushEnvs]using e.frames),e.mod,e.bs,e.bsz,e.funs,e.frf,e.hok,e.bare⟩
theorem Env0.in1 {P:Program}{w:World}{K:PySem.W.Frag}{mg:Str→Option Value}{base:Heap}{A:Around}{outer:List Env}{s:Shared}{H:Hp}(e:Env0 P w K mg base A outer s H) :
  Env0 P w K mg base A.in1 outer s H:=⟨e.frames,e.mod,e.bs,e.bsz,e.funs,e.frf,e.hok,e.bare⟩
section
variable {X:Cx}{pins:List (Addr×Obj)}{σ:St}{H:Hp}{s s':Shared}
theorem Inv.env0 (I:Inv X pins σ H s):Env0 X.prog X.w X.K X.mg X.base X.A X.stack s H :=
 ⟨I.ok.frames,I.ok.mod,I.bs,Nat.le_trans I.ok.bsz I.sz,I.stack,I.stkFree,I.hok,I.bare⟩
theorem Inv.after {Q:VK}{u:Value}(I:Inv X pins σ H s)(h:CE X.stack X.prog X.w H s Q u s'):EP X pins σ Q u s':=by
 obtain⟨v,H',os,bare,un,hok,r,q⟩:=h
 obtain⟨hh,g,d,t,os'⟩:=s'
 obtain rfl:os'=s.os:=os
 exact⟨v,H',I.call (h':=hh) (g':=g) (d':=d) (t':=t) (ch:=[]) un hok bare (fun b z=>absurd z (by simp)),r,q⟩
end
noncomputable def tCall (sp:Sp)(dvs:List V)(E:XK)(t:TA):TE:=fun σ H Q=>t σ H fun vs H1=>sp (vs ++ dvs) H1 Q E
noncomputable def tMeth (C:Addr)(m:Str)(sp:Sp)(dvs:List V)(E:XK)(ta:TE)(t:TA):TE:=fun σ H Q=>ta σ H fun x H1=>∃a dx fs,x = .ref a∧H1 a=some (.ins C dx fs)∧fs.lookup m=none ∧
 t σ H1 fun vs H2=>sp (x :: (vs ++ dvs)) H2 Q E
noncomputable def Binds (K:PySem.W.Frag)(fd:FuncData)(ps:List Str)(ds:List Value):Prop :=
 ∀(s:Shared) (us:List Value),K.In s.heap→(us ++ ds).length=ps.length→BindsTo s fd ⟨us,[]⟩ (ps.zip (us ++ ds))
theorem Binds.all {K:PySem.W.Frag}{fd:FuncData}{ps:List Str}(h:∀us:List Value,us.length=ps.length→bindArgs fd ⟨us,[]⟩ = pure (ps.zip us)):Binds K fd ps []:=fun s us _ hl=>by
 rw[List.append_nil]at hl ⊢
 exact .of_eq (h us hl)
noncomputable def Passes (CX:CXT)(X:Cx)(E:XK):Prop:=∀(pins:List (Addr×Obj)) (σ:St)(H:Hp)(s:Shared)(e:Value)(s':Shared),Inv X pins σ H s→CX X.stack H s E e s'→X.xe e s'
section
variable {X:Cx}{CX:CXT}{k:Nat}{f C:Addr}{fd:FuncData}{ps:List Str}{sp:Sp}{dvs:List V}{ds:List Value}{E:XK}{x m:Str}{p pos apos:Pos}{e o:Expr}{es:List Expr}{ta:TE}{t:TA}
theorem run_fn {pins:List (Addr×Obj)}{σ:St}{H:Hp}{s:Shared}{Q:VK}{us:List Value}{vs:List V}(F:FnOk X.prog X.w X.K X.mg X.base CX k f fd ps sp)(hr:Room k X.A)(hb:Binds X.K fd ps ds)(hd:Vals dvs ds)(hx:Passes CX X E)
  (I:Inv X pins σ H s) (r:Vals vs us) (h:sp (vs ++ dvs) H Q E):wpAny (model X.prog X.w) X.A (call (.ref f) us) (EP X pins σ Q) X.xe s:=by
 have r2:Vals (vs ++ dvs) (us ++ ds):=r.append hd
 have hl:(us ++ ds).length=ps.length:=by rw[← r2.length];exact F.len _ _ _ _ h
 refine wpAny_call (codeAny_mono (F.run X.A X.stack s H ⟨us,[]⟩ (us ++ ds) (vs ++ dvs) Q E hr I.env0 (hb s us I.kIn hl) r2 h) fun r s' hq=>?_)
 cases r with
 | error e=>exact hx pins σ H s e s' I hq
 | ok fl =>
  cases fl with
  | ret u=>exact I.after hq
  | next=>exact False.elim hq
  | brk=>exact False.elim hq
  | cont=>exact False.elim hq
theorem pe_call (F:FnOk X.prog X.w X.K X.mg X.base CX k f fd ps sp)(hr:Room k X.A)(hg:Gl X x)(hm:X.mg x=some (.ref f))(hk:PySem.W.keepIn X.K (.ref f)=true)(hb:Binds X.K fd ps ds)(hd:Vals dvs ds)(hx:Passes CX X E)
  (ha:PA X (e :: es) t) (hdb:(x == ("__debug__":Str))=false:=by decide) (he:starEach (e :: es) X.env=(false,eval e X.env) :: starEach es X.env:=by rfl) (hpl:(backTo pos (starEach es X.env)).any (·.1)=false:=by rfl) :
  PE X (.Call (.Name x p) (e :: es) [] pos) (tCall sp dvs E t):=by
 intro pins s σ H Q I h
 refine wpAny_Call_Name_kw (ld_glob I hg hm ?_ hdb)
 refine PySem.W.callWith_K (h₀:=X.base) I.ok.mod.kin hk (thn (ha pos pins s σ H _ I h) fun us s1 ⟨vs,H1,I1,r,q⟩=>⟨I1.kIn,?_⟩) he hpl
 exact run_fn F hr hb hd hx I1 r q
theorem pe_meth0 {pl:Sem Bool}(he:PE X o ta)(c:Cls X.K C)(hm:Meth X.K C m f)(F:FnOk X.prog X.w X.K X.mg X.base CX k f fd ps sp)(hr:Room k X.A)(hb:Binds X.K fd ps ds)(hd:Vals dvs ds)(hx:Passes CX X E)
  (ht:eval (.Call (.Attribute o m apos) [] [] pos) X.env=(do
   let ov ← eval o X.env
   standAt apos.atName
   let (f,first) ← holding [ov] (getMethod ov m pl)
   callWith pos f first (backTo pos (starEach [] X.env)) (backToKw pos (keywordEach [] X.env))):=by rfl) :
  PE X (.Call (.Attribute o m apos) [] [] pos) (tMeth C m sp dvs E ta tNil):=by
 intro pins s σ H Q I h
 refine PySem.W.methodCall_KW (pl:=pl) (thn (he pins s σ H _ I h) fun u s1 ⟨x,H1,I1,rx,a,dx,fs,ex,ea,l,q⟩=>?_) ht
 subst ex
 obtain rfl:u=Value.ref a:=rx
 refine getmeth_ok I1 ea c hm l ?_
 exact PySem.W.callWith_K0 (first:=[.ref a]) I1.kIn hm.kp (run_fn (us:=[.ref a]) (vs:=[.ref a]) F hr hb hd hx I1 (.cons rfl .nil) q)
structure Mk (K:PySem.W.Frag) (C f:Addr):Prop where
 makes:PySem.W.makesIn K C=true
 init:PySem.W.findIn K (.ref C) "__init__" = some (some (.ref f))
 fn:PySem.W.isFn K (.ref f)=true
 kp:PySem.W.keepIn K (.ref C)=true
end
noncomputable def PK (X:Cx)(kws:List Keyword)(t:TA):Prop :=
 ∀(pos:Pos) (pins:List (Addr×Obj)) (s:Shared) (σ:St) (H:Hp) (Q:List V→Hp→Prop),Inv X pins σ H s→t σ H Q→wpAny (model X.prog X.w) X.A (evalAll ((backToKw pos (keywordEach kws X.env)).map (·.2))) (AP X pins σ Q) X.xe s
section
variable {X:Cx}{CX:CXT}{k:Nat}{f C:Addr}{fd:FuncData}{ps ks:List Str}{sp:Sp}{E:XK}{x m:Str}{p pos apos kpos:Pos}{e o:Expr}{es:List Expr}{kws:List Keyword}{te ta:TE}{t tk:TA}{nm:Option Str}
theorem pk_nil:PK X [] tNil:=fun _ _ _ _ H Q I h=>wpAny_evalAll_nil ⟨[],H,I,.nil,h⟩
structure KBinds (K:PySem.W.Frag) (fd:FuncData) (ps ks:List Str) (g:List Value→List Value→List Value) (gV:List V→List V→List V):Prop where
 to:∀(s:Shared) (us ws:List Value),K.In s.heap→(g us ws).length=ps.length→BindsTo s fd ⟨us,ks.zip ws⟩ (ps.zip (g us ws))
 rel:∀ {vs:List V}{us:List Value}{zs:List V}{ws:List Value},Vals vs us→Vals zs ws→Vals (gV vs zs) (g us ws)
variable {g:List Value→List Value→List Value}{gV:List V→List V→List V}
end
structure FnScope (N P:List Str) (sc:Scope):Prop where
 kind:sc.kind = .function
 co:sc.isCoroutine=false
 gen:sc.isGenerator=false
 nd:N.Nodup
 pre:N.take P.length=P
 par:∀x∈P,sc.names.lookup x=some .local∨sc.names.lookup x=some .cell
 nofree:∀y∈sc.names,y.2 ≠ .free
theorem bindL_out {kindOf:Str→Option NameKind}{x:Str}:∀ {binds:List (Str×Value)}{m:Str→Option Value},(∀v,(x,v)∉binds)→bindL kindOf binds m x=m x
 | [],_,_=>rfl
 | (n,v) :: r,m,h=>by
  unfold bindL
  rw[bindL_out fun w hw=>h w (List.mem_cons_of_mem _ hw)]
  split
  ·have:x≠n:=by rintro rfl;exact h v List.mem_cons_self
   simp[this]
  ·rfl
theorem bindC_out {kindOf:Str→Option NameKind}{x:Str}:∀ {binds:List (Str×Value)}{m:Str→Option Value},(∀v,(x,v)∉binds)→bindC kindOf binds m x=m x
 | [],_,_=>rfl
 | (n,v) :: r,m,h=>by
  unfold bindC
  rw[bindC_out fun w hw=>h w (List.mem_cons_of_mem _ hw)]
  split
  ·rfl
  ·have:x≠n:=by rintro rfl;exact h v List.mem_cons_self
   simp[this]
theorem bindL_get {kindOf:Str→Option NameKind}{x:Str}{v:Value}:∀ {P:List Str}{vs:List Value}{i:Nat}{m:Str→Option Value},P.Nodup→P[i]? = some x→vs[i]? = some v→kindOf x=some .local →
  bindL kindOf (P.zip vs) m x=some v
 | [],_,_,_,_,h,_,_=>by simp at h
 | _ :: _,[],_,_,_,_,h,_=>by simp at h
 | p :: P,w :: vs,0,m,nd,h1,h2,hk=>by
  simp at h1 h2;subst h1;subst h2
  show bindL kindOf ((p,w) :: P.zip vs) m p=_
  unfold bindL
  rw[bindL_out fun v hv=>(List.nodup_cons.mp nd).1 (List.of_mem_zip hv).1,if_pos hk]
  simp
 | p :: P,w :: vs,i+1,m,nd,h1,h2,hk=>by
  show bindL kindOf ((p,w) :: P.zip vs) m x=_
  unfold bindL
  exact bindL_get (i:=i) (List.nodup_cons.mp nd).2 (by simpa using h1) (by simpa using h2) hk
theorem bindC_get {kindOf:Str→Option NameKind}{x:Str}{v:Value}:∀ {P:List Str}{vs:List Value}{i:Nat}{m:Str→Option Value},P.Nodup→P[i]? = some x→vs[i]? = some v→kindOf x≠some .local →
  bindC kindOf (P.zip vs) m x=some v
 | [],_,_,_,_,h,_,_=>by simp at h
 | _ :: _,[],_,_,_,_,h,_=>by simp at h
 | p :: P,w :: vs,0,m,nd,h1,h2,hk=>by
  simp at h1 h2;subst h1;subst h2
  show bindC kindOf ((p,w) :: P.zip vs) m p=_
  unfold bindC
  rw[bindC_out fun v hv=>(List.nodup_cons.mp nd).1 (List.of_mem_zip hv).1,if_neg hk]
  simp
 | p :: P,w :: vs,i+1,m,nd,h1,h2,hk=>by
  show bindC kindOf ((p,w) :: P.zip vs) m x=_
  unfold bindC
  exact bindC_get (i:=i) (List.nodup_cons.mp nd).2 (by simpa using h1) (by simpa using h2) hk
noncomputable def start (N:List Str)(vs:List V):St:=vs.map some ++ List.replicate (N.length - vs.length) none
noncomputable def cxOf (CX:CXT)(P:Program)(w:World)(K:PySem.W.Frag)(mg:Str→Option Value)(base:Heap)(N:List Str)(qual:Str)(scope:Scope)(f:Addr)(cd:Value)(A:Around)(outer:List Env)(s:Shared)(H:Hp)(E:XK):Cx where
 prog:=P
 w:=w
 K:=K
 mg:=mg
 base:=base
 A:=A.deeper (envOfC qual scope s.heap.objs.size f cd)
 N:=N
 s₀:=s
 H₀:=H
 env:=envOfC qual scope s.heap.objs.size f cd
 outer:=outer
 stack:=envOfC qual scope s.heap.objs.size f cd :: outer
 ex:=[]
 calm:=true
 fn:=fun _=>true
 pn:=[]
 xe:=fun e s'=>wpAny (model P w) (A.deeper (envOfC qual scope s.heap.objs.size f cd)) (leaving (envOfC qual scope s.heap.objs.size f cd) e) (fun _ s''=>CX outer H s E e s'') (fun e' s''=>CX outer H s E e' s'') s'
theorem cell_has {sc:Scope}{n:Nat}{x:Str}(h:sc.names.lookup x=some .cell):∃c,(cellsFrom n sc.names []).lookup x=some c:=by
 have q:=PySem.W.cellsFrom_some sc.names n [] (.inl h)
 exact Option.isSome_iff_exists.mp q
theorem inv_start {CX:CXT}{P:Program}{w:World}{K:PySem.W.Frag}{mg:Str→Option Value}{base:Heap}{N ps:List Str}{qual:Str}{scope:Scope}{f:Addr}{cd:Value}{A:Around}{outer:List Env}{s s1:Shared}{H:Hp}{E:XK}{us:List Value}{vs:List V}
  (S:FnScope N ps scope) (hd:A.handled=none) (e0:Env0 P w K mg base A outer s H) (hl:vs.length=ps.length) (r:Vals vs us)
  (x:InCallC s s.heap.objs.size (bindL (envOfC qual scope s.heap.objs.size f cd).kindOf (ps.zip us) fun _=>none) (cellsFrom (s.heap.objs.size+1) scope.names []) (bindC (envOfC qual scope s.heap.objs.size f cd).kindOf (ps.zip us) fun _=>none) s1) :
  Inv (cxOf CX P w K mg base N qual scope f cd A outer s H E) [] (start N vs) H s1:=by
 have hpl:ps.length≤N.length:=by have:=congrArg List.length S.pre;rw[List.length_take]at this;omega
 obtain⟨h1,tk,rfl,hk⟩:=x.done
 have noA:∀b:Addr,b∉(cxOf CX P w K mg base N qual scope f cd A outer s H E).ex:=fun b z=>absurd (show b∈([]:List Addr)from z) (by simp)
 refine⟨⟨e0.mod,S.kind,rfl,rfl,Nat.le_refl _,fun y z c h1 h2=>?_,fun y hy=>?_,fun y c _ h=>?_,fun _=>hd,Around.frames_deeper e0.frames,.inr ⟨rfl,rfl⟩,fun b z=>absurd z (noA b),e0.bs,e0.bsz,fun b _ _=>noA b,fun b z=>absurd z (noA b),e0.funs,e0.frf⟩,
  rfl,e0.bare,Un.kept hk,⟨_,x.toInCall.ns,fun i y v h1 h2 h3=>?_⟩,fun y c h=>⟨_,x.cell y c h⟩,e0.hok.fresh (Nat.le_refl _),fun y c h=>?_,fun p hp=>absurd (show p∈([]:List (Addr×Obj))from hp) (by simp),e0.hok.kept hk,?_⟩
 ·exact name_of_addr x.apart (PySem.mem_of_lookup h1) (PySem.mem_of_lookup h2)
 ·have hy:scope.names.lookup y=some .cell∨scope.names.lookup y=some .free:=hy
  rcases hy with hy |hy
  ·exact cell_has hy
  ·exact absurd rfl (S.nofree _ (PySem.mem_of_lookup hy))
 ·exact Nat.le_of_lt (x.above y c (PySem.mem_of_lookup h))
 ·have hi:i<vs.length:=by
   unfold start at h2
   by_cases hi:i<vs.length
   ·exact hi
   ·rw[List.getElem?_append_right (by simpa using hi)]at h2
    rw[List.getElem?_replicate]at h2
    split at h2 <;> cases h2
  have ha:vs[i]? = some v:=by
   unfold start at h2
   rw[List.getElem?_append_left (by simpa using hi),List.getElem?_map]at h2
   cases e:vs[i]? with
   | none=>rw[e]at h2;cases h2
   | some a=>rw[e]at h2;cases h2;rfl
  obtain⟨u,hu,rv⟩:=r.get ha
  have hp:ps[i]? = some y:=by
   rw[← S.pre,List.getElem?_take_of_lt (by omega)];exact h1
  have ndP:ps.Nodup:=by rw[← S.pre];exact S.nd.sublist (List.take_sublist _ _)
  refine⟨u,rv,?_⟩
  rcases S.par y (List.mem_of_getElem? hp)with k |k
  ·exact .inl ⟨k,bindL_get ndP hp hu k⟩
  ·obtain⟨c,e⟩:=cell_has (n:=s.heap.objs.size+1) k
   refine .inr ⟨.inl k,c,e,?_⟩
   have q:=x.cell y c e
   rw[bindC_get ndP hp hu (by show scope.names.lookup y≠_;rw[k];decide)]at q
   exact q
 ·exact e0.hok.fresh (Nat.le_of_lt (x.above y c (PySem.mem_of_lookup h)))
 ·unfold start
  show _=N.length
  rw[List.length_append,List.length_map,List.length_replicate]
  omega
theorem fn_of {CX:CXT}{P:Program}{w:World}{K:PySem.W.Frag}{mg:Str→Option Value}{base:Heap}{k:Nat}{f:Addr}{name qual:Str}{params:Arguments}{body:List Stmt}{scope:Scope}{dV kV doc pm cdv ct oc:Value}{an od:Option Addr}
  {osl:Array (Option Value)}{N ps:List Str}{sp:Sp}(lk:K.lookup f=some ⟨oc,od,.func (PySem.W.fnOf name qual params body scope dV kV doc pm an cdv ct),osl⟩) (hcd:PySem.W.codeIn K cdv qual=true) (S:FnScope N ps scope)
  (len:∀vs H Q E,sp vs H Q E→vs.length=ps.length)
  (hbody:∀(A:Around) (outer:List Env) (s:Shared) (H:Hp) (vs:List V) (Q:VK) (E:XK),Room k (A.deeper (envOfC qual scope s.heap.objs.size f cdv))→sp vs H Q E →
   ∃t,PSs (cxOf CX P w K mg base N qual scope f cdv A outer s H E) body t∧t { nx:=fun _ H'=>Q .non H',rt:=Q } (start N vs) H) :
  FnOk P w K mg base CX (k+1) f (PySem.W.fnOf name qual params body scope dV kV doc pm an cdv ct) ps sp:=by
 refine⟨len,fun A outer s H args us vs Q E hr e0 hb r hsp=>?_⟩
 have hl:=len _ _ _ _ hsp
 have KX:K.In s.heap:=e0.mod.kin.keeps fun b o e=>(e0.bs b o e).1
 have lim:s.heap.NoLimit:=e0.mod.nolimit.keeps fun b o e=>(e0.bs b o e).1
 have hkind:∀y∈ps.zip us,scope.names.lookup y.1=some .local∨(scope.names.lookup y.1=some .cell∧((cellsFrom (s.heap.objs.size+1) scope.names []).lookup y.1).isSome=true):=fun ⟨n,v⟩ hy=>by
  rcases S.par n (List.of_mem_zip hy).1 with q |q
  ·exact .inl q
  ·exact .inr ⟨q,PySem.W.cellsFrom_some _ _ _ (.inl q)⟩
 refine codeAny_call_function hr.depth (KX _ _ lk) rfl S.co S.gen rfl (PySem.W.codeRec_of KX hcd) (hb _ _ _ _ ?_)
 refine wpAny_newFunctionEnv_cells S.kind hkind fun env he s1 x=>?_
 subst he
 refine⟨lim.keeps x.toInCall.keep,codeAny_func ?_⟩
 obtain⟨t,ht,hq⟩:=hbody A outer s H vs Q E (hr.deeper _) hsp
 have I:Inv (cxOf CX P w K mg base N qual scope f cdv A outer s H E) [] (start N vs) H s1:=inv_start S hr.hd e0 hl r x
 refine wpAny_mono (ht [] s1 (start N vs) H _ I hq) (fun fl s' hs=>?_) fun e s' hs=>hs
 have fin:∀ {σ':St}{H':Hp}{v:V}{u:Value},Inv (cxOf CX P w K mg base N qual scope f cdv A outer s H E) [] σ' H' s'→RelV v u→Q v H'→CE outer P w H s Q u s' :=
  fun {σ' H' v u} J rv q=>⟨v,H',J.os,J.bare,J.base,J.hok,rv,q⟩
 cases fl with
 | ret u =>
  obtain⟨v,σ',H',J,rv,q⟩:=hs
  exact fin J rv q
 | next =>
  obtain⟨σ',H',J,q⟩:=hs
  exact fin (v:=V.non) (u:=Value.none) J rfl q
 | brk =>
  obtain⟨_,_,_,q⟩:=hs
  exact False.elim q
 | cont =>
  obtain⟨_,_,_,q⟩:=hs
  exact False.elim q
section
variable {X:Cx}{x:Str}{p pos:Pos}{e:Expr}{es:List Expr}{t:TA}{id T:String}{r:List V→Hp→VK→Prop}
noncomputable def tCB (r:List V→Hp→VK→Prop)(t:TA):TE:=fun σ H Q=>t σ H fun vs H1=>r vs H1 Q
theorem pe_callB (hc:CallR X (.builtin id) r)(hg:Gl X x)(hm:X.mg x=none)(hv:bootBuiltins x=some (.builtin id))(ha:PA X (e :: es) t)(hn:x ≠ "__name__":=by decide)(hdb:(x == ("__debug__":Str))=false:=by decide)
  (he:starEach (e :: es) X.env=(false,eval e X.env) :: starEach es X.env:=by rfl) (hpl:(backTo pos (starEach es X.env)).any (·.1)=false:=by rfl):PE X (.Call (.Name x p) (e :: es) [] pos) (tCB r t):=by
 intro pins s σ H Q I h
 refine wpAny_Call_Name_kw (ld_blt I hg hm hv ?_ hn hdb)
 exact PyProof.Rows.callWith_builtin1 (thn (ha pos pins s σ H _ I h) fun us s1 ⟨vs,H1,I1,r1,q1⟩=>hc pins s1 σ H1 vs us Q I1 r1 q1) he hpl
theorem pe_callTy (hc:CallR X (.type T) r)(hg:Gl X x)(hm:X.mg x=none)(hv:bootBuiltins x=some (.type T))(ha:PA X (e :: es) t)(hn:x ≠ "__name__":=by decide)(hdb:(x == ("__debug__":Str))=false:=by decide)
  (he:starEach (e :: es) X.env=(false,eval e X.env) :: starEach es X.env:=by rfl) (hpl:(backTo pos (starEach es X.env)).any (·.1)=false:=by rfl):PE X (.Call (.Name x p) (e :: es) [] pos) (tCB r t):=by
 intro pins s σ H Q I h
 refine wpAny_Call_Name_kw (ld_blt I hg hm hv ?_ hn hdb)
 exact PyProof.Rows.callWith_type1 (thn (ha pos pins s σ H _ I h) fun us s1 ⟨vs,H1,I1,r1,q1⟩=>hc pins s1 σ H1 vs us Q I1 r1 q1) he hpl
end
end L2
namespace HT
open PySem PyProof.Rows
section
open PySem.SeqAt
open PySem.AutoSeq1 (wpAny_loadPart')
open PySem.MeetsSeq PySem.MeetsSeq2 PySem.MeetsSeq3
end
section
variable {prog:Program}{w:World}{A:Around}{E:Value→Shared→Prop}{s:Shared}
theorem cat_tup {t b:Addr}{vs ws:List Value}{Q:Value→Shared→Prop}(ht:IsTup s.heap t vs.toArray)(hb:IsTup s.heap b ws.toArray)(hv:vs ≠ [])
  (h1:ws = []→Q (.ref t) s) (h2:ws ≠ []→Q (.ref s.heap.objs.size) { s with heap:=s.heap.push { cls:=.type "tuple",data:=.seq (vs ++ ws).toArray } })
  (hsz:vs.length+ws.length≤sizeLine):wpAny (model prog w) A (binaryOp .Add (.ref t) (.ref b)) Q E s:=by
 obtain⟨⟨cls,dd,data,sl⟩,ho,hc,n,hd⟩:=id ht
 obtain⟨⟨cls2,dd2,data2,sl2⟩,ho2,hc2,n2,hd2⟩:=id hb
 simp only at hc hd hc2 hd2
 subst hc hd hc2 hd2
 have e:vs.toArray ++ ws.toArray=(vs ++ ws).toArray:=by simp
 by_cases hw:ws = []
 ·exact concat_meets ⟨_,ho,rfl⟩ ⟨_,ho2,rfl⟩ noFill_tuple_add seq_tuple_add PySem.F.slot_tuple_add PySem.F.entry_tuple_add (PySem.F.args_tuple_add_2 _ _)
   (tuple_addW1 t b vs.toArray ws.toArray n n2 dd dd2 sl sl2 (by simpa using hv) (by simp[hw])) ⟨ho,ho2,h1 hw⟩
 ·refine concat_meets ⟨_,ho,rfl⟩ ⟨_,ho2,rfl⟩ noFill_tuple_add seq_tuple_add PySem.F.slot_tuple_add PySem.F.entry_tuple_add (PySem.F.args_tuple_add_2 _ _)
   (tuple_addW2 t b vs.toArray ws.toArray n n2 dd dd2 sl sl2 (by simpa using hv) (by simpa using hw) (by rw[List.size_toArray,List.size_toArray];exact hsz)) ⟨ho,ho2,?_⟩
  rw[e]
  exact h2 hw
noncomputable def sIx (n d:Nat):Option Int→Nat
 | none=>d
 | some v=>if v<0 then (v+(n:Int)).toNat else min v.toNat n
theorem sIx_none (n d:Nat):sIx n d none=d:=rfl
theorem sIx_nat (n d k:Nat):sIx n d (some (k:Int))=min k n:=by
 show (if (k:Int)<0 then ((k:Int)+(n:Int)).toNat else min (k:Int).toNat n)=min k n
 rw[if_neg (by omega),Int.toNat_natCast]
theorem sIx_le (n d:Nat)(hd:d≤n)(o:Option Int):sIx n d o≤n:=by
 cases o with
 | none=>exact hd
 | some v =>
  show (if v<0 then (v+(n:Int)).toNat else min v.toNat n)≤n
  by_cases hv:v<0
  ·rw[if_pos hv];omega
  ·rw[if_neg hv];exact Nat.min_le_right _ _
theorem clip_eq (v:Int)(n d:Nat):(if v<0 then max (v+(n:Int)) 0 else min v (n:Int))=((sIx n d (some v):Nat):Int):=by
 show (if v<0 then max (v+(n:Int)) 0 else min v (n:Int))=(((if v<0 then (v+(n:Int)).toNat else min v.toNat n):Nat):Int)
 by_cases hv:v<0
 ·simp only[if_pos hv];omega
 ·simp only[if_neg hv];omega
theorem adjust_gen (lo hi:Option Int)(n:Nat):Builtin.Slice.sliceAdjust lo hi 1 (n:Int)=(((sIx n 0 lo:Nat):Int),((sIx n n hi:Nat):Int)):=by
 have h1:¬ ((1:Int)<0):=by omega
 unfold Builtin.Slice.sliceAdjust
 simp only[h1,if_false]
 refine Prod.ext ?_ ?_
 ·cases lo with
  | none=>rfl
  | some v=>exact clip_eq v n 0
 ·cases hi with
  | none=>rfl
  | some v=>exact clip_eq v n n
theorem places_gen (i j:Nat):Builtin.Slice.slicePlaces (i:Int) (j:Int) 1=j - i:=by
  unfold Builtin.Slice.slicePlaces
  have h1:(1:Int) > 0:=by omega
  simp only [h1,if_true,Int.ediv_one]
  split <;> omega
theorem slicePart_ {v:Value}{o:Option Int}{Q:Option Int→Shared→Prop}(p:IsPart v o)(h:Q o s):wpAny (model prog w) A (Builtin.Slice.slicePartIndex v) Q E s:=by
 cases p with
 | none=>exact slicePart_none h
 | int i t=>exact slicePart_int h
theorem sliceApplied_gen {sl:Addr}{vl vu:Value}{lo hi:Option Int}{n:Nat}{Q:Int×Int×Nat→Shared→Prop}(hs:s.heap.IsSliceOf sl vl vu .none)(pl:IsPart vl lo)(pu:IsPart vu hi)
  (h:Q (((sIx n 0 lo:Nat):Int),1,sIx n n hi - sIx n 0 lo) s):wpAny (model prog w) A (Builtin.Slice.sliceApplied (.ref sl) (pure (n:Int))) Q E s:=by
 obtain⟨os,hos,hcs,hds⟩:=id hs
 unfold Builtin.Slice.sliceApplied Builtin.Slice.sliceFields
 refine wpAny_bind (wpAny_bind (wpAny_field hos hds (x:=vl) rfl (wpAny_bind (wpAny_field hos hds (x:=vu) rfl (wpAny_bind (wpAny_field hos hds (x:=.none) rfl (wpAny_pure ?_)))))))
 refine wpAny_bind (slicePart_none ?_)
 show wpAny _ _ (if ((1:Int) == 0)=true then _ else _) _ _ s
 rw[if_neg (by decide)]
 refine wpAny_bind (slicePart_ pl (wpAny_bind (slicePart_ pu (wpAny_bind (wpAny_pure ?_)))))
 show wpAny _ _ (match Builtin.Slice.sliceAdjust lo hi 1 (n:Int)with | (lo,hi)=>pure (lo,(1:Int),Builtin.Slice.slicePlaces lo hi 1)) _ _ s
 rw[adjust_gen lo hi n]
 show wpAny _ _ (pure (((sIx n 0 lo:Nat):Int),(1:Int),Builtin.Slice.slicePlaces ((sIx n 0 lo:Nat):Int) ((sIx n n hi:Nat):Int) 1)) _ _ s
 rw[places_gen]
 exact wpAny_pure h
theorem pick_gen (xs:Array Value)(i k:Nat):((List.range k).filterMap fun (m:Nat)=>xs[((i:Int)+(m:Int) * 1).toNat]?).toArray=((xs.toList.drop i).take k).toArray:=by
 have e:(fun (m:Nat)=>xs[((i:Int)+(m:Int) * 1).toNat]?)=fun m=>xs[i+m]?:=by
  funext m
  have:((i:Int)+(m:Int) * 1).toNat=i+m:=by omega
  rw[this]
 rw[e]
 have:=pick_run xs i k
 rw[List.filterMap_map]at this
 have e2:((fun x=>xs[x]?) ∘ fun x=>i+x)=fun m=>xs[i+m]?:=rfl
 rw[e2]at this
 rw[this]
theorem getItem_tuple_cut {t sl:Addr}{items:Array Value}{vl vu:Value}{lo hi:Option Int}{Q:Value→Shared→Prop}(ht:IsTup s.heap t items)(hs:s.heap.IsSliceOf sl vl vu .none)(pl:IsPart vl lo)(pu:IsPart vu hi)
  (hw:¬ (sIx items.size 0 lo=0∧sIx items.size items.size hi=items.size))
  (h:Q (.ref s.heap.objs.size) { s with heap:=s.heap.push { cls:=.type "tuple",data:=.seq ((items.toList.drop (sIx items.size 0 lo)).take (sIx items.size items.size hi - sIx items.size 0 lo)).toArray } })
  (hsz:items.size≤sizeLine):wpAny (model prog w) A (getItem (.ref t) (.ref sl)) Q E s:=by
 have htake:sizeOk (.seq ((items.toList.drop (sIx items.size 0 lo)).take (sIx items.size items.size hi - sIx items.size 0 lo)).toArray):=by
  show ((items.toList.drop (sIx items.size 0 lo)).take (sIx items.size items.size hi - sIx items.size 0 lo)).toArray.size≤sizeLine
  rw[List.size_toArray,List.length_take,List.length_drop,Array.length_toList]
  omega
 have hj:sIx items.size items.size hi≤items.size:=sIx_le _ _ (Nat.le_refl _) hi
 obtain⟨os,hos,hcs,hds⟩:=id hs
 have hTs:s.TypeIs (.ref sl) "slice":=⟨os,hos,hcs⟩
 unfold getItem
 try with_reducible refine wpAny_holding ?_
 first |refine wpAny_bind (wpAny_pure ?_) |skip
 refine wpAny_bind (wpAny_sequenceKey ht.typeIs (by decide) ?_)
 refine wpAny_bind (wpAny_callSpecial?_slot (name:=Str.ofString "__getitem__") ht.typeIs PyProof.Rows.slot_tuple_getitem
  (wpAny_call_entry PyProof.Rows.slot_tuple_getitem ht.typeIs entry_tuple_getitem ?_ (args_tuple_getitem _ _)))
 show wpAny _ _ (Builtin.Tuple.tupleItemsOf (.ref t) >>= _) _ _ s
 refine wpAny_bind (tupleItemsOf_ ht ?_)
 refine wpAny_bind (wpAny_typeOf hTs ?_)
 rw[if_pos (by decide)]
 refine wpAny_bind (sliceApplied_gen hs pl pu ?_)
 have hno:¬ ((((sIx items.size 0 lo:Nat):Int) == 0 && (1:Int) == 1 && (sIx items.size items.size hi - sIx items.size 0 lo) == items.size)=true):=by
  intro q
  rw[Bool.and_eq_true,Bool.and_eq_true]at q
  have q1:((sIx items.size 0 lo:Nat):Int)=0:=eq_of_beq q.1.1
  have q2:sIx items.size items.size hi - sIx items.size 0 lo=items.size:=eq_of_beq q.2
  exact hw ⟨by omega,by omega⟩
 show wpAny _ _ (if (((sIx items.size 0 lo:Nat):Int) == 0 && (1:Int) == 1 && (sIx items.size items.size hi - sIx items.size 0 lo) == items.size)=true then _ else _) _ _ s
 rw[if_neg hno,pick_gen]
 first
  | exact wpAny_bind (m:=Builtin.Tuple.tupleExact _) (wpAny_newObj_type (wpAny_pure ⟨_,rfl,wpAny_pure h⟩) htake)
  | exact wpAny_bind (m:=Builtin.Tuple.tupleExact _) (wpAny_newObj_type (wpAny_bind (wpAny_pure (wpAny_pure ⟨_,rfl,wpAny_pure h⟩))) htake)
  | exact wpAny_bind (wpAny_bind (m:=Builtin.Tuple.tupleExact _) (wpAny_newObj_type (wpAny_pure (wpAny_pure ⟨_,rfl,wpAny_pure h⟩)) htake))
  | exact wpAny_bind (wpAny_bind (m:=Builtin.Tuple.tupleExact _) (wpAny_newObj_type (wpAny_pure ⟨_,rfl,wpAny_pure h⟩) htake))
end
end HT
namespace L2
open PySem PySem.Spec PyProof.Rows
noncomputable abbrev TO:=St→Hp→(Option Int→Hp→Prop)→Prop
noncomputable def PO (X:Cx)(e:Option Expr)(t:TO):Prop :=
 ∀(pins:List (Addr×Obj)) (s:Shared) (σ:St) (H:Hp) (Q:Option Int→Hp→Prop),Inv X pins σ H s→t σ H Q →
  wpAny (model X.prog X.w) X.A (evalPart e X.env) (fun u s'=>∃o H',Inv X pins σ H' s'∧IsPart u o∧Q o H') X.xe s
noncomputable def tNoPart:TO:=fun _ H Q=>Q none H
noncomputable def tPart (t:TE):TO:=fun σ H Q=>t σ H fun x H1=>∃i,x = .int i∧Q (some i) H1
section
variable {X:Cx}{e:Expr}{te:TE}{lo hi:Option Expr}{tl th:TO}{pos p2:Pos}
theorem po_none:PO X none tNoPart:=by
 intro pins s σ H Q I h
 rw[evalPart_none]
 exact wpAny_pure ⟨none,H,I,.none,h⟩
theorem po_some (h:PE X e te):PO X (some e) (tPart te):=by
 intro pins s σ H Q I hw
 rw[evalPart_some]
 refine thn (h pins s σ H _ I hw) fun u s1 ⟨x,H1,I1,r1,q1⟩=>?_
 obtain⟨i,rfl,q⟩:=q1
 obtain⟨t,rfl⟩:=r1
 exact⟨some i,H1,I1,.int i t,q⟩
noncomputable def SlR (X:Cx)(r:V→Option Int→Option Int→Hp→VK→Prop):Prop :=
 ∀(pins:List (Addr×Obj)) (s:Shared) (σ:St) (H:Hp) (x:V) (v vl vu:Value) (lo hi:Option Int) (sl:Addr) (Q:VK),Inv X pins σ H s→RelV x v→s.heap.IsSliceOf sl vl vu .none→IsPart vl lo→IsPart vu hi→r x lo hi H Q →
  ∃T id,typeLookup (.type T) "__getitem__" = pure (some (.builtin id))∧s.TypeIs v T∧wpAny (model X.prog X.w) X.A (getItem v (.ref sl)) (EP X pins σ Q) X.xe s
noncomputable def tSl (r:V→Option Int→Option Int→Hp→VK→Prop)(te:TE)(tl th:TO):TE:=fun σ H Q=>te σ H fun x H1=>tl σ H1 fun l H2=>th σ H2 fun u H3=>r x l u H3 Q
theorem pe_slice {r:V→Option Int→Option Int→Hp→VK→Prop}(hr:SlR X r)(he:PE X e te)(hl:PO X lo tl)(hu:PO X hi th):PE X (.Subscript e (.Slice lo hi none p2) pos) (tSl r te tl th):=by
 intro pins s σ H Q I h
 refine Subscript_ (thn (he pins s σ H _ I h) fun v s1 ⟨x,H1,I1,r1,q1⟩=>?_)
 refine wpAny_Slice (thn (hl pins s1 σ H1 _ I1 q1) fun vl s2 ⟨l,H2,I2,pl,q2⟩=>thn (hu pins s2 σ H2 _ I2 q2) fun vu s3 ⟨u,H3,I3,pu,q3⟩=>?_)
 rw[evalPart_none]
 refine wpAny_pure ?_
 have I4:Inv X pins σ H3 { s3 with heap:=s3.heap.push { cls:=.type "slice",data:=.fields #[vl,vu,.none] } }:=I3.kept (t':=s3.toks) fun b ob q=>Heap.get?_push_of_some _ q
 obtain⟨T,id,hT,ht,hg⟩:=hr pins { s3 with heap:=s3.heap.push { cls:=.type "slice",data:=.fields #[vl,vu,.none] } } σ H3 x v vl vu l u s3.heap.objs.size Q I4 r1 (Heap.IsSliceOf.new ..) pl pu q3
 show wpAny (model X.prog X.w) X.A (subscriptTail e (.Slice lo hi none p2) v (.ref s3.heap.objs.size)) (EP X pins σ Q) X.xe { s3 with heap:=s3.heap.push { cls:=.type "slice",data:=.fields #[vl,vu,.none] } }
 exact tail_any (ops:=[.ref s3.heap.objs.size,v]) ht hT hg (by with_unfolding_all rfl)
noncomputable def cutV (xs:List V)(lo hi:Option Int):List V:=(xs.drop (HT.sIx xs.length 0 lo)).take (HT.sIx xs.length xs.length hi - HT.sIx xs.length 0 lo)
theorem cutV_length (xs:List V)(lo hi:Option Int):(cutV xs lo hi).length≤xs.length:=by
 unfold cutV
 rw[List.length_take,List.length_drop]
 omega
noncomputable def rSlT (K:PySem.W.Frag):V→Option Int→Option Int→Hp→VK→Prop:=fun x lo hi H Q=>∃a xs,x = .ref a∧SqT K H a xs ∧
 ¬ (HT.sIx xs.length 0 lo=0∧HT.sIx xs.length xs.length hi=xs.length)∧∀p,H p=none→Q (.ref p) (upd H p (.tup (cutV xs lo hi)))
theorem sl_tup:SlR X (rSlT X.K):=by
 intro pins s σ H x v vl vu lo hi sl Q I rx hs pl pu h
 obtain⟨a,xs,rfl,hx,hw,q⟩:=h
 cases rx
 obtain⟨its,r,ht,hz⟩:=I.tuple hx
 have hlen:its.toArray.size=xs.length:=by rw[List.size_toArray];exact r.length.symm
 refine⟨"tuple",_,PyProof.Rows.slot_tuple_getitem.lookup,ht.typeIs,?_⟩
 refine HT.getItem_tuple_cut ht hs pl pu (by rw[hlen];exact hw) ?_ (by rw[hlen];exact hz)
 rw[hlen]
 refine⟨.ref s.heap.objs.size,_,I.laid (t':=s.toks) (o:=.tup (cutV xs lo hi)) (fun b ob q=>Heap.get?_push_of_some _ q) (Nat.le_refl _) ?_,rfl,q _ (I.hok.fresh (Nat.le_refl _))⟩
 exact⟨Nat.le_trans (cutV_length xs lo hi) hz,_,(r.drop (HT.sIx xs.length 0 lo)).take (HT.sIx xs.length xs.length hi - HT.sIx xs.length 0 lo),IsTup.new _ _⟩
noncomputable def rCatT (K:PySem.W.Frag):R2:=fun x y H Q=>∃a b xs ys,x = .ref a∧y = .ref b∧SqT K H a xs∧SqT K H b ys∧xs ≠ []∧xs.length+ys.length≤sizeLine ∧
 (ys = []→Q (.ref a) H)∧(ys ≠ []→∀p,H p=none→Q (.ref p) (upd H p (.tup (xs ++ ys))))
theorem Vals.nil_iff {xs:List V}{us:List Value}(r:Vals xs us):us = []↔xs = []:=by
 cases r with
 | nil=>simp
 | cons _ _=>simp
theorem op_catT:OpR X (binaryOp .Add) (rCatT X.K):=by
 intro pins s σ H x y v u Q I rx ry h
 obtain⟨a,b,xs,ys,rfl,rfl,ha,hb,hx,hz,q1,q2⟩:=h
 cases rx
 cases ry
 obtain⟨its,r1,p1,_⟩:=I.tuple ha
 obtain⟨its2,r2,p2,_⟩:=I.tuple hb
 refine HT.cat_tup p1 p2 (fun z=>hx (r1.nil_iff.mp z)) (fun z=>⟨.ref a,H,I,rfl,q1 (r2.nil_iff.mp z)⟩) (fun z=>?_) (by rw[← r1.length,← r2.length];exact hz)
 refine⟨.ref s.heap.objs.size,_,I.laid (t':=s.toks) (o:=.tup (xs ++ ys)) (fun b ob q=>Heap.get?_push_of_some _ q) (Nat.le_refl _) ?_,rfl,q2 (fun w=>z (r2.nil_iff.mpr w)) _ (I.hok.fresh (Nat.le_refl _))⟩
 exact⟨by rw[List.length_append];exact hz,_,r1.append r2,IsTup.new _ _⟩
end
noncomputable def ixN (n:Nat)(i:Int):Option Nat:=if 0≤i then (if i<n then some i.toNat else none) else if -(n:Int)≤i then some (i+n).toNat else none
noncomputable def atI {α:Type}(xs:List α)(i:Int):Option α:=(ixN xs.length i).bind fun j=>xs[j]?
theorem ixN_seq {n:Nat}{i:Int}{j:Nat}(h:ixN n i=some j):seqIndex? i n=some j∧j<n∧-(n:Int)≤i∧i<n:=by
 unfold ixN at h
 by_cases h0:0≤i
 ·rw[if_pos h0]at h
  by_cases h1:i<n
  ·rw[if_pos h1]at h
   have e:i.toNat=j:=Option.some.inj h
   exact⟨by rw[seqIndex_of h0 h1,e],by omega,by omega,h1⟩
  ·rw[if_neg h1]at h;cases h
 ·rw[if_neg h0]at h
  by_cases h1:-(n:Int)≤i
  ·rw[if_pos h1]at h
   have e:(i+n).toNat=j:=Option.some.inj h
   exact⟨by rw[seqIndex_neg (by omega) h1,e],by omega,h1,by omega⟩
  ·rw[if_neg h1]at h;cases h
theorem atI_get {α:Type}{xs:List α}{i:Int}{v:α}(h:atI xs i=some v):∃j,seqIndex? i xs.length=some j∧xs[j]? = some v∧j<xs.length∧-(xs.length:Int)≤i∧i<xs.length:=by
 unfold atI at h
 cases e:ixN xs.length i with
 | none=>rw[e]at h;cases h
 | some j =>
  rw[e]at h
  obtain⟨h1,h2,h3,h4⟩:=ixN_seq e
  exact⟨j,h1,h,h2,h3,h4⟩
theorem atI_nat {α:Type}{xs:List α}{j:Nat}{v:α}(h:xs[j]? = some v):atI xs (j:Int)=some v:=by
 have hj:j<xs.length:=(List.getElem?_eq_some_iff.mp h).1
 have e:ixN xs.length (j:Int)=some j:=by
  unfold ixN
  rw[if_pos (by omega),if_pos (by omega)];simp
 unfold atI;rw[e];exact h
theorem atI_last {α:Type}(xs:List α)(v:α):atI (xs ++ [v]) (-1)=some v:=by
 have hl:(xs ++ [v]).length=xs.length+1:=by simp
 have e:ixN (xs ++ [v]).length (-1)=some xs.length:=by
  unfold ixN
  rw[hl,if_neg (by decide),if_pos (by omega)]
  congr 1
  omega
 unfold atI
 rw[e]
 show (xs ++ [v])[xs.length]? = some v
 simp
noncomputable def PlainIx (b:Expr):Prop:=∀o i,subscripted b false o i=operate [o,i] (getItem o i)
noncomputable def IxR (X:Cx)(r:R2):Prop :=
 ∀(value slice:Expr) (pins:List (Addr×Obj)) (s:Shared) (σ:St) (H:Hp) (x y:V) (v u:Value) (Q:VK),Inv X pins σ H s→RelV x v→RelV y u→r x y H Q →
  subscripted slice false v u=operate [v,u] (getItem v u)→wpAny (model X.prog X.w) X.A (subscriptTail value slice v u) (EP X pins σ Q) X.xe s
noncomputable def MtR (X:Cx)(id:String)(r:V→List V→Hp→VK→Prop):Prop :=
 ∀(pins:List (Addr×Obj)) (s:Shared) (σ:St) (H:Hp) (x:V) (xs:List V) (v:Value) (us:List Value) (Q:VK),Inv X pins σ H s→RelV x v→Vals xs us→r x xs H Q →
  wpAny (model X.prog X.w) X.A (call (.builtin id) (v :: us)) (EP X pins σ Q) X.xe s
section
variable {X:Cx}{a b:Expr}{ta tb:TE}{pos:Pos}
theorem pe_ix {r:R2}(hr:IxR X r)(ha:PE X a ta)(hb:PE X b tb)(hs:PlainIx b):PE X (.Subscript a b pos) (tOp r ta tb):=by
 intro pins s σ H Q I h
 exact Subscript_ (binT ha hb I h fun v u s2 x y H2 I2 rx ry q=>hr a b pins s2 σ H2 x y v u Q I2 rx ry q (hs _ _))
noncomputable def rIxL (K:PySem.W.Frag):R2:=fun x y H Q=>∃p xs i v,x = .ref p∧y = .int i∧SqL K H p xs∧atI xs i=some v∧Q v H
noncomputable def rIxT (K:PySem.W.Frag):R2:=fun x y H Q=>∃p xs i v,x = .ref p∧y = .int i∧SqT K H p xs∧atI xs i=some v∧Q v H
theorem ix_list:IxR X (rIxL X.K):=by
 intro value slice pins s σ H x y v u Q I rx ry h hs
 obtain⟨p,xs,i,z,rfl,rfl,hq,he,q⟩:=h
 cases rx
 obtain⟨t,rfl⟩:=ry
 obtain⟨its,r,pl,hz⟩:=I.list hq
 obtain⟨j,h1,h2,h3,h4,h5⟩:=atI_get he
 obtain⟨w,ew,rw'⟩:=r.get h2
 have hl:=r.length
 have hn:=line63
 have fin:EP X pins σ Q w s:=⟨z,H,I,rw',q⟩
 by_cases h0:0≤i
 ·have hj:i.toNat=j:=by
   rw[seqIndex_of h0 h5]at h1
   exact Option.some.inj h1
  exact item_listR pl.isList h0 (by omega) (by rw[hj];simpa using ew) fin hs
 ·have hj:(i+(its.toArray.size:Int)).toNat=j:=by
   rw[seqIndex_neg (by omega) h4]at h1
   rw[List.size_toArray,← hl]
   exact Option.some.inj h1
  exact subscriptTail_builtinR (x:=w) pl.isList.typeIs slot_list_getitem.lookup
   (wpAny_getItem_list_neg (Q:=fun r s'=>r=w∧EP X pins σ Q r s') pl.isList (by omega) (by rw[List.size_toArray] <;> omega) (by omega) (by rw[hj];simpa using ew) ⟨rfl,fin⟩) hs
theorem ix_tup:IxR X (rIxT X.K):=by
 intro value slice pins s σ H x y v u Q I rx ry h hs
 obtain⟨p,xs,i,z,rfl,rfl,hq,he,q⟩:=h
 cases rx
 obtain⟨t,rfl⟩:=ry
 obtain⟨its,r,pl,hz⟩:=I.tuple hq
 obtain⟨j,h1,h2,h3,h4,h5⟩:=atI_get he
 obtain⟨w,ew,rw'⟩:=r.get h2
 have hl:=r.length
 have hn:=line63
 have fin:EP X pins σ Q w s:=⟨z,H,I,rw',q⟩
 exact subscriptTail_builtinR (x:=w) pl.typeIs slot_tuple_getitem.lookup
  (getItem_tuple (j:=j) (Q:=fun r s'=>r=w∧EP X pins σ Q r s') pl (by omega) (by omega) (by rw[List.size_toArray,← hl];exact h1) (by simpa using ew) ⟨rfl,fin⟩) hs
theorem mapSeq_set (its:List Value)(n j:Nat)(u:Value):Obj.mapSeq (·.setIfInBounds j u) { cls:=.type "list",data:=.seq its.toArray n } = { cls:=.type "list",data:=.seq (its.set j u).toArray n }:=by
 simp[Obj.mapSeq]
theorem Inv.lst {pins:List (Addr×Obj)}{σ:St}{H:Hp}{s:Shared}{p:Addr}{xs:List V}(I:Inv X pins σ H s)(h:H p=some (.lst xs)) :
  ∃(its:List Value) (n:Nat),Vals xs its∧s.heap.get? p=some { cls:=.type "list",data:=.seq its.toArray n }∧xs.length≤sizeLine:=by
 obtain⟨z,its,n,r,e⟩:=I.hok p _ h
 exact⟨its,n,r,e,z⟩
theorem Inv.lstUpd {pins:List (Addr×Obj)}{σ:St}{H:Hp}{s:Shared}{p:Addr}{xs ys:List V}{its its':List Value}{n n':Nat}{f:Obj→Obj}(I:Inv X pins σ H s)(h:H p=some (.lst xs))
  (ho:s.heap.get? p=some { cls:=.type "list",data:=.seq its.toArray n }) (hf:f { cls:=.type "list",data:=.seq its.toArray n } = { cls:=.type "list",data:=.seq its'.toArray n' }) (r:Vals ys its') (hz:ys.length≤sizeLine) (t:Nat) :
  Inv X pins σ (upd H p (.lst ys)) { s with heap:=s.heap.update p f,toks:=t }:=by
 have e:(s.heap.update p f).get? p=some { cls:=.type "list",data:=.seq its'.toArray n' }:=by
  rw[Heap.get?_update_self f ho (by rw[hf] <;> rfl),hf]
 refine I.write (x:=p) (e:=p) (by rw[h];trivial) (.inl rfl) (fun b u hb q=>(Heap.get?_update_other _ _ (Ne.symm hb)).trans q) ⟨_,e⟩ ?_
 exact⟨hz,its',n',r,e⟩
noncomputable def rSetL:V→V→V→Hp→(Hp→Prop)→Prop:=fun o i v H Q=>∃p xs k j,o = .ref p∧i = .int k∧H p=some (.lst xs)∧ixN xs.length k=some j∧Q (upd H p (.lst (xs.set j v)))
theorem set_list:PSet X rSetL:=by
 intro pins s σ H o i v ov iv u Q I ro ri rv h
 obtain⟨p,xs,k,j,rfl,rfl,hp,hj,q⟩:=h
 cases ro
 obtain⟨t,rfl⟩:=ri
 obtain⟨its,n,r,ho,hz⟩:=I.lst hp
 obtain⟨h1,h2,h3,h4⟩:=ixN_seq hj
 have hl:=r.length
 have hn:=line63
 have I':Inv X pins σ (upd H p (.lst (xs.set j v))) { s with heap:=s.heap.update p (Obj.mapSeq (·.setIfInBounds j u)) } :=
  I.lstUpd hp ho (mapSeq_set its n j u) (r.set rv j) (by rw[List.length_set];exact hz) s.toks
 by_cases h0:0≤k
 ·have hk:k.toNat=j:=by
   rw[seqIndex_of h0 h4]at h1
   exact Option.some.inj h1
  exact PySem.W.ki_setAt ho h0 (by omega) (by rw[List.size_toArray,← hl];exact h4) (by rw[hk];exact⟨_,I',q⟩)
 ·have hk:(k+(its.toArray.size:Int)).toNat=j:=by
   rw[seqIndex_neg (by omega) h3]at h1
   rw[List.size_toArray,← hl]
   exact Option.some.inj h1
  exact PySem.W.ki_setBack ho (by omega) (by rw[List.size_toArray,← hl];exact h3) (by omega) (by rw[hk];exact⟨_,I',q⟩)
theorem slice_bounds (lo hi:Option Int)(n:Nat):(sliceBounds lo hi none n).1=((HT.sIx n 0 lo:Nat):Int)∧(sliceBounds lo hi none n).2.1=((HT.sIx n n hi:Nat):Int)∧(sliceBounds lo hi none n).2.2=1:=by
 refine⟨?_,?_,rfl⟩
 ·cases lo with
  | none=>simp[sliceBounds,HT.sIx]
  | some i =>
   simp only[sliceBounds,HT.sIx,Option.getD_none,show (1:Int) > 0 by decide,if_true]
   by_cases h:i<0
   ·simp only[h,if_true] <;> omega
   ·simp only[h,if_false] <;> omega
 ·cases hi with
  | none=>simp[sliceBounds,HT.sIx]
  | some i =>
   simp only[sliceBounds,HT.sIx,Option.getD_none,show (1:Int) > 0 by decide,if_true]
   by_cases h:i<0
   ·simp only[h,if_true] <;> omega
   ·simp only[h,if_false] <;> omega
theorem slicePick_cut (its:List Value)(lo hi:Option Int):slicePick its.toArray lo hi none=((its.drop (HT.sIx its.length 0 lo)).take (HT.sIx its.length its.length hi - HT.sIx its.length 0 lo)).toArray:=by
 obtain⟨h1,h2,h3⟩:=slice_bounds lo hi its.toArray.size
 unfold slicePick
 rw[h1,h2,h3]
 simp only[sliceRange_one,pick_run,List.size_toArray] <;> rfl
noncomputable def rSlL (K:PySem.W.Frag):V→Option Int→Option Int→Hp→VK→Prop:=fun x lo hi H Q=>∃a xs,x = .ref a∧SqL K H a xs∧∀p,H p=none→Q (.ref p) (upd H p (.lst (cutV xs lo hi)))
theorem sl_list:SlR X (rSlL X.K):=by
 intro pins s σ H x v vl vu lo hi sl Q I rx hs pl pu h
 obtain⟨a,xs,rfl,hx,q⟩:=h
 cases rx
 obtain⟨its,r,ht,hz⟩:=I.list hx
 have hlen:=r.length
 refine⟨"list",_,slot_list_getitem.lookup,ht.isList.typeIs,?_⟩
 refine wpAny_getItem_list_slice ht.isList hs pl pu .none (by simp) ?_ (by rw[List.size_toArray] <;> omega)
 rw[slicePick_cut,← hlen]
 refine⟨.ref s.heap.objs.size,_,I.laid (t':=s.toks) (o:=.lst (cutV xs lo hi)) (fun b ob q=>Heap.get?_push_of_some _ q) (Nat.le_refl _) ?_,rfl,q _ (I.hok.fresh (Nat.le_refl _))⟩
 exact⟨Nat.le_trans (cutV_length xs lo hi) hz,_,0,(r.drop (HT.sIx xs.length 0 lo)).take (HT.sIx xs.length xs.length hi - HT.sIx xs.length 0 lo),Heap.get?_push_size _ rfl⟩
theorem call_len_seq:CallR X (.builtin "len") (fun xs H Q=>∃p ys,xs = [.ref p]∧(SqL X.K H p ys∨SqT X.K H p ys)∧Q (.int ys.length) H):=by
 intro pins s σ H xs us Q I r h
 obtain⟨p,ys,rfl,hq,q⟩:=h
 obtain⟨u,rfl,rx⟩:=vals1 r
 cases rx
 have hn:=line63
 rcases hq with hq |hq
 ·obtain⟨its,r',pl,hz⟩:=I.list hq
  have hlen:=r'.length
  exact Calls.call_len_list pl.isList (by simp only[List.size_toArray] <;> omega) ⟨.int ys.length,H,I.tok _,⟨s.toks+1,by rw[List.size_toArray,hlen]⟩,q⟩
 ·obtain⟨its,r',pl,hz⟩:=I.tuple hq
  have hlen:=r'.length
  exact len_tuple pl (by simp only[List.size_toArray] <;> omega) ⟨.int ys.length,H,I.tok _,⟨s.toks+1,by rw[List.size_toArray,hlen]⟩,q⟩
theorem call_len_str:CallR X (.builtin "len") (fun xs H Q=>∃z,xs = [.str z]∧z.length≤sizeLine∧Q (.int z.length) H):=by
 intro pins s σ H xs us Q I r h
 obtain⟨z,rfl,hz,q⟩:=h
 obtain⟨u,rfl,t,rfl⟩:=vals1 r
 have hn:=line63
 exact len_str (by omega) ⟨.int z.length,H,I.tok _,⟨_,rfl⟩,q⟩
theorem call_list_of:CallR X (.type "list") (fun xs H Q=>∃p ys,xs = [.ref p]∧(SqL X.K H p ys∨SqT X.K H p ys)∧∀l,H l=none→Q (.ref l) (upd H l (.lst ys))):=by
 intro pins s σ H xs us Q I r h
 obtain⟨p,ys,rfl,hq,q⟩:=h
 obtain⟨u,rfl,rx⟩:=vals1 r
 cases rx
 have fin:∀(its:List Value),Vals ys its→ys.length≤sizeLine→∀(h':Heap) (c':Nat),(∀b o',s.heap.get? b=some o'→h'.get? b=some o') →
   h'.get? s.heap.objs.size=some { cls:=.type "list",dict:=none,data:=.seq its.toArray c',slots:=#[] }→EP X pins σ Q (.ref s.heap.objs.size) { s with heap:=h' }:=fun its r' hz h' c' kp e =>
  ⟨.ref s.heap.objs.size,_,I.laid (t':=s.toks) kp (Nat.le_refl _) (show ObjOk X.prog X.w _ h' _ (.lst ys)from ⟨hz,its,c',r',e⟩),rfl,q _ (I.hok.fresh (Nat.le_refl _))⟩
 rcases hq with hq |hq
 ·obtain⟨its,r',pl,hz⟩:=I.list hq
  have hlen:=r'.length
  obtain⟨o,ho,hc,n,hd⟩:=pl.isList
  exact call_list_seq p (.inl rfl) ho hc hd (fun h' c' kp e=>fin its r' hz h' c' kp e) (by simp only[List.size_toArray] <;> omega)
 ·obtain⟨its,r',pl,hz⟩:=I.tuple hq
  have hlen:=r'.length
  obtain⟨o,ho,hc,n,hd⟩:=pl
  exact call_list_seq p (.inr rfl) ho hc hd (fun h' c' kp e=>fin its r' hz h' c' kp e) (by simp only[List.size_toArray] <;> omega)
theorem call_tuple_of:CallR X (.type "tuple") (fun xs H Q=>∃p ys,xs = [.ref p]∧((SqL X.K H p ys∧∀l,H l=none→Q (.ref l) (upd H l (.tup ys)))∨(SqT X.K H p ys∧Q (.ref p) H))):=by
 intro pins s σ H xs us Q I r h
 obtain⟨p,ys,rfl,h⟩:=h
 obtain⟨u,rfl,rx⟩:=vals1 r
 cases rx
 rcases h with ⟨hq,q⟩ | ⟨hq,q⟩
 ·obtain⟨its,r',pl,hz⟩:=I.list hq
  have hlen:=r'.length
  refine call_tuple_list pl.isList (fun h' kp=>?_) (by simp only[List.size_toArray] <;> omega)
  have I1:Inv X pins σ H { s with heap:=h' }:=I.kept (t':=s.toks) kp
  have I2:Inv X pins σ (upd H h'.objs.size (.tup ys)) { s with heap:=h'.push { cls:=.type "tuple",data:=.seq its.toArray } } :=
   I1.laid (t':=s.toks) (fun b o e=>Heap.get?_push_of_some _ e) (Nat.le_refl _) (show ObjOk X.prog X.w _ _ _ (.tup ys)from ⟨hz,its,r',IsTup.new _ _⟩)
  exact⟨.ref h'.objs.size,_,I2,rfl,q _ (I1.hok.fresh (Nat.le_refl _))⟩
 ·obtain⟨its,r',pl,hz⟩:=I.tuple hq
  exact call_tuple_same pl ⟨.ref p,H,I,rfl,q⟩
noncomputable def tyV (K:PySem.W.Frag)(T:String)(x:V)(H:Hp):Prop:=match x with
 | .str _=>T = "str"
 | .int _=>T = "int"
 | .ref p=>(T = "list"∧∃xs,SqL K H p xs)∨(T = "tuple"∧∃o,K.lookup p=some o∧o.cls = .type "tuple"∧o.dict=none) ∨
   (T = "dict"∧((∃kvs,H p=some (.dK kvs))∨∃kvs,H p=some (.dT kvs)))∨(T = "set"∧∃S n,H p=some (.set S n))
 | _=>False
theorem tyV_is {pins:List (Addr×Obj)}{σ:St}{H:Hp}{s:Shared}{T:String}{x:V}{v:Value}(I:Inv X pins σ H s)(r:RelV x v)(ty:tyV X.K T x H) :
  s.TypeIs v T∧∀a,v = .ref a→∃ob,s.heap.get? a=some ob∧ob.dict=none:=by
 cases x with
 | str z =>
  obtain⟨t,rfl⟩:=r
  cases (show T = "str" from ty)
  exact⟨typeIs_str s z t,fun _ e=>nomatch e⟩
 | int i =>
  obtain⟨t,rfl⟩:=r
  cases (show T = "int" from ty)
  exact⟨typeIs_int s i t,fun _ e=>nomatch e⟩
 | ref p =>
  cases r
  rcases ty with ⟨rfl,xs,hq⟩ | ⟨rfl,o,hk,hc,hd⟩ | ⟨rfl,hk⟩ | ⟨rfl,S,n,hk⟩
  ·obtain⟨its,_,pl,_⟩:=I.list hq
   refine⟨pl.isList.typeIs,fun a e=>?_⟩
   cases e
   obtain⟨o,n,e,c,hd,_⟩:=pl
   exact⟨o,e,hd⟩
  ·refine⟨⟨o,I.kIn p o hk,hc⟩,fun a e=>?_⟩
   cases e
   exact⟨o,I.kIn _ o hk,hd⟩
  ·have z:∃o,s.heap.get? p=some o∧o.ExactDict:=by
    rcases hk with ⟨kvs,hk⟩ | ⟨kvs,hk⟩
    ·obtain⟨_,_,_,_,o,_,_,e,ex,_⟩:=I.hok p _ hk
     exact⟨o,e,ex⟩
    ·obtain⟨_,_,_,_,o,_,_,e,ex,_⟩:=I.hok p _ hk
     exact⟨o,e,ex⟩
   obtain⟨o,e,ex⟩:=z
   refine⟨⟨o,e,ex.1⟩,fun a e2=>?_⟩
   cases e2
   exact⟨o,e,ex.2.1⟩
  ·obtain⟨o,_,_,_,e,ex,_⟩:=I.hok p _ hk
   refine⟨⟨o,e,ex.1⟩,fun a e2=>?_⟩
   cases e2
   exact⟨o,e,ex.2.1⟩
 | _=>exact False.elim ty
noncomputable def tBM (K:PySem.W.Frag)(T:String)(r:V→List V→Hp→VK→Prop)(to:TE)(t:TA):TE:=fun σ H Q=>to σ H fun x H1=>tyV K T x H1∧t σ H1 fun xs H2=>r x xs H2 Q
variable {o e:Expr}{es:List Expr}{to:TE}{t:TA}{name:Str}{apos cpos:Pos}{T id:String}{r:V→List V→Hp→VK→Prop}
theorem pe_bm (pa:PlainAttrs T)(slot:Slot T name id)(hty:typeOf (.builtin id)=pure (.type "method_descriptor"))(hm:MtR X id r)(ho:PE X o to)(ha:PA X (e :: es) t)
  (hbase:attributeBase o name X.env (eval o X.env)=eval o X.env:=by rfl)
  (hfew:((backTo cpos (starEach (e :: es) X.env)).all (fun x=>!x.1) && (backToKw cpos (keywordEach [] X.env)).all (fun x=>x.1.isSome)
   && decide ((e :: es).length+([]:List Keyword).length+(if ([]:List Keyword).isEmpty then 0 else 1)<30))=true:=by rfl)
  (hline:(apos.endLine == cpos.line)=true:=by rfl) (hs:starEach (e :: es) X.env=(false,eval e X.env) :: starEach es X.env:=by rfl) (hplain:(backTo cpos (starEach es X.env)).any (·.1)=false:=by rfl) :
  PE X (.Call (.Attribute o name apos) (e :: es) [] cpos) (tBM X.K T r to t):=by
 intro pins s σ H Q I h
 refine wpAny_Call_method_late hbase hfew hline rfl (thn (ho pins s σ H _ I h) fun v s1 ⟨x,H1,I1,r1,ty,q1⟩=>?_)
 obtain⟨h1,h2⟩:=tyV_is I1 r1 ty
 refine⟨T,id,pa,slot,hty,h1,h2,?_⟩
 have hA:=ha cpos pins s1 σ H1 _ I1 q1
 rw[hs]at hA ⊢
 refine Calls.callWith_builtin (by show (false || (backTo cpos (starEach es X.env)).any (·.1))=false;rw[hplain] <;> rfl) (Calls.evalArgs_plain ?_)
 exact thn hA fun us s2 ⟨vs,H2,I2,r2,q2⟩=>hm pins s2 σ H2 x vs v us Q I2 r1 r2 q2
/- xs.append(e),list.index on a module's tuple .. are MtR facts of 06m -/
end
noncomputable def MtM (X:Cx)(id:String)(r:V→List V→Hp→VK→Prop):Prop :=
 ∀(pins:List (Addr×Obj)) (s:Shared) (σ:St) (H:Hp) (x:V) (xs:List V) (v:Value) (us:List Value) (Q:VK),Inv X pins σ H s→RelV x v→Vals xs us→r x xs H Q →
  wpAny (model X.prog X.w) X.A (call (.builtin id) (v :: us)) (EP X pins σ Q) X.xe s
theorem Vals.one:∀ {x:V}{us:List Value},Vals [x] us→∃u,us = [u]∧RelV x u
 | _,_,.cons r .nil=>⟨_,rfl,r⟩
theorem Vals.dropLast {xs:List V}{us:List Value}(h:Vals xs us):Vals xs.dropLast us.dropLast:=by
 induction h with
 | nil=>exact .nil
 | cons r t ih =>
  cases t with
  | nil=>exact .nil
  | cons q t'=>exact .cons r ih
theorem Vals.reverse {xs:List V}{us:List Value}(h:Vals xs us):Vals xs.reverse us.reverse:=by
 induction h with
 | nil=>exact .nil
 | cons r t ih=>rw[List.reverse_cons,List.reverse_cons];exact Vals.append ih (.cons r .nil)
section
variable {X:Cx}{pins:List (Addr×Obj)}{σ:St}{H:Hp}{s:Shared}{l b:Addr}{xs ys zs:List V}
theorem Inv.lset {its its':List Value}{n:Nat}{f:Array Value→Array Value}{t':Nat}(I:Inv X pins σ H s)(hH:H l=some (.lst xs))
  (e:s.heap.get? l=some { cls:=.type "list",data:=.seq its.toArray n }) (hf:f its.toArray=its'.toArray) (hv:Vals ys its') (hz:ys.length≤sizeLine) :
  Inv X pins σ (upd H l (.lst ys)) { s with heap:=s.heap.update l (Obj.mapSeq f),toks:=t' }:=by
 have q:=PySem.IsL.update e f
 rw[hf]at q
 refine I.write (x:=l) (e:=l) (by rw[hH];exact trivial) (.inl rfl) (fun b' u hb hu=>(Heap.get?_update_other s.heap (Obj.mapSeq f) (Ne.symm hb)).trans hu) ⟨_,q⟩ ?_
 exact⟨hz,its',_,hv,q⟩
theorem Inv.lnew {its:List Value}{t':Nat}(I:Inv X pins σ H s)(hv:Vals ys its)(hz:ys.length≤sizeLine) :
  Inv X pins σ (upd H s.heap.objs.size (.lst ys)) { s with heap:=s.heap.push { cls:=.type "list",data:=.seq its.toArray },toks:=t' } :=
 I.laid (fun _ _ q=>Heap.get?_push_of_some _ q) (Nat.le_refl _) ⟨hz,its,0,hv,Heap.get?_push_size _ rfl⟩
theorem Inv.fresh (I:Inv X pins σ H s):H s.heap.objs.size=none:=I.hok.fresh (Nat.le_refl _)
theorem Inv.lstM (I:Inv X pins σ H s)(hH:H l=some (.lst xs)):xs.length≤sizeLine∧∃(its:List Value)(n:Nat),Vals xs its∧xs.length=its.length∧s.heap.get? l=some { cls:=.type "list",data:=.seq its.toArray n }:=by
 obtain⟨z,its,n,r,e⟩:=I.hok l _ hH
 exact⟨z,its,n,r,r.length,e⟩
theorem notLongL {n:Nat}(h:n≤sizeLine):Builtin.List.listTooLong n=false:=by
 unfold Builtin.List.listTooLong
 exact decide_eq_false (by omega)
end
section
variable {X:Cx}
noncomputable def rAppend:V→List V→Hp→VK→Prop:=fun x vs H Q=>∃l xs y,x = .ref l∧vs = [y]∧H l=some (.lst xs)∧xs.length<sizeLine∧Q .non (upd H l (.lst (xs ++ [y])))
theorem mt_append:MtM X "list.append" rAppend:=by
 intro pins s σ H x vs v us Q I rx rv h
 obtain⟨l,xs,y,rfl,rfl,hH,hz,q⟩:=h
 cases rx
 obtain⟨u,rfl,ru⟩:=rv.one
 obtain⟨z,its,n,r,hl,e⟩:=I.lstM hH
 refine call_meets F.slot_list_append ⟨_,e,rfl⟩ F.entry_list_append (F.args_list_append_2 _ _) (PySem.list_append l its.toArray n u (by rw[List.size_toArray];omega)) ⟨e,?_⟩
 refine⟨.non,_,I.lset (its':=its ++ [u]) hH e (by simp) (r.append (.cons ru .nil)) ?_,rfl,q⟩
 rw[List.length_append,List.length_singleton]
 omega
noncomputable def rCat:R2:=fun x y H Q=>∃l b xs zs,x = .ref l∧y = .ref b∧H l=some (.lst xs)∧H b=some (.lst zs)∧xs.length+zs.length≤sizeLine∧∀p,H p=none→Q (.ref p) (upd H p (.lst (xs ++ zs)))
theorem op_cat:OpR X (binaryOp .Add) rCat:=by
 intro pins s σ H x y v u Q I rx ry h
 obtain⟨l,b,xs,zs,rfl,rfl,hH,hB,hz,q⟩:=h
 cases rx
 cases ry
 obtain⟨z,its,n,r,hl,e⟩:=I.lstM hH
 obtain⟨z2,its2,n2,r2,hl2,e2⟩:=I.lstM hB
 refine PySem.P.add_list e e2 ?_ (by rw[List.size_toArray,List.size_toArray];omega)
 have ea:its.toArray ++ its2.toArray=(its ++ its2).toArray:=by simp
 rw[ea]
 exact⟨.ref _,_,I.lnew (t':=s.toks) (r.append r2) (by rw[List.length_append];omega),rfl,q _ I.fresh⟩
end
section
variable {prog:Program}{w:World}{A:Around}{E:Value→Shared→Prop}{s:Shared}
theorem bounds_run {a c n:Nat}(hac:a≤c)(hc:c≤n):sliceBounds (some (a:Int)) (some (c:Int)) none n=((a:Int),(c:Int),1):=by
 simp only[sliceBounds,Option.getD_none]
 have h1:¬ ((a:Int)<0):=by omega
 have h2:¬ ((c:Int)<0):=by omega
 simp only[h1,h2,if_false,show (1:Int) > 0 by decide,if_true]
 congr 1
 ·omega
 ·congr 1;omega
set_option maxRecDepth 100000 in
theorem setItem_slice {l b sl:Addr}{items new:Array Value}{n n2:Nat}{vl vu:Value}{a c:Nat}{Q:Unit→Shared→Prop}
    (e:s.heap.get? l=some { cls:=.type "list",data:=.seq items n }) (e2:s.heap.get? b=some { cls:=.type "list",data:=.seq new n2 }) (hne:l≠b)
    (hs:s.heap.IsSliceOf sl vl vu .none) (pl:IsPart vl (some (a:Int))) (pu:IsPart vu (some (c:Int))) (hac:a≤c) (hc:c≤items.size)
    (hsz:items.size+new.size≤sizeLine) (h:Q () { s with heap:=s.heap.update l (Obj.mapSeq fun xs=>xs.extract 0 a ++ new ++ xs.extract c xs.size) }) :
    wpAny (model prog w) A (setItem (.ref l) (.ref sl) (.ref b)) Q E s:=by
  have hl:s.heap.IsList l items:=PySem.IsL.isList e
  have hb:s.heap.IsList b new:=PySem.IsL.isList e2
  obtain⟨os,hos,hcs,hds⟩:=id hs
  have hTs:s.TypeIs (.ref sl) "slice":=⟨os,hos,hcs⟩
  have hstep:¬ ((rawPart none == rawInt 0)=true):=Bool.false_ne_true
  have hsame:Builtin.List.listSameRef (.ref l) (.ref b)=false:=by
    unfold Builtin.List.listSameRef
    exact beq_eq_false_iff_ne.mpr hne
  have hmax:(max (a:Int) (c:Int)).toNat=c:=by omega
  have hz':((fun xs:Array Value=>xs.extract 0 a ++ new ++ xs.extract c xs.size) items).size≤sizeLine+1:=by
    simp only[Array.size_append,Array.size_extract]
    omega
  unfold setItem
  try with_reducible refine wpAny_holding ?_
  first |refine wpAny_bind (wpAny_pure ?_) |skip
  refine wpAny_bind (wpAny_sequenceKey hl.typeIs (by decide) ?_)
  refine wpAny_bind (wpAny_callSpecial?_slot (name:=Str.ofString "__setitem__") hl.typeIs slot_list_setitem
    (wpAny_call_entry slot_list_setitem hl.typeIs entry_list_setitem ?_ (args_list_setitem _ _ _)))
  show wpAny _ _ (Builtin.List.listSubscript? (.ref sl) >>= _) _ _ s
  refine wpAny_bind ?_
  unfold Builtin.List.listSubscript?
  refine wpAny_bind (wpAny_specialOf hTs slice_no_index ?_)
  simp only[Option.isNone_none,if_true]
  refine wpAny_pure ?_
  show wpAny _ _ (typeOf (.ref sl) >>= _) _ _ s
  refine wpAny_bind (wpAny_typeOf hTs ?_)
  first
    | rw[if_neg (by decide)]
    | refine PySem.W.KFB.if_not (by decide) ?_
  rw[listSliceParts_eq]
  refine wpAny_bind (wpAny_bind (wpAny_field hos hds (x:=.none) rfl (wpAny_bind (wpAny_listPart .none ?_))))
  rw[if_neg hstep]
  refine wpAny_bind (wpAny_field hos hds (x:=vl) rfl (wpAny_bind (wpAny_listPart pl ?_)))
  refine wpAny_bind (wpAny_field hos hds (x:=vu) rfl (wpAny_bind (wpAny_listPart pu (wpAny_pure ?_))))
  first
    | simp only[hsame,Bool.false_eq_true,if_false]
    | refine PySem.W.KFB.if_not hsame ?_
    | (dsimp only
       rw[if_neg (by rw[hsame];exact Bool.false_ne_true)])
  refine wpAny_bind (m:=Builtin.List.listAllItems (.ref b) "must assign iterable to extended slice") ?_
  unfold Builtin.List.listAllItems
  refine wpAny_bind (wpAny_typeOf hb.typeIs ?_)
  first
    | refine PySem.W.KFB.if_so (by decide) ?_
    | rw[if_pos (by decide)]
    | simp only[beq_self_eq_true,Bool.true_or,if_true]
  unfold Builtin.List.listItems
  refine wpAny_bind (wpAny_seqItems e2 rfl (wpAny_pure ?_))
  refine wpAny_bind (wpAny_bind (wpAny_seqItems e rfl (wpAny_pure ?_)))
  refine wpAny_bind (wpAny_of_eq ((sliceIndices_raw (some (a:Int)) (some (c:Int)) none items.size (by simp)).trans (congrArg (pure:Int×Int×Int→Sem (Int×Int×Int)) (bounds_run hac hc))) ?_)
  show wpAny _ _ (if ((1:Int) == 1)=true then _ else _) _ _ s
  rw[if_pos (by decide)]
  refine wpAny_bind (wpAny_rule ?_)
  first
    | simp only[notLongL hsz,Bool.false_eq_true,if_false]
    | refine PySem.W.KFB.if_not (notLongL hsz) ?_
  first |refine wpAny_bind (wpAny_pure ?_) |skip
  show wpAny _ _ (updateSeq l (fun xs=>xs.extract 0 ((a:Int)).toNat ++ new ++ xs.extract (max (a:Int) (c:Int)).toNat xs.size) >>= _) _ _ s
  rw[hmax,Int.toNat_natCast]
  refine wpAny_bind (wpAny_updateSeq (hz:=Nat.le_trans (Nat.le_add_right _ _) hsz) (_hz':=hz') e rfl ?_)
  refine wpAny_bind (wpAny_letGo ?_)
  first
    | exact wpAny_bind (wpAny_pure (wpAny_pure ⟨.none,rfl,wpAny_pure h⟩))
    | exact wpAny_pure ⟨.none,rfl,wpAny_pure h⟩
end
section
variable {X:Cx}
end
end L2
namespace Att
open PySem PySem.W PySem.Calls PyProof.Rows
theorem ints_of_wellAll {P:Params}{h:Heap}:∀(ns:List Int)(vs:List Value),WellAll P h vs (ns.map WData.int)→IntsAre vs ns:=by
 intro ns
 induction ns with
 | nil =>
  intro vs w
  rw[List.map_nil]at w
  cases w
  exact .nil
 | cons n ns ih =>
  intro vs w
  rw[List.map_cons]at w
  cases w with
  | cons a b =>
   cases a
   exact .cons _ _ (ih _ b)
theorem script_of {l:OpenLaw}{n:Nat}(hn:l.most=some n) {P:Params}{h:Heap}{args:List WData}{vals:List Value}
  (hpre:l.row.toRowW.claim.pre args=true) (hwl:WellAll P h vals args) :
  ∃a vs ns,vals = [Value.ref a]∧args = [WData.list (ns.map WData.int)]∧h.get? a=some { cls:=.type "list",data:=.seq vs.toArray }∧IntsAre vs ns∧ns.length≤n:=by
 have hsh:WShape.hasAll [] args [.list .int]=true:=(pre_splitW hpre).1
 have hc:l.pre.holds [] { args:=args } = true:=(pre_splitW hpre).2
 obtain⟨d,r,rfl,h1,h2⟩:=hasAllW_cons hsh
 obtain rfl:=hasAllW_nil h2
 obtain⟨xs,rfl,h3⟩:=hasW_list h1
 obtain⟨ns,rfl⟩:=items_int h3
 have hlen:ns.length≤n:=by
  unfold OpenLaw.pre at hc
  have h4:(WTm.not (.lt (.lit (.int (n:Int))) (.len (.arg 0)))).holds [] { args:=[.list (ns.map .int)] } = true:=by
   have h4:=(holds_andW hc).1
   rw[hn]at h4
   exact h4
  have h5:=condW_of h4 (w_not (w_lt w_lit (w_len_list (w_arg rfl))))
  rw[List.length_map]at h5
  refine Nat.le_of_not_lt fun q=>?_
  have q':(n:Int)<((ns.length:Nat):Int):=by omega
  first
   | (rw[decide_eq_true q']at h5;exact absurd h5 (by decide))
   | (simp at h5;omega)
 cases hwl with
 | cons w1 w2 =>
  cases w2
  cases w1 with
  | list ho hall=>exact⟨_,_,ns,rfl,rfl,ho,ints_of_wellAll ns _ hall,hlen⟩
theorem post_true (l:OpenLaw)(args:List WData):l.row.toRowW.claim.post args (.bool true) args=true :=
 postW_of (r:=l.row.toRowW) (X:=(true == true))
  (show WShape.has [] (.bool true) .bool=true by first |rfl |decide |simp[WShape.has,WShape.arms,WShape.armsAll])
  (show (WTm.eq .res (.lit (.bool true))).value [] { args:=args,res:=some (.bool true),after:=args } = some (.bool (true == true))from w_eq_bool (w_res rfl) w_lit) rfl
theorem attach_call {l:OpenLaw}{n:Nat}{q:Program}{loose:List Str}{XP:(Str→Option Value)→Heap→Prop}{YP:World→Heap→Prop}{d:DefRec}
  (hn:l.most=some n) (hdf:d.params.defaults = [])
  (call:∀(w:World) (s₀ s₁:Shared) (mg mb:Str→Option Value) (fa:Addr) (o:Obj) (pm cd doc:Value) (a:Addr) (vs:List Value) (ns:List Int),
   Ground q loose [] XP w s₀ mg mb s₁.heap→YP w s₁.heap →
   s₁.heap.get? fa=some o→o.data = .func (docDef d.name d.params d.body d.scope pm cd doc)→s₁.heap.CodeRec cd d.name→mg d.name=some (.ref fa) →
   s₁.heap.get? a=some { cls:=.type "list",data:=.seq vs.toArray }→IntsAre vs ns→ns.length≤n→s₁.gens = #[] →
   codeAny (model l.prog w) callerA (.call (.ref fa) ⟨[.ref a],[]⟩) (fun r s'=>r = .ok (.ret (.bool true))∧OldK s₁.heap s'.heap∧s'.os=s₁.os∧AllBare s'.gens) s₁) :
  WalkO q loose XP YP l.row.toRowW d [] (fun f vs=>PySem.call f vs):=by
 intro w s₀ s₁ mg mb G Y fa o pm cd doc dV kV ho hd hcd hD hmg hg args vals as hpre hlay hrd hwl hlo
 obtain rfl:dV = .none:=Dflts.none hD hdf
 obtain rfl:kV = .none:=Dflts.noKw hD
 obtain⟨a,vs,ns,rfl,rfl,hobj,hints,hlen⟩:=script_of hn hpre hwl
 refine enter_call (codeAny_mono (call w s₀ s₁ mg mb fa o pm cd doc a vs ns G Y ho (fd_plain hd) hcd hmg hobj hints hlen hg) fun r s' hq=>?_)
 obtain⟨rfl,h2,h3,h4⟩:=hq
 exact⟨.inl ⟨.bool true,.bool true,[],rfl,fun _=>rfl,.bool true,post_true l _,fun _=>⟨List.Pairwise.nil,fun _ hm=>(nomatch hm)⟩⟩,h2,h3,h4⟩
section
variable {prog:Program}{w:World}{A:Around}{E:Value→Shared→Prop}{s:Shared}{K:Frag}
end
end Att
namespace L2
open PySem PySem.Spec PyProof.Rows
theorem vals_ints:∀ {vs:List Value}{ns:List Int},IntsAre vs ns→Vals (ns.map V.int) vs
 | _,_,.nil=>.nil
 | _,_,.cons n t h=>.cons ⟨t,rfl⟩ (vals_ints h)
noncomputable def Only (H:Hp):Prop:=∀b,H b=none∨∃o xs,H b=some (.frz o (.lst xs))
theorem law_call {P:Program}{w:World}{K:PySem.W.Frag}{mg mb:Str→Option Value}{CX:CXT}{k:Nat}{fa a:Addr}{fd:FuncData}{x:Str}{sp:Sp}{s₁:Shared}{vs:List Value}{ns:List Int}
  (KX:K.In s₁.heap) (hns:s₁.heap.Ns mainGlobals mg) (hb:s₁.heap.Ns builtinsNs mb) (hbb:∀x:Str,x ≠ "__name__"→mb x=bootBuiltins x) (hlim:s₁.heap.NoLimit) (hg:s₁.gens = #[])
  (ha:s₁.heap.get? a=some { cls:=.type "list",data:=.seq vs.toArray }) (hi:IntsAre vs ns) (hl:ns.length≤sizeLine) (hr:Room k callerA)
  (F:∀base:Heap,K.In base→base.Ns mainGlobals mg→FnOk P w K mg base CX k fa fd [x] sp) (hbind:∀(s:Shared) (u:Value),BindsTo s fd ⟨[u],[]⟩ [(x,u)])
  (hsp:∀H:Hp,Only H→SqL K H a (ns.map V.int)→sp [.ref a] H (fun v _=>v = .bl true) fun _ _ _=>False)
  (hCX:∀H e s',CX [] H s₁ (fun _ _ _=>False) e s'→False) :
  codeAny (model P w) callerA (.call (.ref fa) ⟨[.ref a],[]⟩) (fun r s'=>r = .ok (.ret (.bool true))∧OldK s₁.heap s'.heap∧s'.os=s₁.os∧AllBare s'.gens) s₁:=by
 have rv:=vals_ints hi
 have lenV:=hi.length
 -- from an abstract heap in which nothing but the script may be tracked
 have core : ∀H:Hp,Only H→SqL K H a (ns.map V.int)→HOk P w H s₁.heap→(∀b,H b≠none→b=a)→(H a≠none→K.lookup a=none) →
   codeAny (model P w) callerA (.call (.ref fa) ⟨[.ref a],[]⟩) (fun r s'=>r = .ok (.ret (.bool true))∧OldK s₁.heap s'.heap∧s'.os=s₁.os∧AllBare s'.gens) s₁:=by
  intro H hO hS hok hA hK
  have base_of:∀ {b:Addr}{o:Obj},s₁.heap.get? b=some o→H b=none→(hidT s₁.heap H).get? b=some o:=fun e n=>hidT_get e n
  have noA:∀ {b:Addr}{o:Obj}{es:Array DictEntry}{ep:Nat},s₁.heap.get? b=some o→o.data = .dict es ep→H b=none:=fun {b o es ep} e d=>by
   cases q:H b with
   | none=>rfl
   | some u =>
    have e':b=a:=hA b (by rw[q];simp)
    subst e'
    rw[ha]at e;cases e
    have d':Data.seq vs.toArray _=Data.dict es ep:=d
    cases d'
  have nsK:∀ {b:Addr}{m:Str→Option Value},s₁.heap.Ns b m→(hidT s₁.heap H).Ns b m:=fun {b m} ⟨o,es,ep,e,d,r⟩=>⟨o,es,ep,base_of e (noA e d),d,r⟩
  have hKb:K.In (hidT s₁.heap H):=fun b o e=>base_of (KX b o e) (by
   cases q:H b with
   | none=>rfl
   | some u =>
    have e':b=a:=hA b (by rw[q];simp)
    subst e'
    rw[hK (by rw[q];simp)]at e;cases e)
  have hM:Mod K mg (hidT s₁.heap H):=⟨hKb,nsK hns,⟨mb,nsK hb,hbb⟩,let ⟨mc,h1,h2⟩:=hlim; ⟨mc,nsK h1,h2⟩⟩
  have e0:Env0 P w K mg (hidT s₁.heap H) callerA [] s₁ H:=⟨rfl,hM,fun b o e=>of_hidT e,Nat.le_of_eq (hidT_size _ _),trivial,fun b hb=>absurd (show b∈([]:List Addr)from hb) (by simp),hok,.of_eq hg⟩
  refine codeAny_mono ((F _ hKb (nsK hns)).run callerA [] s₁ H ⟨[.ref a],[]⟩ [.ref a] [.ref a] _ _ hr e0 (hbind s₁ (.ref a)) (.cons rfl .nil) (hsp H hO hS)) fun r s' h=>?_
  cases r with
  | error e=>exact(hCX H e s' h).elim
  | ok fl =>
   cases fl with
   | next=>exact False.elim h
   | brk=>exact False.elim h
   | cont=>exact False.elim h
   | ret u =>
    obtain⟨v,H',os,bare,un,hok',r',q⟩:=h
    have q':v = .bl true:=q
    subst q'
    obtain rfl:u=Value.bool true:=r'
    refine⟨rfl,OldK.of_keep fun b o e=>?_,os,bare⟩
    cases q:H b with
    | none=>exact un.keep b o e q (by intro z;exact absurd (show b∈([]:List Addr)from z) (by simp)) (by simp)
    | some u =>
     rcases hO b with z | ⟨ob,xs,z⟩
     ·rw[q]at z;cases z
     ·have z2:=un.frzs b ob _ z
      obtain⟨e1,_⟩:=hok b _ z
      obtain⟨e2,_⟩:=hok' b _ z2
      rw[e]at e1;cases e1
      exact e2
 cases hk:K.lookup a with
 | some o =>
  -- the script is one of the module's own objects
  have e:=KX a o hk
  rw[ha]at e
  cases e
  refine core (fun _=>none) (fun _=>.inl rfl) (.inr ⟨_,vs.toArray,_,hk,rfl,rfl,rfl,by rw[List.size_toArray,lenV];exact hl,by simpa using rv⟩) (fun b u z=>by have z':(none:Option HO)=some u:=z;cases z') (fun b z=>absurd rfl z) fun z=>absurd rfl z
 | none =>
  refine core (fun b=>if b=a then some (.frz { cls:=.type "list",data:=.seq vs.toArray } (.lst (ns.map V.int))) else none) (fun b=>?_) (.inl (.inr ⟨{ cls:=.type "list",data:=.seq vs.toArray },if_pos rfl⟩)) (fun b u z=>?_) (fun b z=>?_) fun _=>hk
  ·by_cases hb:b=a
   ·exact .inr ⟨_,_,if_pos hb⟩
   ·exact .inl (if_neg hb)
  ·by_cases hb:b=a
   ·have z':=(if_pos hb).symm.trans z
    cases z'
    subst hb
    exact⟨ha,by rw[List.length_map];exact hl,vs,_,rv,ha⟩
   ·have z':=(if_neg hb).symm.trans z
    cases z'
  ·by_cases hb:b=a
   ·exact hb
   ·exact absurd (if_neg hb) z
theorem walk_of {l:PySem.W.OpenLaw}{n k:Nat}{q:Program}{loose:List Str}{XP:(Str→Option Value)→Heap→Prop}{YP:World→Heap→Prop}{d:DefRec}{K:Params→PySem.W.Frag}{CX:World→CXT}{sp:World→Sp}{x:Str}
  (hn:l.most=some n) (hn2:n≤sizeLine) (hdf:d.params.defaults = []) (hr:Room k callerA)
  (hY:∀(w:World) (h:Heap),YP w h→(K w.params).In h)
  (F:∀(w:World) (mg:Str→Option Value) (fa:Addr) (h:Heap),(K w.params).In h→h.Ns mainGlobals mg→mg d.name=some (.ref fa) →
   ∃fd:FuncData,(∀(s:Shared) (u:Value),BindsTo s fd ⟨[u],[]⟩ [(x,u)]) ∧
    ∀base:Heap,(K w.params).In base→base.Ns mainGlobals mg→FnOk l.prog w (K w.params) mg base (CX w) k fa fd [x] (sp w))
  (hsp:∀(w:World) (H:Hp) (a:Addr) (ns:List Int),ns.length≤n→Only H→SqL (K w.params) H a (ns.map V.int)→sp w [.ref a] H (fun v _=>v = .bl true) fun _ _ _=>False)
  (hCX:∀(w:World) (H:Hp) (s:Shared) (e:Value) (s':Shared),CX w [] H s (fun _ _ _=>False) e s'→False) :
  PySem.W.WalkO q loose XP YP l.row.toRowW d [] (fun f vs=>PySem.call f vs):=by
 refine Att.attach_call hn hdf fun w s₀ s₁ mg mb fa o pm cd doc a vs ns G Y ho hd hcd hmg hobj hints hlen hg=>?_
 have KX:=hY w _ Y
 obtain⟨fd,hb,hF⟩:=F w mg fa _ KX G.T.g hmg
 exact law_call KX G.T.g G.T.b G.T.builtins G.T.nolimit hg hobj hints (Nat.le_trans hlen hn2) hr hF hb (fun H hO hS=>hsp w H a ns hlen hO hS) fun H e s'=>hCX w H s₁ e s'
theorem walk_ofK {l:PySem.W.OpenLaw}{n k:Nat}{q:Program}{loose:List Str}{XP:(Str→Option Value)→Heap→Prop}{YP:World→Heap→Prop}{d:DefRec}{K:Params→PySem.W.Frag}{CX:CXT}{sp:PySem.W.Frag→Sp}{x:Str}
  (hn:l.most=some n) (hn2:n≤sizeLine) (hdf:d.params.defaults = []) (hr:Room k callerA)
  (hY:∀(w:World) (h:Heap),YP w h→(K w.params).In h)
  (F:∀(w:World) (mg:Str→Option Value) (fa:Addr) (h:Heap),(K w.params).In h→h.Ns mainGlobals mg→mg d.name=some (.ref fa) →
   ∃fd:FuncData,(∀(s:Shared) (u:Value),BindsTo s fd ⟨[u],[]⟩ [(x,u)]) ∧
    ∀base:Heap,(K w.params).In base→base.Ns mainGlobals mg→FnOk l.prog w (K w.params) mg base CX k fa fd [x] (sp (K w.params)))
  (hsp:∀(K:PySem.W.Frag) (H:Hp) (a:Addr) (ns:List Int),ns.length≤n→Only H→SqL K H a (ns.map V.int)→sp K [.ref a] H (fun v _=>v = .bl true) fun _ _ _=>False)
  (hCX:∀(H:Hp) (s:Shared) (e:Value) (s':Shared),CX [] H s (fun _ _ _=>False) e s'→False) :
  PySem.W.WalkO q loose XP YP l.row.toRowW d [] (fun f vs=>PySem.call f vs) :=
 walk_of (K:=K) (CX:=fun _=>CX) (sp:=fun w=>sp (K w.params)) hn hn2 hdf hr hY F (fun w H a ns h1 h2 h3=>hsp (K w.params) H a ns h1 h2 h3) fun _ H s e s'=>hCX H s e s'
noncomputable def inClass (s:Stmt)(j:Nat):Stmt:=match s with
 | .ClassDef _ _ _ body _ _ _ _ _ _ _=>body.getD j (.Pass ⟨0,0,0,0⟩)
 | _=>.Pass ⟨0,0,0,0⟩
noncomputable def defArgs (s:Stmt):Arguments:=match s with
 | .FunctionDef _ a _ _ _ _ _ _ _ _=>a
 | _=>{ posonlyargs:=[],args:=[],vararg:=none,kwonlyargs:=[],kw_defaults:=[],kwarg:=none,defaults:=[] }
noncomputable def defBody (s:Stmt):List Stmt:=match s with
 | .FunctionDef _ _ b _ _ _ _ _ _ _=>b
 | _=>[]
noncomputable def defScope (s:Stmt):Scope:=match s with
 | .FunctionDef _ _ _ _ _ _ sc _ _ _=>sc
 | _=>{ kind:=.function,names:=[],isGenerator:=false,isCoroutine:=false }
noncomputable abbrev CX0:CXT:=fun _ _ _ _ _ _=>False
noncomputable abbrev E0:XK:=fun _ _ _=>False
theorem pass0 {X:Cx}:Passes CX0 X E0:=fun _ _ _ _ _ _ _ h=>h.elim
structure Fun (K:PySem.W.Frag) (x qual:Str) (st:Stmt) (f:Addr) (fd:FuncData):Prop where
 ex:∃(oc:Value) (od:Option Addr) (kV doc pm:Value) (an:Option Addr) (cdv ct:Value) (osl:Array (Option Value)),
  fd=PySem.W.fnOf x qual (defArgs st) (defBody st) (defScope st) .none kV doc pm an cdv ct∧K.lookup f=some ⟨oc,od,.func fd,osl⟩∧PySem.W.codeIn K cdv qual=true
 kp:PySem.W.keepIn K (.ref f)=true
section
variable {P:Program}{w:World}{K:PySem.W.Frag}{mg:Str→Option Value}{base:Heap}
theorem Fun.ok {x qual:Str}{st:Stmt}{f:Addr}{fd:FuncData}{N ps:List Str}{k:Nat}{sp:Sp}(F:Fun K x qual st f fd)(S:FnScope N ps (defScope st))(len:∀vs H Q E,sp vs H Q E→vs.length=ps.length)
  (hbody:∀(cdv:Value) (A:Around) (outer:List Env) (s:Shared) (H:Hp) (vs:List V) (Q:VK) (E:XK),Room k (A.deeper (envOfC qual (defScope st) s.heap.objs.size f cdv))→sp vs H Q E →
   ∃t,PSs (cxOf CX0 P w K mg base N qual (defScope st) f cdv A outer s H E).nox (defBody st) t∧t { nx:=fun _ H'=>Q .non H',rt:=Q } (start N vs) H):FnOk P w K mg base CX0 (k+1) f fd ps sp:=by
 obtain⟨oc,od,kV,doc,pm,an,cdv,ct,osl,rfl,lk,hcd⟩:=F.ex
 refine fn_of lk hcd S len fun A outer s H vs Q E hr hsp=>?_
 obtain⟨t,h,q⟩:=hbody cdv A outer s H vs Q E hr hsp
 exact⟨t,h.nox,q⟩
theorem Fun.binds {x qual:Str}{st:Stmt}{f:Addr}{fd:FuncData}{ps:List Str}(F:Fun K x qual st f fd)
  (h:∀(kV doc pm:Value) (an:Option Addr) (cdv ct:Value) (us:List Value),us.length=ps.length→bindArgs (PySem.W.fnOf x qual (defArgs st) (defBody st) (defScope st) .none kV doc pm an cdv ct) ⟨us,[]⟩ = pure (ps.zip us)):Binds K fd ps []:=by
 obtain⟨oc,od,kV,doc,pm,an,cdv,ct,osl,rfl,lk,hcd⟩:=F.ex
 exact .all (h kV doc pm an cdv ct)
end
section
variable {X:Cx}
theorem pv (i:Nat) {x:Str}{pos:Pos}(hN:X.N[i]? = some x:=by rfl)(hv:Vis X.env.scope x:=by first |exact Or.inl rfl |exact Or.inr (Or.inl rfl) |exact Or.inr (Or.inr rfl))(hd:(x == ("__debug__":Str))=false:=by decide)
  (hcd:(x == ("__classdict__":Str))=false:=by decide):PE X (.Name x pos) (tVar i):=pe_var hN hv hd hcd
end
noncomputable def Same (H H':Hp):Prop:=∀b o,H b=some o→H' b=some o
theorem Same.refl (H:Hp):Same H H:=fun _ _ h=>h
theorem Same.trans {H H1 H2:Hp}(a:Same H H1)(b:Same H1 H2):Same H H2:=fun c o h=>b c o (a c o h)
theorem Same.free {H H':Hp}(e:Same H H') {l:Addr}(h:H' l=Option.none):H l=Option.none:=by
 cases q:H l with
 | none=>rfl
 | some o =>
  rw[e l o q]at h
  cases h
theorem Same.seq {K:PySem.W.Frag}{H H':Hp}{a:Addr}{xs:List V}(e:Same H H')(h:SqL K H a xs):SqL K H' a xs:=by
 rcases h with (h | ⟨o,h⟩) |h
 ·exact .inl (.inl (e _ _ h))
 ·exact .inl (.inr ⟨o,e _ _ h⟩)
 ·exact .inr h
section
variable {κ:Type}[DecidableEq κ]
noncomputable def valV (kvs:List (κ×V))(k:κ):Option V:=(kvs.find? fun kv=>decide (kv.1=k)).map (·.2)
noncomputable def putK (kvs:List (κ×V))(k:κ)(v:V):List (κ×V) :=
 if (kvs.any fun kv=>decide (kv.1=k))=true then kvs.map (fun kv=>if kv.1=k then (kv.1,v) else kv) else kvs ++ [(k,v)]
noncomputable def dropK (kvs:List (κ×V))(k:κ):List (κ×V):=kvs.filter fun kv=>decide (kv.1≠k)
theorem valV_pos {p:κ×V}{r:List (κ×V)}{k:κ}(e:p.1=k):valV (p :: r) k=some p.2:=by simp[valV,List.find?_cons,e]
theorem valV_neg {p:κ×V}{r:List (κ×V)}{k:κ}(e:¬ p.1=k):valV (p :: r) k=valV r k:=by simp[valV,List.find?_cons,e]
theorem valV_any (k:κ):∀kvs:List (κ×V),(kvs.any fun kv=>decide (kv.1=k))=(valV kvs k).isSome
 | []=>rfl
 | p :: r=>by
  rw[List.any_cons]
  by_cases e:p.1=k
  ·simp only[valV_pos e,decide_eq_true e,Bool.true_or,Option.isSome_some]
  ·rw[valV_neg e,decide_eq_false e,Bool.false_or];exact valV_any k r
theorem RelO.isSome_eq {o:Option V}{u:Option Value}(r:RelO o u):o.isSome=u.isSome:=by
 cases o with
 | none=>cases u with
  | none=>rfl
  | some _=>exact(show False from r).elim
 | some _=>cases u with
  | none=>exact(show False from r).elim
  | some _=>rfl
theorem KV.val {kvs:List (κ×V)}{vs:List (κ×Value)}(r:KV kvs vs)(k:κ):RelO (valV kvs k) (valueAt vs k):=by
 unfold KV at r
 induction r with
 | nil=>exact True.intro
 | @cons p q ps qs h t ih =>
  obtain⟨h1,h2⟩:=h
  by_cases e:p.1=k
  ·have e':q.1=k:=h1.symm.trans e
   have b:valueAt (q :: qs) k=some q.2:=by simp[valueAt,List.find?_cons,e']
   rw[valV_pos e,b];exact h2
  ·have e':¬ q.1=k:=fun z=>e (h1.trans z)
   have b:valueAt (q :: qs) k=valueAt qs k:=by simp[valueAt,List.find?_cons,e']
   rw[valV_neg e,b];exact ih
theorem KV.any {kvs:List (κ×V)}{vs:List (κ×Value)}(r:KV kvs vs)(k:κ):(kvs.any fun kv=>decide (kv.1=k))=vs.any fun kv=>decide (kv.1=k):=by
 unfold KV at r
 induction r with
 | nil=>rfl
 | cons h t ih=>rw[List.any_cons,List.any_cons,ih,h.1]
theorem KV.repl {kvs:List (κ×V)}{vs:List (κ×Value)}(r:KV kvs vs)(k:κ) {y:V}{u:Value}(ry:RelV y u) :
  KV (kvs.map fun kv=>if kv.1=k then (kv.1,y) else kv) (vs.map fun kv=>if kv.1=k then (kv.1,u) else kv):=by
 unfold KV at r ⊢
 induction r with
 | nil=>exact .nil
 | @cons p q ps qs h t ih =>
  rw[List.map_cons,List.map_cons]
  refine .cons ?_ ih
  obtain⟨h1,h2⟩:=h
  by_cases e:p.1=k
  ·rw[if_pos e,if_pos (h1.symm.trans e)];exact⟨h1,ry⟩
  ·rw[if_neg e,if_neg (fun z=>e (h1.trans z))];exact⟨h1,h2⟩
theorem KV.put {kvs:List (κ×V)}{vs:List (κ×Value)}(r:KV kvs vs)(k:κ) {y:V}{u:Value}(ry:RelV y u):KV (putK kvs k y) (stored vs k u):=by
 unfold putK stored
 rw[r.any k]
 by_cases e:(vs.any fun kv=>decide (kv.1=k))=true
 ·rw[if_pos e,if_pos e];exact r.repl k ry
 ·rw[if_neg e,if_neg e];exact Paired.snoc r ⟨rfl,ry⟩
theorem KV.drop {kvs:List (κ×V)}{vs:List (κ×Value)}(r:KV kvs vs)(k:κ):KV (dropK kvs k) (without vs k):=by
 unfold KV at r ⊢
 unfold dropK without
 induction r with
 | nil=>exact .nil
 | @cons p q ps qs h t ih =>
  obtain⟨h1,h2⟩:=h
  rw[List.filter_cons,List.filter_cons]
  by_cases e:p.1=k
  ·have a:¬ decide (p.1≠k)=true:=by simp[e]
   have b:¬ decide (q.1≠k)=true:=by simp[h1.symm.trans e]
   rw[if_neg a,if_neg b];exact ih
  ·have e':¬ q.1=k:=fun z=>e (h1.trans z)
   have a:decide (p.1≠k)=true:=by simp[e]
   have b:decide (q.1≠k)=true:=by simp[e']
   rw[if_pos a,if_pos b];exact .cons ⟨h1,h2⟩ ih
theorem KV.keys {kvs:List (κ×V)}{vs:List (κ×Value)}(r:KV kvs vs):kvs.map (·.1)=vs.map (·.1):=by
 unfold KV at r
 induction r with
 | nil=>rfl
 | cons h t ih=>rw[List.map_cons,List.map_cons,ih,h.1]
end
noncomputable abbrev KT (H:Hp):List (List Key×V)→List (List Key×Addr×Value)→Prop:=Paired fun p q=>p.1=q.1∧H q.2.1=some (.tup (p.1.map kV))∧RelV p.2 q.2.2
theorem KT.val {H:Hp}{kvs:List (List Key×V)}{xs:List (List Key×Addr×Value)}(r:KT H kvs xs)(k:List Key):RelO (valV kvs k) ((atKey xs k).map (·.2)):=by
 induction r with
 | nil=>exact True.intro
 | @cons p q ps qs h t ih =>
  obtain⟨h1,_,h2⟩:=h
  by_cases e:p.1=k
  ·have e':q.1=k:=h1.symm.trans e
   have b:atKey (q :: qs) k=some q.2:=by simp[atKey,List.find?_cons,e']
   rw[valV_pos e,b];exact h2
  ·have e':¬ q.1=k:=fun z=>e (h1.trans z)
   have b:atKey (q :: qs) k=atKey qs k:=by simp[atKey,List.find?_cons,e']
   rw[valV_neg e,b];exact ih
theorem KT.repl {H:Hp}{kvs:List (List Key×V)}{xs:List (List Key×Addr×Value)}(r:KT H kvs xs)(k:List Key) {y:V}{u:Value}(ry:RelV y u) :
  KT H (kvs.map fun kv=>if kv.1=k then (kv.1,y) else kv) (xs.map (putAt k u)):=by
 induction r with
 | nil=>exact .nil
 | @cons p q ps qs h t ih =>
  rw[List.map_cons,List.map_cons]
  refine .cons ?_ ih
  obtain⟨h1,h2,h3⟩:=h
  unfold putAt
  by_cases e:p.1=k
  ·rw[if_pos e,if_pos (h1.symm.trans e)];exact⟨h1,h2,ry⟩
  ·rw[if_neg e,if_neg (fun z=>e (h1.trans z))];exact⟨h1,h2,h3⟩
theorem KT.put {H:Hp}{kvs:List (List Key×V)}{xs:List (List Key×Addr×Value)}(r:KT H kvs xs)(k:List Key) {b:Addr}{y:V}{u:Value}(hb:H b=some (.tup (k.map kV)))(ry:RelV y u) :
  KT H (putK kvs k y) (storedH xs k b u):=by
 have e:(kvs.any fun kv=>decide (kv.1=k))=(atKey xs k).isSome:=by
  rw[valV_any,(r.val k).isSome_eq,Option.isSome_map]
 unfold putK storedH
 rw[e]
 by_cases q:(atKey xs k).isSome=true
 ·rw[if_pos q,if_pos q];exact r.repl k ry
 ·rw[if_neg q,if_neg q];exact Paired.snoc r ⟨rfl,hb,ry⟩
section
variable {P:Program}{w:World}{H:Hp}{h:Heap}{a:Addr}
end
noncomputable def DGet (H:Hp)(a:Addr)(y:V)(r:Option V):Prop :=
 (∃kvs k,Rd H a (.dK kvs)∧y=kV k∧r=valV kvs k)∨∃kvs k b,Rd H a (.dT kvs)∧y = .ref b∧H b=some (.tup (k.map kV))∧r=valV kvs k
noncomputable def DPut (H:Hp)(a:Addr)(y v:V)(H':Hp):Prop :=
 (∃kvs k,H a=some (.dK kvs)∧y=kV k∧kvs.length<sizeLine∧H'=upd H a (.dK (putK kvs k v))) ∨
 ∃kvs k b,H a=some (.dT kvs)∧y = .ref b∧H b=some (.tup (k.map kV))∧kvs.length<sizeLine∧H'=upd H a (.dT (putK kvs k v))
theorem DGet.k {H:Hp}{a:Addr}{kvs:List (Key×V)}{k:Key}(e:H a=some (.dK kvs)):DGet H a (kV k) (valV kvs k):=.inl ⟨kvs,k,.inl e,rfl,rfl⟩
theorem DGet.t {H:Hp}{a b:Addr}{kvs:List (List Key×V)}{k:List Key}(e:H a=some (.dT kvs))(eb:H b=some (.tup (k.map kV))):DGet H a (.ref b) (valV kvs k):=.inr ⟨kvs,k,b,.inl e,rfl,eb,rfl⟩
theorem DPut.k {H:Hp}{a:Addr}{kvs:List (Key×V)}{k:Key}{v:V}(e:H a=some (.dK kvs))(hl:kvs.length<sizeLine):DPut H a (kV k) v (upd H a (.dK (putK kvs k v))):=.inl ⟨kvs,k,e,rfl,hl,rfl⟩
theorem DPut.t {H:Hp}{a b:Addr}{kvs:List (List Key×V)}{k:List Key}{v:V}(e:H a=some (.dT kvs))(eb:H b=some (.tup (k.map kV)))(hl:kvs.length<sizeLine) :
  DPut H a (.ref b) v (upd H a (.dT (putK kvs k v))):=.inr ⟨kvs,k,b,e,rfl,eb,hl,rfl⟩
section
variable {X:Cx}{pins:List (Addr×Obj)}{σ:St}{H:Hp}{s:Shared}{a:Addr}{y v:V}{u r:Value}{o:Option V}{A:Around}{E:Value→Shared→Prop}
end
section
variable {X:Cx}{pins:List (Addr×Obj)}{σ:St}{H:Hp}{s:Shared}{a:Addr}{kvs:List (Key×V)}{k:Key}{u:Value}{A:Around}{E:Value→Shared→Prop}
end
section
variable {X:Cx}{o i e value:Expr}{pos pos' tpos:Pos}{td ty tv:TE}
end
section
variable {X:Cx}{pos:Pos}
end
section
variable {X:Cx}{pins:List (Addr×Obj)}{σ:St}{H:Hp}{s:Shared}{a:Addr}{y d:V}{u r:Value}{o:Option V}{A:Around}{E:Value→Shared→Prop}
end
section
variable {X:Cx}{o e f:Expr}{apos cpos:Pos}{td ty tx:TE}
end
section
variable {X:Cx}{pins:List (Addr×Obj)}{σ:St}{H:Hp}{s:Shared}{a:Addr}{kvs:List (Key×V)}{A:Around}{E:Value→Shared→Prop}
end
section
variable {X:Cx}{pins:List (Addr×Obj)}{σ:St}{H:Hp}{s:Shared}{a:Addr}{y:V}{u:Value}{A:Around}{E:Value→Shared→Prop}
end
section
variable {X:Cx}
end
section
variable {κ:Type}[DecidableEq κ]
end
end L2
namespace Zt
open PySem PySem.Spec
structure Src (i:Addr) (fp:List Addr) (S:Nat→Heap→Prop) (nth:Nat→Option Value):Prop where
 mem:i∈fp
 stay:∀k h h',S k h→(∀b∈fp,∀o,h.get? b=some o→h'.get? b=some o)→S k h'
 obj:∀k h,S k h→∃o,h.get? i=some o∧∀v,o.data ≠ .cell v
 item:∀ {prog:Program}{w:World}{A:Around}{E:Value→Shared→Prop}{s:Shared}{Q:Value→Shared→Prop}{k:Nat}{x:Value},S k s.heap→nth k=some x →
  (∀h',S (k+1) h'→Heap.SameBut i s.heap h'→Q x { s with heap:=h' })→wpAny (model prog w) A (Builtin.SmallTypes.nextOf (.ref i)) Q E s
 fin:∀ {prog:Program}{w:World}{A:Around}{E:Value→Shared→Prop}{s:Shared}{Q:Value→Shared→Prop}{k:Nat},A.handled=none→S k s.heap→nth k=none →
  (∀h' e,Heap.ExtBut i s.heap h'→(∃o,h'.get? e=some o∧o.cls = .type "StopIteration")→E (.ref e) { s with heap:=h' })→wpAny (model prog w) A (Builtin.SmallTypes.nextOf (.ref i)) Q E s
theorem srcT (i t:Addr)(hne:t≠i)(its:Array Value):Src i [i,t] (fun k h=>h.IsTupleIter i t k∧h.IsTuple t its) (fun k=>its[k]?) where
 mem:=List.mem_cons_self
 stay:=by
  rintro k h h' ⟨⟨o,e,r⟩,⟨o2,e2,r2⟩⟩ hk
  exact⟨⟨o,hk i (by simp) o e,r⟩,⟨o2,hk t (by simp) o2 e2,r2⟩⟩
 obj:=by
  rintro k h ⟨⟨o,e,c,d⟩,_⟩
  exact⟨o,e,fun v z=>by rw[d]at z;cases z⟩
 item:=by
  rintro prog w A E s Q k x ⟨hit,ht⟩ hx hQ
  obtain⟨o,ho,hc,hd⟩:=id hit;obtain⟨ol,hol,hlc,nl,hdl⟩:=id ht
  unfold Builtin.SmallTypes.nextOf
  refine wpAny_bind (wpAny_callSpecial?_slot (name:=Str.ofString "__next__") hit.typeIs F.slot_tuple_iterator_next (wpAny_call_entry F.slot_tuple_iterator_next hit.typeIs F.entry_tuple_iterator_next ?_ (F.args_tuple_iterator_next_1 _)))
  show wpAny _ _ (field (.ref i) 0 >>= _) _ _ s;refine wpAny_bind (wpAny_field ho hd (x:=.ref t) rfl ?_)
  show wpAny _ _ (if (Value.ref t == Value.none)=true then _ else _) _ _ s;rw[if_neg (show ¬ ((Value.ref t == Value.none)=true)from Bool.false_ne_true)]
  show wpAny _ _ (field (.ref i) 1 >>= _) _ _ s;refine wpAny_bind (wpAny_field ho hd (x:=.int k 0) rfl ?_)
  show wpAny _ _ (seqItems? (.ref t) >>= _) _ _ s;refine wpAny_bind (wpAny_seqItems hol hdl ?_)
  simp only[Int.toNat_natCast,hx]
  refine wpAny_bind (wpAny_setField ho hd (by simp) (wpAny_pure ⟨x,rfl,wpAny_pure (hQ _ ⟨?_,ht.extBut (Heap.SameBut.update ..).extBut hne⟩ (Heap.SameBut.update ..))⟩))
  refine⟨_,Heap.get?_update_self _ ho (Obj.isFreed_of_fields (Obj.data_mapFields hd _)),(Obj.cls_mapFields ..).trans hc,?_⟩
  rw[Obj.data_mapFields hd];simp[rawInt]
 fin:=by
  rintro prog w A E s Q k hh ⟨hit,ht⟩ hx hE
  obtain⟨o,ho,hc,hd⟩:=id hit;obtain⟨ol,hol,hlc,nl,hdl⟩:=id ht
  unfold Builtin.SmallTypes.nextOf
  refine wpAny_bind (wpAny_callSpecial?_slot (name:=Str.ofString "__next__") hit.typeIs F.slot_tuple_iterator_next (wpAny_call_entry F.slot_tuple_iterator_next hit.typeIs F.entry_tuple_iterator_next ?_ (F.args_tuple_iterator_next_1 _)))
  show wpAny _ _ (field (.ref i) 0 >>= _) _ _ s;refine wpAny_bind (wpAny_field ho hd (x:=.ref t) rfl ?_)
  show wpAny _ _ (if (Value.ref t == Value.none)=true then _ else _) _ _ s;rw[if_neg (show ¬ ((Value.ref t == Value.none)=true)from Bool.false_ne_true)]
  show wpAny _ _ (field (.ref i) 1 >>= _) _ _ s;refine wpAny_bind (wpAny_field ho hd (x:=.int k 0) rfl ?_)
  show wpAny _ _ (seqItems? (.ref t) >>= _) _ _ s;refine wpAny_bind (wpAny_seqItems hol hdl ?_)
  simp only[Int.toNat_natCast,hx]
  refine wpAny_bind (wpAny_rule (wpAny_bind (wpAny_setField ho hd (by simp) ?_)));show wpAny _ _ (newExc (.type "StopIteration") [] >>= _) _ _ _
  refine wpAny_bind ?_;simp only[newExc,newTuple];refine wpAny_bind (wpAny_newObj_type ?_ (by size_fits))
  refine wpAny_bind (m:=firstArgMember _ _) (wpAny_of_eq (a:=Value.none) (by first |rfl | (simp only[firstArgMember];rfl)) ?_);refine wpAny_newObj_type ?_ (by size_fits)
  simp only[raiseNew];refine wpAny_bind (wpAny_handled ?_);first |rw[show A.in1.handled=none from hh] |rw[hh]
  refine wpAny_bind (wpAny_pure (wpAny_throw ?_));exact hE _ _ (((Heap.SameBut.update ..).extBut.push _).push _) ⟨_,Heap.get?_push_size _ rfl,rfl⟩
structure Apart (z TI TO i1 i2:Addr) (f1 f2:List Addr):Prop where
 TIz:TI≠z
 TOz:TO≠z
 i1z:i1≠z
 i2z:i2≠z
 TITO:TI≠TO
 TIi1:TI≠i1
 TIi2:TI≠i2
 TOi1:TO≠i1
 TOi2:TO≠i2
 i12:i1≠i2
 z1:z∉f1
 z2:z∉f2
 o1:TO∉f1
 o2:TO∉f2
 c12:i1∉f2
 c21:i2∉f1
section
variable {prog:Program}{w:World}{A:Around}{E:Value→Shared→Prop}{s:Shared}{z TI TO i1 i2:Addr}{f1 f2:List Addr}{S1 S2:Nat→Heap→Prop}{n1 n2:Nat→Option Value}{k1 k2:Nat}{a b:Value}
theorem Src.but {i:Addr}{fp:List Addr}{S:Nat→Heap→Prop}{nth:Nat→Option Value}(R:Src i fp S nth) {k:Nat}{h h':Heap}{c:Addr}(st:S k h)(e:Heap.ExtBut c h h')(hc:c∉fp):S k h' :=
 R.stay k h h' st fun b hb o q=>e b o (fun z=>hc (z ▸ hb)) q
theorem next_item {x y:Value}{Q:Value→Shared→Prop}(R1:Src i1 f1 S1 n1)(R2:Src i2 f2 S2 n2)(D:Apart z TI TO i1 i2 f1 f2)
  (hz:IsZip s.heap z TI TO .none) (hTI:IsPair s.heap TI (.ref i1) (.ref i2)) (hTO:IsPair s.heap TO a b) (h1:S1 k1 s.heap) (h2:S2 k2 s.heap) (hx:n1 k1=some x) (hy:n2 k2=some y)
  (hQ:∀h',IsZip h' z TI TO (rawInt s.heap.objs.size)→IsPair h' TO x y→S1 (k1+1) h'→S2 (k2+1) h'→IsPair h' s.heap.objs.size x y →
   (∀c o,c≠z→c≠TO→c≠i1→c≠i2→s.heap.get? c=some o→h'.get? c=some o)→Q (.ref s.heap.objs.size) { s with heap:=h' }) :
  wpAny (model prog w) A (Builtin.«zip.__next__» ⟨[.ref z],[]⟩) (fun fin s'=>∃v,fin = .done (.ret v)∧Q v s') E s:=by
 show wpAny _ _ (field (.ref z) 2 >>= _) _ _ _;refine wpAny_bind (wpAny_field hz rfl (x:=.bool false) rfl ?_)
 show wpAny _ _ (field (.ref z) 3 >>= _) _ _ _;refine wpAny_bind (wpAny_field hz rfl (x:=.ref TI) rfl ?_);refine wpAny_bind (wpAny_seqItems hTI rfl ?_)
 show wpAny _ _ (Builtin.SmallTypes.ownedTupleIsFree (.ref z) >>= _) _ _ _;refine wpAny_bind ?_;unfold Builtin.SmallTypes.ownedTupleIsFree
 refine wpAny_bind (wpAny_field hz rfl (x:=.none) rfl (wpAny_pure ?_));simp only[if_true];refine wpAny_bind (wpAny_rule ?_)
 refine wpAny_bind (wpAny_field hz rfl (x:=.ref TO) rfl ?_);refine wpAny_bind (wpAny_setField_rec hz (by simp) fun h₁ hz₁ hs₁=>?_)
 replace hz₁:IsZip h₁ z TI TO .ellipsis:=hz₁
 refine wpAny_bind ?_;simp only[List.zipIdx_cons,List.zipIdx_nil,List.forIn_cons,List.forIn_nil]
 refine wpAny_bind (wpAny_bind (wpAny_onRaise ?_));show wpAny _ _ (Builtin.SmallTypes.nextOf (.ref i1) >>= _) _ _ _
 refine wpAny_bind (R1.item (R1.but h1 hs₁.extBut D.z1) hx fun h₂ g1 hs₂=>wpAny_pure ?_)
 have t2:IsPair h₂ TO a b:=hs₂.extBut _ _ D.TOi1 (hs₁.extBut _ _ D.TOz hTO)
 refine wpAny_bind (wpAny_seqItems t2 rfl ?_);refine wpAny_bind (wpAny_updateSeq_pair t2 fun h₃ t3 hs₃=>?_)
 replace t3:IsPair h₃ TO x b:=t3
 refine wpAny_bind (wpAny_letGo (wpAny_pure ?_));refine wpAny_bind (wpAny_bind (wpAny_onRaise ?_));show wpAny _ _ (Builtin.SmallTypes.nextOf (.ref i2) >>= _) _ _ _
 refine wpAny_bind (R2.item (R2.but (R2.but (R2.but h2 hs₁.extBut D.z2) hs₂.extBut D.c12) hs₃.extBut D.o2) hy fun h₄ g2 hs₄=>wpAny_pure ?_)
 have t4:IsPair h₄ TO x b:=hs₄.extBut _ _ D.TOi2 t3
 refine wpAny_bind (wpAny_seqItems t4 rfl ?_);refine wpAny_bind (wpAny_updateSeq_pair t4 fun h₅ t5 hs₅=>?_)
 replace t5:IsPair h₅ TO x y:=t5
 refine wpAny_bind (wpAny_letGo (wpAny_pure (wpAny_pure ?_)));refine wpAny_bind (wpAny_seqItems t5 rfl ?_);refine wpAny_bind (wpAny_newTuple ?_)
 have hsz:h₅.objs.size=s.heap.objs.size:=by rw[hs₅.1,hs₄.1,hs₃.1,hs₂.1,hs₁.1]
 have z5:IsZip h₅ z TI TO .ellipsis:=hs₅.extBut _ _ D.TOz.symm (hs₄.extBut _ _ D.i2z.symm (hs₃.extBut _ _ D.TOz.symm (hs₂.extBut _ _ D.i1z.symm hz₁)))
 have k5:∀c o,c≠z→c≠TO→c≠i1→c≠i2→s.heap.get? c=some o→h₅.get? c=some o:=fun c o c1 c2 c3 c4 e =>
  hs₅.extBut _ _ c2 (hs₄.extBut _ _ c4 (hs₃.extBut _ _ c2 (hs₂.extBut _ _ c3 (hs₁.extBut _ _ c1 e))))
 have e1:S1 (k1+1) h₅:=R1.but (R1.but (R1.but g1 hs₃.extBut D.o1) hs₄.extBut D.c21) hs₅.extBut D.o1
 have e2:S2 (k2+1) h₅:=R2.but g2 hs₅.extBut D.o2
 have lz:z<h₅.objs.size:=Heap.lt_size z5
 show wpAny _ _ (Builtin.SmallTypes.ownedTupleHandOut (.ref z) (.ref h₅.objs.size) >>= _) _ _ _;refine wpAny_bind ?_;unfold Builtin.SmallTypes.ownedTupleHandOut
 have z6:IsZip (h₅.push { cls:=.type "tuple",data:=.seq #[x,y] }) z TI TO .ellipsis:=Heap.get?_push_of_some _ z5
 refine wpAny_bind (wpAny_setField_rec z6 (by simp) fun h₇ z7 hs₇=>?_)
 replace z7:IsZip h₇ z TI TO (rawInt h₅.objs.size):=z7
 refine wpAny_setField_rec z7 (by simp) fun h₈ z8 hs₈=>?_
 replace z8:IsZip h₈ z TI TO (rawInt h₅.objs.size):=z8
 have up:∀c o,c≠z→h₅.get? c=some o→h₈.get? c=some o:=fun c o c1 e=>hs₈.extBut _ _ c1 (hs₇.extBut _ _ c1 (Heap.get?_push_of_some _ e))
 have t8:IsPair h₈ h₅.objs.size x y:=hs₈.extBut _ _ (Nat.ne_of_gt lz) (hs₇.extBut _ _ (Nat.ne_of_gt lz) (Heap.get?_push_size _ rfl))
 rw[hsz]at z8 t8
 refine wpAny_pure ⟨_,rfl,?_⟩;show Q (.ref h₅.objs.size) _;rw[hsz]
 exact hQ h₈ z8 (up _ _ D.TOz t5) (R1.stay _ _ _ e1 fun c hc o e=>up c o (fun q=>D.z1 (q ▸ hc)) e) (R2.stay _ _ _ e2 fun c hc o e=>up c o (fun q=>D.z2 (q ▸ hc)) e) t8 fun c o c1 c2 c3 c4 e=>up c o c1 (k5 c o c1 c2 c3 c4 e)
theorem next_end {Q:Fin→Shared→Prop}(hh:A.handled=none)(R1:Src i1 f1 S1 n1)(R2:Src i2 f2 S2 n2)(D:Apart z TI TO i1 i2 f1 f2)
  (hz:IsZip s.heap z TI TO .none) (hTI:IsPair s.heap TI (.ref i1) (.ref i2)) (hTO:IsPair s.heap TO a b) (h1:S1 k1 s.heap) (h2:S2 k2 s.heap) (hend:n1 k1=none∨n2 k2=none)
  (hE:∀h' e,(∀c o,c≠z→c≠TO→c≠i1→c≠i2→s.heap.get? c=some o→h'.get? c=some o)→(∃o,h'.get? e=some o∧o.cls = .type "StopIteration")→E (.ref e) { s with heap:=h' }) :
  wpAny (model prog w) A (Builtin.«zip.__next__» ⟨[.ref z],[]⟩) Q E s:=by
 show wpAny _ _ (field (.ref z) 2 >>= _) _ _ _;refine wpAny_bind (wpAny_field hz rfl (x:=.bool false) rfl ?_)
 show wpAny _ _ (field (.ref z) 3 >>= _) _ _ _;refine wpAny_bind (wpAny_field hz rfl (x:=.ref TI) rfl ?_);refine wpAny_bind (wpAny_seqItems hTI rfl ?_)
 show wpAny _ _ (Builtin.SmallTypes.ownedTupleIsFree (.ref z) >>= _) _ _ _;refine wpAny_bind ?_;unfold Builtin.SmallTypes.ownedTupleIsFree
 refine wpAny_bind (wpAny_field hz rfl (x:=.none) rfl (wpAny_pure ?_));simp only[if_true];refine wpAny_bind (wpAny_rule ?_)
 refine wpAny_bind (wpAny_field hz rfl (x:=.ref TO) rfl ?_);refine wpAny_bind (wpAny_setField_rec hz (by simp) fun h₁ hz₁ hs₁=>?_)
 replace hz₁:IsZip h₁ z TI TO .ellipsis:=hz₁
 refine wpAny_bind ?_;simp only[List.zipIdx_cons,List.zipIdx_nil,List.forIn_cons,List.forIn_nil]
 refine wpAny_bind (wpAny_bind (wpAny_onRaise ?_));show wpAny _ _ (Builtin.SmallTypes.nextOf (.ref i1) >>= _) _ _ _
 cases hx:n1 k1 with
 | none =>
  refine wpAny_bind (R1.fin hh (R1.but h1 hs₁.extBut D.z1) hx fun h₂ e hs₂ he=>?_)
  obtain⟨oe,hoe,hce⟩:=he
  have hz₂:IsZip h₂ z TI TO .ellipsis:=hs₂ _ _ D.i1z.symm hz₁
  have hez:e≠z:=fun x=>by subst x;rw[hz₂]at hoe;cases hoe;simp at hce
  exact wpAny_setField_rec hz₂ (by simp) fun h₃ _ hs₃=>hE h₃ e (fun c o c1 _ c3 _ x=>hs₃.extBut _ _ c1 (hs₂ _ _ c3 (hs₁.extBut _ _ c1 x))) ⟨oe,hs₃.extBut _ _ hez hoe,hce⟩
 | some x =>
  have hy:n2 k2=none:=by
   rcases hend with h |h
   ·rw[hx]at h;cases h
   ·exact h
  refine wpAny_bind (R1.item (R1.but h1 hs₁.extBut D.z1) hx fun h₂ g1 hs₂=>wpAny_pure ?_)
  have t2:IsPair h₂ TO a b:=hs₂.extBut _ _ D.TOi1 (hs₁.extBut _ _ D.TOz hTO)
  refine wpAny_bind (wpAny_seqItems t2 rfl ?_);refine wpAny_bind (wpAny_updateSeq_pair t2 fun h₃ t3 hs₃=>?_)
  refine wpAny_bind (wpAny_letGo (wpAny_pure ?_));refine wpAny_bind (wpAny_bind (wpAny_onRaise ?_));show wpAny _ _ (Builtin.SmallTypes.nextOf (.ref i2) >>= _) _ _ _
  refine wpAny_bind (R2.fin hh (R2.but (R2.but (R2.but h2 hs₁.extBut D.z2) hs₂.extBut D.c12) hs₃.extBut D.o2) hy fun h₄ e hs₄ he=>?_)
  obtain⟨oe,hoe,hce⟩:=he
  have hz₄:IsZip h₄ z TI TO .ellipsis:=hs₄ _ _ D.i2z.symm (hs₃.extBut _ _ D.TOz.symm (hs₂.extBut _ _ D.i1z.symm hz₁))
  have hez:e≠z:=fun x=>by subst x;rw[hz₄]at hoe;cases hoe;simp at hce
  exact wpAny_setField_rec hz₄ (by simp) fun h₅ _ hs₅=>hE h₅ e (fun c o c1 c2 c3 c4 x=>hs₅.extBut _ _ c1 (hs₄ _ _ c4 (hs₃.extBut _ _ c2 (hs₂.extBut _ _ c3 (hs₁.extBut _ _ c1 x))))) ⟨oe,hs₅.extBut _ _ hez hoe,hce⟩
theorem py_item {x y:Value}{Q:Option Value→Shared→Prop}(R1:Src i1 f1 S1 n1)(R2:Src i2 f2 S2 n2)(D:Apart z TI TO i1 i2 f1 f2)
  (hz:IsZip s.heap z TI TO .none) (hTI:IsPair s.heap TI (.ref i1) (.ref i2)) (hTO:IsPair s.heap TO a b) (h1:S1 k1 s.heap) (h2:S2 k2 s.heap) (hx:n1 k1=some x) (hy:n2 k2=some y)
  (hQ:∀h',IsZip h' z TI TO (rawInt s.heap.objs.size)→IsPair h' TO x y→S1 (k1+1) h'→S2 (k2+1) h'→IsPair h' s.heap.objs.size x y →
   (∀c o,c≠z→c≠TO→c≠i1→c≠i2→s.heap.get? c=some o→h'.get? c=some o)→Q (some (.ref s.heap.objs.size)) { s with heap:=h' }) :
  wpAny (model prog w) A (pyNext (.ref z)) Q E s:=by
 have hT:s.TypeIs (.ref z) "zip":=⟨_,hz,rfl⟩
 unfold pyNext
 exact wpAny_bind (wpAny_attempt (wpAny_callSpecial?_slot (name:=Str.ofString "__next__") hT F.slot_zip_next (wpAny_call_entry F.slot_zip_next hT F.entry_zip_next
   (next_item R1 R2 D hz hTI hTO h1 h2 hx hy fun h' a1 a2 a3 a4 a5 a7=>wpAny_pure (hQ h' a1 a2 a3 a4 a5 a7)) (F.args_zip_next_1 _))))
theorem py_end {Q:Option Value→Shared→Prop}(hh:A.handled=none)(R1:Src i1 f1 S1 n1)(R2:Src i2 f2 S2 n2)(D:Apart z TI TO i1 i2 f1 f2)
  (hz:IsZip s.heap z TI TO .none) (hTI:IsPair s.heap TI (.ref i1) (.ref i2)) (hTO:IsPair s.heap TO a b) (h1:S1 k1 s.heap) (h2:S2 k2 s.heap) (hend:n1 k1=none∨n2 k2=none)
  (hQ:∀h',(∀c o,c≠z→c≠TO→c≠i1→c≠i2→s.heap.get? c=some o→h'.get? c=some o)→Q none { s with heap:=h' }):wpAny (model prog w) A (pyNext (.ref z)) Q E s:=by
 have hT:s.TypeIs (.ref z) "zip":=⟨_,hz,rfl⟩
 unfold pyNext
 refine wpAny_bind (wpAny_attempt (wpAny_callSpecial?_slot (name:=Str.ofString "__next__") hT F.slot_zip_next
  (wpAny_call_entry F.slot_zip_next hT F.entry_zip_next (next_end hh R1 R2 D hz hTI hTO h1 h2 hend fun h' e hk he=>?_) (F.args_zip_next_1 _))))
 obtain⟨o,ho,hc⟩:=he
 exact wpAny_bind (wpAny_isInstance (T:="StopIteration") (b:=true) ⟨o,ho,hc⟩ isSubtype_stop (wpAny_pure (hQ _ hk)))
end
noncomputable abbrev g1 (h:Heap)(l1:Addr):Heap:=h.push { cls:=.type "tuple_iterator",data:=.fields #[.ref l1,.int 0 0] }
noncomputable abbrev g2 (h:Heap)(l1 l2:Addr):Heap:=(g1 h l1).push { cls:=.type "tuple_iterator",data:=.fields #[.ref l2,.int 0 0] }
noncomputable abbrev g3 (h:Heap)(l1 l2:Addr):Heap:=(g2 h l1 l2).push { cls:=.type "tuple",data:=.seq #[.ref h.objs.size,.ref (g1 h l1).objs.size] }
noncomputable abbrev g4 (h:Heap)(l1 l2:Addr):Heap:=(g3 h l1 l2).push { cls:=.type "tuple",data:=.seq #[.none,.none] }
noncomputable abbrev g5 (h:Heap)(l1 l2:Addr):Heap:=(g4 h l1 l2).push { cls:=.type "zip",data:=.fields #[.none,.bool false,.bool false,.ref (g2 h l1 l2).objs.size,.ref (g3 h l1 l2).objs.size] }
theorem meets_new (l1 l2:Addr)(xs ys:Array Value) :
  Meets (Builtin.«zip.__new__» ⟨[.type "zip",.ref l1,.ref l2],[]⟩) (fun _ R s=>s.heap.IsTuple l1 xs∧s.heap.IsTuple l2 ys ∧
   R (.ok (.ret (.ref (g4 s.heap l1 l2).objs.size))) { s with heap:=g5 s.heap l1 l2 }) :=
 .of_wp fun prog w A R s h=>by
  obtain⟨hp,g,d,tk,os⟩:=s;obtain⟨hl1,hl2,h⟩:=h
  have hsub:=sub_zip
  have hL1:Heap.IsTuple (Shared.heap ⟨hp,g,d,tk,os⟩) l1 xs:=hl1
  have hL2:Heap.IsTuple (Shared.heap ⟨hp.push { cls:=.type "tuple_iterator",data:=.fields #[.ref l1,.int 0 0] },g,d,tk,os⟩) l2 ys:=Heap.IsTuple.push hl2 _
  wp_walk using wpAny_pyIter_tuple hL1,wpAny_pyIter_tuple hL2
  exact⟨_,rfl,h⟩
theorem call_zip {prog:Program}{w:World}{A:Around}{E:Value→Shared→Prop}{s:Shared}{l1 l2:Addr}{xs ys:Array Value}{Q:Value→Shared→Prop}(hl1:s.heap.IsTuple l1 xs)(hl2:s.heap.IsTuple l2 ys)
  (h:∀h',IsZip h' (s.heap.objs.size+4) (s.heap.objs.size+2) (s.heap.objs.size+3) .none→IsPair h' (s.heap.objs.size+2) (.ref s.heap.objs.size) (.ref (s.heap.objs.size+1)) →
   IsPair h' (s.heap.objs.size+3) .none .none→h'.IsTupleIter s.heap.objs.size l1 0→h'.IsTupleIter (s.heap.objs.size+1) l2 0 →
   (∀c o,s.heap.get? c=some o→h'.get? c=some o)→Q (.ref (s.heap.objs.size+4)) { s with heap:=h' }) :
  wpAny (model prog w) A (call (.type "zip") [.ref l1,.ref l2]) Q E s:=by
 refine callType_new F.called_zip (by decide) (F.typeCall_zip_2 _ _) (F.newCall_zip_2 _ _) (fun obj=>F.args_object_init_3 obj _ _) F.entry_zip_new (meets_new l1 l2 xs ys) ⟨hl1,hl2,?_⟩
 have z1:(g1 s.heap l1).objs.size=s.heap.objs.size+1:=Heap.size_push ..
 have z2:(g2 s.heap l1 l2).objs.size=s.heap.objs.size+2:=by rw[Heap.size_push,z1]
 have z3:(g3 s.heap l1 l2).objs.size=s.heap.objs.size+3:=by rw[Heap.size_push,z2]
 have z4:(g4 s.heap l1 l2).objs.size=s.heap.objs.size+4:=by rw[Heap.size_push,z3]
 have q5:(g5 s.heap l1 l2).get? (g4 s.heap l1 l2).objs.size=some _:=Heap.get?_push_size _ rfl
 have q4:(g5 s.heap l1 l2).get? (g3 s.heap l1 l2).objs.size=some _:=Heap.get?_push_of_some _ (Heap.get?_push_size _ rfl)
 have q3:(g5 s.heap l1 l2).get? (g2 s.heap l1 l2).objs.size=some _:=Heap.get?_push_of_some _ (Heap.get?_push_of_some _ (Heap.get?_push_size _ rfl))
 have q2:(g5 s.heap l1 l2).get? (g1 s.heap l1).objs.size=some _:=Heap.get?_push_of_some _ (Heap.get?_push_of_some _ (Heap.get?_push_of_some _ (Heap.get?_push_size _ rfl)))
 have q1:(g5 s.heap l1 l2).get? s.heap.objs.size=some _:=Heap.get?_push_of_some _ (Heap.get?_push_of_some _ (Heap.get?_push_of_some _ (Heap.get?_push_of_some _ (Heap.get?_push_size _ rfl))))
 show _∧_
 rw[z2,z3,z4]at q5;rw[z1,z2]at q3;rw[z3]at q4;rw[z1]at q2;rw[z4]
 exact⟨⟨_,q5,rfl⟩,h _ q5 q3 q4 ⟨_,q1,rfl,rfl⟩ ⟨_,q2,rfl,rfl⟩ fun c o x =>
  Heap.get?_push_of_some _ (Heap.get?_push_of_some _ (Heap.get?_push_of_some _ (Heap.get?_push_of_some _ (Heap.get?_push_of_some _ x))))⟩
end Zt
namespace L2
open PySem PySem.Spec PyProof.Rows
theorem Inv.spun {X:Cx}{pins:List (Addr×Obj)}{σ:St}{H:Hp}{s:Shared}{h':Heap}{t':Nat}{ch:List Addr}(I:Inv X pins σ H s)(hch:∀b∈ch,FpOk X pins H b)
  (k:∀b o,b∉ch→s.heap.get? b=some o→h'.get? b=some o):Inv X pins σ H { s with heap:=h',toks:=t' }:=by
 have nit:∀b u,H b=some u→b∉ch:=fun b u e z=>by rw[(hch b z).1]at e;cases e
 refine I.step (g':=s.gens) (d':=s.drawn) (ch:=ch) (fun b hb=>?_) (fun b o _ _ hc e _=>k b o hc e) (fun b o _ _ hc e _=>⟨o.slots,k b o hc e⟩) (fun _ _ _ _ n=>n)
  (fun b o hc e=>⟨o,k b o hc e⟩) (fun _ _ e=>e) (fun _ _ _ e=>e) (fun b ps e=>⟨#[],by rw[e];simp⟩) (fun m hm=>?_) (fun b u e=>?_) I.bare
 ·obtain⟨f0,f1,f2,f3,f4,f5⟩:=hch b hb
  exact⟨f3,f1,f4,f5⟩
 ·obtain⟨o,es,ep,ho,r⟩:=hm
  exact⟨o,es,ep,k _ o (fun z=>(hch _ z).2.1 rfl) ho,r⟩
 ·refine(I.hok b u e).stay (fun c v hc q=>k c v ?_ q) (fun _ q=>q) fun _ _ q=>q
  rcases hc with z |z
  ·rw[z];exact nit b u e
  ·exact nit c _ z
theorem Inv.track {X:Cx}{pins:List (Addr×Obj)}{σ:St}{H:Hp}{s s1:Shared}{a:Addr}{o:HO}(I:Inv X pins σ H s)(J:Inv X pins σ H s1)(ha:s.heap.objs.size≤a)(new:ObjOk X.prog X.w (upd H a o) s1.heap a o) :
  Inv X pins σ (upd H a o) s1:=by
 have hn:H a=none:=I.hok.fresh ha
 have ne:∀b u,s.heap.get? b=some u→b≠a:=fun b u e=>Nat.ne_of_lt (Nat.lt_of_lt_of_le (Heap.lt_size e) ha)
 have h0:X.s₀.heap.objs.size≤a:=Nat.le_trans I.sz ha
 have ne0:∀b u,X.s₀.heap.get? b=some u→b≠a:=fun b u e=>Nat.ne_of_lt (Nat.lt_of_lt_of_le (Heap.lt_size e) h0)
 refine⟨J.ok,J.os,J.bare,⟨J.base.keep,J.base.slot,fun b u e n hx=>?_,J.base.there,fun b xs e=>?_,fun b u v e=>?_,fun b ps e=>?_⟩,J.loc,J.cell,?_,fun x c e=>?_,fun p hp=>?_,fun b u e=>?_,J.len⟩
 ·rw[upd_ne (ne0 b u e)];exact J.base.free b u e n hx
 ·have q:=J.base.tups b xs e
  rw[upd_ne (ne_of_none q hn)];exact q
 ·have q:=J.base.frzs b u v e
  rw[upd_ne (ne_of_none q hn)];exact q
 ·obtain⟨m,q⟩:=J.base.tbls b ps e
  exact⟨m,by rw[upd_ne (ne_of_none q hn)];exact q⟩
 ·obtain⟨m,⟨ob,_,_,e,_⟩,_⟩:=I.loc
  rw[upd_ne (ne _ _ e)];exact J.free
 ·obtain⟨v,ob,e1,_⟩:=I.cell x c e
  rw[upd_ne (ne _ _ e1)];exact J.freeC x c e
 ·obtain⟨q1,q2,q3,q4,q5⟩:=J.pin p hp
  exact⟨q1,by rw[upd_ne (ne _ _ (I.pin p hp).1)];exact q2,q3,q4,q5⟩
 ·by_cases hb:b=a
  ·subst hb;rw[upd_same]at e;cases e;exact new
  ·rw[upd_ne hb]at e
   exact(J.hok b u e).stay (fun c v _ q=>q) (fun c q=>by rw[upd_ne (ne_of_none q hn)];exact q) fun c xs q=>by rw[upd_ne (ne_of_none q hn)];exact q
noncomputable def Itz (K:PySem.W.Frag)(a b:Addr):It :=
  ⟨fun i H=>∃xs ys x y,SqT K H a xs∧SqT K H b ys∧xs[i]? = some x∧ys[i]? = some y,
   fun i H v H'=>∃p x y,H p=none∧(∀xs,SqT K H a xs→xs[i]? = some x)∧(∀ys,SqT K H b ys→ys[i]? = some y)∧v = .ref p∧H'=upd H p (.tup [x,y]),
   fun i H=>∃xs ys,SqT K H a xs∧SqT K H b ys∧(xs.length≤i∨ys.length≤i)⟩
theorem turn_zip {P:Program}{w:World}{K:PySem.W.Frag}{es:List Expr}{k:Nat}{ps:Pos}{z TI TO i1 i2 a b:Addr}
  (na:a≠i1) (nb:b≠i2) (D:Zt.Apart z TI TO i1 i2 [i1,a] [i2,b]) :
  Turn P w K (.Tuple es k ps) (Itz K a b) [z,TI,TO,i1,i2] z (fun n h=>IsZip h z TI TO .none∧IsPair h TI (.ref i1) (.ref i2)∧(∃u v,IsPair h TO u v)∧h.IsTupleIter i1 a n∧h.IsTupleIter i2 b n) where
 mem:=by simp
 obj:=by
  rintro n h ⟨hz,hTI,⟨u,v,hTO⟩,⟨o1,e1,c1,d1⟩,⟨o2,e2,c2,d2⟩⟩ c hc
  simp only[List.mem_cons,List.not_mem_nil,or_false]at hc
  rcases hc with rfl |rfl |rfl |rfl |rfl
  ·exact⟨_,hz,fun v q=>nomatch q⟩
  ·exact⟨_,hTI,fun v q=>nomatch q⟩
  ·exact⟨_,hTO,fun v q=>nomatch q⟩
  ·exact⟨o1,e1,fun v q=>by rw[d1]at q;cases q⟩
  ·exact⟨o2,e2,fun v q=>by rw[d2]at q;cases q⟩
 keep:=by
  rintro n h h' ⟨hz,hTI,⟨u,v,hTO⟩,⟨o1,e1,r1⟩,⟨o2,e2,r2⟩⟩ kp
  exact⟨kp z (by simp) _ hz,kp TI (by simp) _ hTI,⟨u,v,kp TO (by simp) _ hTO⟩,⟨o1,kp i1 (by simp) _ e1,r1⟩,⟨o2,kp i2 (by simp) _ e2,r2⟩⟩
 item:=by
  intro X hP hw hK hc i pins s σ H E I hf st hg
  subst hP hw hK
  obtain⟨hz,hTI,⟨u,v,hTO⟩,hi1,hi2⟩:=st
  obtain⟨xs,ys,x,y,qx,qy,hx,hy⟩:=hg
  obtain⟨us,rx,px,zx⟩:=I.tuple qx
  obtain⟨ws,ry,py,zy⟩:=I.tuple qy
  obtain⟨ux,hux,rux⟩:=rx.get hx
  obtain⟨uy,huy,ruy⟩:=ry.get hy
  refine Zt.py_item (Zt.srcT i1 a na us.toArray) (Zt.srcT i2 b nb ws.toArray) D hz hTI hTO ⟨hi1,px⟩ ⟨hi2,py⟩ (x:=ux) (y:=uy) (by simpa using hux) (by simpa using huy) fun h' z1 t1 s1 s2 t2 kp=>⟨_,rfl,?_⟩
  refine wpAny_letOwnedTupleGo_zip (s:={ s with heap:=h' }) z1 fun h'' z2 sb=>?_
  have kp2:∀c o,c ∉ [z,TI,TO,i1,i2]→s.heap.get? c=some o→h''.get? c=some o:=fun c o hc e=>by
   simp only[List.mem_cons,List.not_mem_nil,or_false,not_or]at hc
   exact sb.extBut _ _ hc.1 (kp c o hc.1 hc.2.2.1 hc.2.2.2.1 hc.2.2.2.2 e)
  have nz:s.heap.objs.size≠z:=Nat.ne_of_gt (Heap.lt_size hz)
  have J:Inv X pins σ H { s with heap:=h'' }:=I.spun (t':=s.toks) hf kp2
  have t3:IsPair h'' s.heap.objs.size ux uy:=sb.extBut _ _ nz t2
  refine⟨.ref s.heap.objs.size,upd H s.heap.objs.size (.tup [x,y]),I.track J (Nat.le_refl _) ⟨by show 2≤sizeLine;decide,[ux,uy],.cons rux (.cons ruy .nil),⟨_,t3,rfl,_,rfl⟩⟩,rfl,⟨_,x,y,I.hok.fresh (Nat.le_refl _),fun zs h=>?_,fun zs h=>?_,rfl,rfl⟩,?_,fun c hc=>?_⟩
  ·rw[I.tuple_inj h qx];exact hx
  ·rw[I.tuple_inj h qy];exact hy
  ·exact⟨z2,sb.extBut _ _ D.TIz (kp TI _ D.TIz D.TITO D.TIi1 D.TIi2 hTI),⟨ux,uy,sb.extBut _ _ D.TOz t1⟩,s1.1.extBut sb.extBut D.i1z,s2.1.extBut sb.extBut D.i2z⟩
  ·have e:c≠s.heap.objs.size:=by
    simp only[List.mem_cons,List.not_mem_nil,or_false]at hc
    obtain⟨o1,e1,_⟩:=hi1;obtain⟨o2,e2,_⟩:=hi2
    rcases hc with rfl |rfl |rfl |rfl |rfl
    ·exact Nat.ne_of_lt (Heap.lt_size hz)
    ·exact Nat.ne_of_lt (Heap.lt_size hTI)
    ·exact Nat.ne_of_lt (Heap.lt_size hTO)
    ·exact Nat.ne_of_lt (Heap.lt_size e1)
    ·exact Nat.ne_of_lt (Heap.lt_size e2)
   rw[upd_ne e];exact(hf c hc).1
 done:=by
  intro X hP hw hK hc i pins s σ H E I hf st hg
  subst hP hw hK
  obtain⟨hz,hTI,⟨u,v,hTO⟩,hi1,hi2⟩:=st
  obtain⟨xs,ys,qx,qy,hend⟩:=hg
  obtain⟨us,rx,px,zx⟩:=I.tuple qx
  obtain⟨ws,ry,py,zy⟩:=I.tuple qy
  have lx:=rx.length
  have ly:=ry.length
  refine Zt.py_end (I.ok.hd hc) (Zt.srcT i1 a na us.toArray) (Zt.srcT i2 b nb ws.toArray) D hz hTI hTO ⟨hi1,px⟩ ⟨hi2,py⟩ (k1:=i) (k2:=i) (hend.imp (fun h=>by simp;omega) (fun h=>by simp;omega)) fun h' kp=>⟨rfl,?_⟩
  refine I.spun (t':=s.toks) hf fun c o hc e=>?_
  simp only[List.mem_cons,List.not_mem_nil,or_false,not_or]at hc
  exact kp c o hc.1 hc.2.2.1 hc.2.2.2.1 hc.2.2.2.2 e
 self:=by
  rintro A n s Q E ⟨hz,_⟩ h
  exact wpAny_pyIter_zip hz h
noncomputable def iZip (K:PySem.W.Frag)(ta:TA):TI:=fun σ H R=>ta σ H fun vs H1=>∃a b,vs = [.ref a,.ref b]∧(∃xs,SqT K H1 a xs)∧(∃ys,SqT K H1 b ys)∧R (Itz K a b) H1
theorem pi_zip {X:Cx}{es:List Expr}{k:Nat}{ps p pos:Pos}{e1 e2:Expr}{ta:TA}(hg:Gl X "zip")(hm:X.mg "zip" = none)(ha:PA X [e1,e2] ta)
  (hs:starEach [e1,e2] X.env = [(false,eval e1 X.env),(false,eval e2 X.env)]:=by rfl) (hs2:starEach [e2] X.env = [(false,eval e2 X.env)]:=by rfl) (hv:bootBuiltins "zip" = some (.type "zip"):=by decide +kernel) :
  PI X (.Tuple es k ps) (.Call (.Name "zip" p) [e1,e2] [] pos) (iZip X.K ta):=by
 intro pins s σ H R I h
 refine Call_ (ld_blt I hg hm hv (PyProof.Rows.callWith_type1 (thn (ha pos pins s σ H _ I h) fun us s1 ⟨vs,H1,I1,r1,q1⟩=>?_) (by rw[hs,hs2]) (by rw[hs2];rfl)))
 obtain⟨a,b,e,⟨xs,qx⟩,⟨ys,qy⟩,q⟩:=q1
 subst e
 obtain⟨u,v,rfl,ra,rb⟩:=vals2 r1
 cases ra
 cases rb
 obtain⟨us,rx,px,zx⟩:=I1.tuple qx
 obtain⟨ws,ry,py,zy⟩:=I1.tuple qy
 refine Zt.call_zip (xs:=us.toArray) (ys:=ws.toArray) px py fun h' hz hTI hTO h1 h2 kp=>?_
 refine wpAny_pyIter_zip (s:={ s1 with heap:=h' }) hz ?_
 have la:a<s1.heap.objs.size:=by obtain⟨o,e,_⟩:=px;exact Heap.lt_size e
 have lb:b<s1.heap.objs.size:=by obtain⟨o,e,_⟩:=py;exact Heap.lt_size e
 have J:Inv X pins σ H1 { s1 with heap:=h' }:=I1.kept (t':=s1.toks) kp
 refine⟨_,[s1.heap.objs.size+4,s1.heap.objs.size+2,s1.heap.objs.size+3,s1.heap.objs.size,s1.heap.objs.size+1],_,Itz X.K a b,H1,rfl,J,turn_zip (a:=a) (b:=b) (Nat.ne_of_lt la) (Nat.ne_of_lt (Nat.lt_succ_of_lt lb)) ?_,⟨hz,hTI,⟨_,_,hTO⟩,h1,h2⟩,fun c hc=>?_,q⟩
 ·generalize s1.heap.objs.size=n at la lb
  constructor <;> (try simp only[List.mem_cons,List.not_mem_nil,or_false,not_or,ne_eq]) <;> (unfold Addr at *;omega)
 ·have le:s1.heap.objs.size≤c:=by
   simp only[List.mem_cons,List.not_mem_nil,or_false]at hc
   rcases hc with rfl |rfl |rfl |rfl |rfl
   ·exact Nat.le_add_right _ _
   ·exact Nat.le_add_right _ _
   ·exact Nat.le_add_right _ _
   ·exact Nat.le_refl _
   ·exact Nat.le_add_right _ _
  exact I1.fpOk le (I1.hok.fresh le)
noncomputable def clsOf (cells:List (Str×Addr)):List (Str×NameKind)→List (Str×Addr)→Option (List (Str×Addr))
 | [],acc=>some acc
 | (n,k) :: r,acc=>if (k == .free)=true then (match cells.lookup n with |some a=>clsOf cells r ((n,a) :: acc) |none=>none) else clsOf cells r acc
theorem clsOf_loop {env:Env}:∀(ns:List (Str×NameKind))(acc cl:List (Str×Addr)),clsOf env.cells ns acc=some cl →
  (forIn ns acc fun (x:Str×NameKind) (cs:List (Str×Addr))=>(if (x.2 == .free)=true then (do let a ← cellOf env x.1;pure (ForInStep.yield ((x.1,a) :: cs))) else pure (ForInStep.yield cs):Sem _))=pure cl
 | [],acc,cl,h=>by
  simp only[clsOf,Option.some.injEq]at h
  subst h;rfl
 | (n, k) :: r,acc,cl,h=>by
  rw[List.forIn_cons]
  unfold clsOf at h
  by_cases hk:(k == NameKind.free)=true
  ·rw[if_pos hk]at h
   simp only[hk,if_true]
   cases e:env.cells.lookup n with
   | none=>rw[e]at h;cases h
   | some a =>
    rw[e]at h
    have ih:=clsOf_loop r ((n,a) :: acc) cl h
    simp only[cellOf,e,pure_bind]
    exact ih
  ·rw[if_neg hk]at h
   simp only[hk,if_false,pure_bind]
   exact clsOf_loop r acc cl h
theorem closure_of {env:Env}{sc:Scope}{cl:List (Str×Addr)}(h:clsOf env.cells sc.names []=some cl):closureFor sc env=pure cl:=by
 have e:=clsOf_loop (env:=env) sc.names [] cl h
 unfold closureFor
 have e2:=congrArg (fun m:Sem (List (Str×Addr))=>m >>= fun r=>(pure r:Sem (List (Str×Addr)))) e
 simp only[pure_bind]at e2
 refine Eq.trans ?_ e2
 rfl
theorem clsOf_sub {cells:List (Str×Addr)}:∀(ns:List (Str×NameKind))(acc cl:List (Str×Addr)),clsOf cells ns acc=some cl→(∀x c,acc.lookup x=some c→cells.lookup x=some c)→∀x c,cl.lookup x=some c→cells.lookup x=some c
 | [],acc,cl,h,ha=>by
  simp only[clsOf,Option.some.injEq]at h
  subst h;exact ha
 | (n, k) :: r,acc,cl,h,ha=>by
  unfold clsOf at h
  by_cases hk:(k == NameKind.free)=true
  ·rw[if_pos hk]at h
   cases e:cells.lookup n with
   | none=>rw[e]at h;cases h
   | some a =>
    rw[e]at h
    refine clsOf_sub r ((n,a) :: acc) cl h fun x c q=>?_
    rw[List.lookup_cons]at q
    cases hx:x == n with
    | true =>
     rw[hx]at q
     have e':x=n:=by simpa using hx
     subst e'
     cases q;exact e
    | false=>rw[hx]at q;exact ha x c q
  ·rw[if_neg hk]at h
   exact clsOf_sub r acc cl h ha
theorem clsOf_has {cells:List (Str×Addr)}:∀(ns:List (Str×NameKind))(acc cl:List (Str×Addr)),clsOf cells ns acc=some cl→(∀x,(∃c,acc.lookup x=some c)→∃c,cl.lookup x=some c)∧∀y∈ns,y.2 = .free→∃c,cl.lookup y.1=some c
 | [],acc,cl,h=>by
  simp only[clsOf,Option.some.injEq]at h
  subst h;exact⟨fun x q=>q,fun y hy=>by simp at hy⟩
 | (n, k) :: r,acc,cl,h=>by
  unfold clsOf at h
  by_cases hk:(k == NameKind.free)=true
  ·rw[if_pos hk]at h
   cases e:cells.lookup n with
   | none=>rw[e]at h;cases h
   | some a =>
    rw[e]at h
    obtain⟨h1,h2⟩:=clsOf_has r ((n,a) :: acc) cl h
    have up:∀x,(∃c,acc.lookup x=some c)→∃c,((n,a) :: acc).lookup x=some c:=fun x ⟨c,q⟩=>by
     rw[List.lookup_cons]
     cases hx:x == n with
     | true=>exact⟨a,rfl⟩
     | false=>exact⟨c,q⟩
    refine⟨fun x q=>h1 x (up x q),fun y hy hf=>?_⟩
    rcases List.mem_cons.mp hy with rfl |hy
    ·exact h1 n ⟨a,by simp[List.lookup_cons]⟩
    ·exact h2 y hy hf
  ·rw[if_neg hk]at h
   obtain⟨h1,h2⟩:=clsOf_has r acc cl h
   refine⟨h1,fun y hy hf=>?_⟩
   rcases List.mem_cons.mp hy with rfl |hy
   ·exact absurd (show (k == NameKind.free)=true by have:k = .free:=hf;subst this;rfl) hk
   ·exact h2 y hy hf
theorem relabel_free {env:Env}:∀ {names:List (Str×NameKind)}{x:Str},names.lookup x=some .free →
  (names.map fun (n,k)=>if (k == NameKind.free && env.scope.kind == .function && env.kindOf n == some .cell) then (n,NameKind.cell) else (n,k)).lookup x=some .cell ∨
  (names.map fun (n,k)=>if (k == NameKind.free && env.scope.kind == .function && env.kindOf n == some .cell) then (n,NameKind.cell) else (n,k)).lookup x=some .free
 | [],_,h=>by simp at h
 | (n, k) :: r,x,h=>by
  have ih:=@relabel_free env r x
  rw[List.map_cons]
  dsimp only
  cases hx:x == n with
  | true =>
   simp only[List.lookup_cons,hx]at h
   cases h
   by_cases hc:(NameKind.free == NameKind.free && env.scope.kind == .function && env.kindOf n == some .cell)=true
   ·refine .inl ?_
    rw[if_pos hc,List.lookup_cons,hx]
   ·refine .inr ?_
    rw[if_neg hc,List.lookup_cons,hx]
  | false =>
   simp only[List.lookup_cons,hx]at h
   by_cases hc:(k == NameKind.free && env.scope.kind == .function && env.kindOf n == some .cell)=true
   ·rw[if_pos hc];simp only[List.lookup_cons,hx];exact ih h
   ·rw[if_neg hc];simp only[List.lookup_cons,hx];exact ih h
theorem relabel_back {env:Env}:∀ {names:List (Str×NameKind)}{x:Str}{kd:NameKind},(kd = .cell∨kd = .free) →
  (names.map fun (n,k)=>if (k == NameKind.free && env.scope.kind == .function && env.kindOf n == some .cell) then (n,NameKind.cell) else (n,k)).lookup x=some kd→∃y∈names,y.1=x∧(y.2 = .free∨y.2 = .cell)
 | [],_,_,_,h=>by simp at h
 | (n, k) :: r,x,kd,hkd,h=>by
  have ih:=@relabel_back env r x kd hkd
  rw[List.map_cons]at h
  dsimp only at h
  cases hx:x == n with
  | true =>
   have e:x=n:=by simpa using hx
   subst e
   refine⟨(x,k),by simp,rfl,?_⟩
   by_cases hc:(k == NameKind.free && env.scope.kind == .function && env.kindOf x == some .cell)=true
   ·refine .inl ?_
    simp only[Bool.and_eq_true]at hc
    simpa using hc.1.1
   ·rw[if_neg hc]at h
    simp only[List.lookup_cons,beq_self_eq_true,Option.some.injEq]at h
    subst h
    exact hkd.symm
  | false =>
   have h':(r.map fun (n,k)=>if (k == NameKind.free && env.scope.kind == .function && env.kindOf n == some .cell) then (n,NameKind.cell) else (n,k)).lookup x=some kd:=by
    by_cases hc:(k == NameKind.free && env.scope.kind == .function && env.kindOf n == some .cell)=true
    ·rw[if_pos hc]at h;simp only[List.lookup_cons,hx]at h;exact h
    ·rw[if_neg hc]at h;simp only[List.lookup_cons,hx]at h;exact h
   obtain⟨y,hy,q⟩:=ih h'
   exact⟨y,List.mem_cons_of_mem _ hy,q⟩
noncomputable def cxC (X:Cx)(sc:Scope)(cl:List (Str×Addr))(NC:List Str)(fp:List Addr)(s:Shared)(H:Hp):Cx where
 prog:=X.prog
 w:=X.w
 K:=X.K
 mg:=X.mg
 base:=X.base
 A:=X.A
 N:=NC
 s₀:=s
 H₀:=H
 env:=compEnvC sc cl s.heap.objs.size X.env
 outer:=X.stack
 stack:=X.stack
 ex:=fp
 fn:=fun _=>false
 calm:=X.calm
 pn:=[]
 xe:=fun _ _=>False
noncomputable def OutOk (X:Cx)(sc:Scope):List Str→List (Option Nat)→Prop
 | x :: xs,o :: os=>(match o with |none=>True |some j=>X.N[j]? = some x∧sc.names.lookup x=some .free∧(X.env.scope.names.lookup x=some .cell∨X.env.scope.names.lookup x=some .free))∧OutOk X sc xs os
 | _,_=>True
theorem OutOk.at {X:Cx}{sc:Scope}:∀ {NC:List Str}{fr:List (Option Nat)},OutOk X sc NC fr→∀(i:Nat)(x:Str)(j:Nat),NC[i]? = some x→fr[i]? = some (some j) →
  X.N[j]? = some x∧sc.names.lookup x=some .free∧(X.env.scope.names.lookup x=some .cell∨X.env.scope.names.lookup x=some .free)
 | [],_,_,i,x,j,h1,_=>by simp at h1
 | _ :: _,[],_,i,x,j,_,h2=>by simp at h2
 | y :: ys,o :: os,h,0,x,j,h1,h2=>by
  simp only[List.getElem?_cons_zero,Option.some.injEq]at h1 h2
  subst h1 h2
  exact h.1
 | y :: ys,o :: os,h,i+1,x,j,h1,h2=>OutOk.at h.2 i x j (by simpa using h1) (by simpa using h2)
structure Blk (X:Cx) (sc:Scope) (cl:List (Str×Addr)) (NC:List Str) (fr:List (Option Nat)):Prop where
 kind:sc.kind = .function
 cls:clsOf X.env.cells sc.names []=some cl
 nocell:∀y∈sc.names,y.2 ≠ .cell
 names:∀y∈sc.names,y.2 = .local→sc.names.lookup y.1=some .local
 len:fr.length=NC.length
 out:OutOk X sc NC fr
noncomputable def stC (fr:List (Option Nat)) (σ:St):St:=fr.map fun o=>o.bind fun j=>(σ[j]?).join
theorem blk_start {X:Cx}{sc:Scope}{cl:List (Str×Addr)}{NC:List Str}{fr:List (Option Nat)}{pins:List (Addr×Obj)}{σ:St}{H:Hp}{s s4:Shared}{fp:List Addr}(B:Blk X sc cl NC fr)
  (I:Inv X pins σ H s) (hf:∀b∈fp,FpOk X pins H b) (hlt:∀b∈fp,b<s.heap.objs.size) (hns:∃m,s4.heap.Ns s.heap.objs.size m) (hk:∀b o,s.heap.get? b=some o→s4.heap.get? b=some o) (hos:s4.os=s.os) (hg:s4.gens=s.gens) :
  Inv (cxC X sc cl NC fp s H) [] (stC fr σ) H s4:=by
 have sub:=clsOf_sub sc.names [] cl B.cls (fun x c q=>by simp at q)
 have has:=(clsOf_has sc.names [] cl B.cls).2
 have nloc:∀x c,cl.lookup x=some c→c<s.heap.objs.size:=fun x c e=>by
  obtain⟨v,o,q,_⟩:=I.cell x c (sub x c e)
  exact Heap.lt_size q
 refine⟨⟨I.ok.mod,B.kind,I.ok.glob,I.ok.blt,Nat.le_refl _,fun x y c h1 h2=>I.ok.inj x y c (sub x c h1) (sub y c h2),fun x hx=>?_,fun x c hx _=>(nomatch hx),I.ok.hd,I.ok.frames,.inl rfl,fun b hb=>⟨?_,fun x c e=>?_⟩,I.bs,Nat.le_trans I.ok.bsz I.sz,fun b o e hb=>?_,fun b hb=>?_,I.stack,I.stkFree⟩,
  hos,by rw[hg];exact I.bare,Un.kept hk,?_,fun x c e=>?_,I.hok.fresh (Nat.le_refl _),fun x c e=>I.freeC x c (sub x c e),fun p hp=>absurd (show p∈([]:List (Addr×Obj))from hp) (by simp),I.hok.kept hk,?_⟩
 ·have h':∃y∈sc.names,y.1=x∧(y.2 = .free∨y.2 = .cell):=by
   rcases hx with q |q
   ·exact relabel_back (.inl rfl) q
   ·exact relabel_back (.inr rfl) q
  obtain⟨y,hy,rfl,q⟩:=h'
  rcases q with q |q
  ·exact has y hy q
  ·exact absurd q (B.nocell y hy)
 ·exact Nat.ne_of_lt (hlt b hb)
 ·intro z
  obtain⟨f0,f1,f2,f3,f4,f5⟩:=hf b hb
  exact f4 x c (sub x c e) z
 ·obtain⟨f0,f1,f2,f3,f4,f5⟩:=hf b hb
  rcases f3 with q |q
  ·exact I.ok.noex b o e q
  ·exact absurd (Nat.lt_of_lt_of_le (Heap.lt_size e) I.ok.bsz) (Nat.not_lt.mpr q)
 ·intro z
  obtain⟨f0,f1,f2,f3,f4,f5⟩:=hf b hb
  rcases List.mem_cons.mp (I.stkSub b z)with q |q
  ·exact f1 q
  ·exact f2 q
 ·obtain⟨m,hm⟩:=hns
  refine⟨m,hm,fun i x v h1 h2 h3=>?_⟩
  unfold stC at h2
  rw[List.getElem?_map]at h2
  cases e:fr[i]? with
  | none=>rw[e]at h2;cases h2
  | some oj =>
   rw[e]at h2
   cases oj with
   | none=>cases h2
   | some j =>
    have h2':(σ[j]?).join=some v:=Option.some.inj h2
    have h4:σ[j]? = some (some v):=by
     cases q:σ[j]? with
     | none=>rw[q]at h2';cases h2'
     | some o=>rw[q]at h2';exact congrArg some h2'
    obtain⟨n1,n2,n3⟩:=B.out.at i x j h1 e
    obtain⟨m0,hm0,hl⟩:=I.loc
    obtain⟨u,r,l⟩:=hl j x v n1 h4 (n3.elim (fun q=>.inr (.inl q)) fun q=>.inr (.inr q))
    refine⟨u,r,.inr ⟨relabel_free n2,?_⟩⟩
    rcases l with ⟨k1,_⟩ | ⟨_,c,c1,c2⟩
    ·have k1':X.env.scope.names.lookup x=some .local:=k1
     rcases n3 with q |q <;> (rw[q]at k1';cases k1')
    ·obtain⟨c',e'⟩:=has (x,.free) (PySem.mem_of_lookup n2) rfl
     have q:=sub x c' e'
     rw[c1]at q;cases q
     obtain⟨o,ho,hd⟩:=c2
     exact⟨c,e',o,hk _ _ ho,hd⟩
 ·obtain⟨v,o,q,d⟩:=I.cell x c (sub x c e)
  exact⟨v,o,hk _ _ q,d⟩
 ·show (stC fr σ).length=NC.length
  unfold stC
  rw[List.length_map];exact B.len
theorem comp_turns {prog:Program}{w:World}{A:Around}{R:Result→Shared→Prop}{s:Shared}{elt target iter:Expr}{ifs:List Expr}{scope:Scope}{pos:Pos}{it acc:Value}{env:Env}(J:Nat→Shared→Prop)
  (turn : ∀n s,J n s→wpAny (model prog w) A (pyNext it) (fun r s1=>match r with
   | none=>R (.ok .next) s1
   | some v=>wpAny (model prog w) A (letOwnedTupleGo target it v) (fun _ s2=>wpAny (model prog w) A (assign target env v) (fun _ s3 =>
     wpAny (model prog w) A (compTests ifs env) (fun ok s4=>if ok=true then wpAny (model prog w) A (eval elt env) (fun x s5 =>
       wpAny (model prog w) A (call (.builtin "list.append") [acc,x]) (fun _ s6=>∃m,m<n∧J m s6) (fun _ _=>False) s5) (fun _ _=>False) s4
      else ∃m,m<n∧J m s4) (fun _ _=>False) s3) (fun _ _=>False) s2) (fun _ _=>False) s1) (fun _ _=>False) s)
  (n:Nat) (h:J n s):codeAny (model prog w) A (.compLoop (.ListComp elt [⟨target,iter,ifs,0⟩] scope pos) 0 it acc env) R s:=by
 refine codeAny_loop rfl J (fun n s hJ=>?_) n h
 show wpAny _ A ((compTurn (.ListComp elt [⟨target,iter,ifs,0⟩] scope pos) 0 it acc env).onRaise (fun x=>do noteFrame x env;theTreesLotGoes x)) _ _ s
 refine wpAny_noted ?_
 have wk:∀ {α:Type}{t:Sem α}{Q Q':α→Shared→Prop}{E:Value→Shared→Prop}{s:Shared},wpAny (model prog w) A t Q (fun _ _=>False) s→(∀a s,Q a s→Q' a s)→wpAny (model prog w) A t Q' E s:=fun h q=>wpAny_mono h q fun _ _ f=>f.elim
 rw[compTurn_list]
 refine wpAny_bind (wpAny_standAt (wpAny_bind (wk (turn n s hJ) fun r s1 h1=>?_)))
 cases r with
 | none=>exact wpAny_pure h1
 | some v =>
  refine wpAny_bind (wk h1 fun _ s2 h2=>wpAny_bind (wk h2 fun _ s3 h3=>?_))
  have h3':wpAny (model prog w) A (forIn ifs true fun c r=>if r=true then do let ok ← isTrue c env (eval c env);pure (ForInStep.yield ok) else pure (ForInStep.yield r)) (fun ok s4=>if ok=true then wpAny (model prog w) A (eval elt env) (fun x s5 =>
       wpAny (model prog w) A (call (.builtin "list.append") [acc,x]) (fun _ s6=>∃m,m<n∧J m s6) (fun _ _=>False) s5) (fun _ _=>False) s4
      else ∃m,m<n∧J m s4) (fun _ _=>False) s3:=by
   have e:compTests ifs env=(forIn ifs true fun c r=>if r=true then do let ok ← isTrue c env (eval c env);pure (ForInStep.yield ok) else pure (ForInStep.yield r)) >>= pure:=by rfl
   rw[e,bind_pure]at h3
   exact h3
  refine wpAny_bind (wk h3' fun ok s4 h4=>?_)
  cases ok with
  | false=>exact wpAny_pure ⟨rfl,h4⟩
  | true=>exact wpAny_bind (wpAny_bind (wk h4 fun x s5 h5=>wpAny_bind (wk h5 fun _ s6 h6=>wpAny_pure (wpAny_pure ⟨rfl,h6⟩))))
noncomputable def PF (X:Cx)(ifs:List Expr)(t:TT):Prop :=
 ∀(pins:List (Addr×Obj)) (s:Shared) (σ:St) (H:Hp) (Q:Bool→Hp→Prop),Inv X pins σ H s→t σ H Q→wpAny (model X.prog X.w) X.A (compTests ifs X.env) (TP X pins σ Q) X.xe s
noncomputable def tYes:TT:=fun _ H Q=>Q true H
theorem pf_nil {X:Cx}:PF X [] tYes:=fun _ _ _ H _ I h=>wpAny_pure ⟨H,I,h⟩
theorem pf_one {X:Cx}{c:Expr}{t:TT}(h:PT X c t):PF X [c] t:=fun pins s σ H Q I hw=>by
 have e:compTests [c] X.env=(forIn [c] true fun c r=>if r=true then do let ok ← isTrue c X.env (eval c X.env);pure (ForInStep.yield ok) else pure (ForInStep.yield r)) >>= pure:=by rfl
 rw[e,bind_pure]
 exact wpAny_tests_one (h pins s σ H Q I hw)
noncomputable def tComp (K:PySem.W.Frag)(fr:List (Option Nat))(wi:TI)(g:TG)(tt:TT)(te:TE):TE:=fun σ H Q=>wi σ H fun J H1=>∀acc,H1 acc=none→K.lookup acc=none →
 ∃W : Nat→Nat→St→Hp→Prop,(∃m,W 0 m (stC fr σ) (upd H1 acc (.lst [])))∧∀i m σc H,W i m σc H →
  (J.stop i H∧Q (.ref acc) H)∨(J.go i H∧∃N:St→Hp→Prop,(∀ σ' H',N σ' H'→∃m',m'<m∧W (i+1) m' σ' H')∧∀x H',J.yld i H x H'→g x σc H' fun σ2 H2=>tt σ2 H2 fun b H3 =>
   if b=true then te σ2 H3 fun v H4=>∃xs,H4 acc=some (.lst xs)∧xs.length<sizeLine∧N σ2 (upd H4 acc (.lst (xs ++ [v]))) else N σ2 H3)
section
variable {X:Cx}{sc:Scope}{cl:List (Str×Addr)}{NC:List Str}{fr:List (Option Nat)}{elt target iter:Expr}{ifs:List Expr}{pos:Pos}{wi:TI}{g:TG}{tt:TT}{te:TE}
theorem comp_core {pins:List (Addr×Obj)}{s:Shared}{σ:St}{H:Hp}{Q:VK}{RR:Value→Addr→Result→Shared→Prop}(B:Blk X sc cl NC fr)(hc:X.calm=true)(hi:PI X target iter wi)
  (hg:∀fp s H,PG (cxC X sc cl NC fp s H) target g) (ht:∀fp s H,PF (cxC X sc cl NC fp s H) ifs tt) (he:∀fp s H,PE (cxC X sc cl NC fp s H) elt te)
  (I:Inv X pins σ H s) (h:tComp X.K fr wi g tt te σ H Q)
  (hRR:∀acc C s' H',Q (.ref acc) H'→(∃m,s'.heap.Ns C m)→Inv X pins σ H' s'→FpOk X pins H' C→RR (.ref acc) C (.ok .next) s') :
  wpAny (model X.prog X.w) X.A (eval iter X.env) (fun x s1=>wpAny (model X.prog X.w) X.A (pyIter x) (fun it s2=>wpAny (model X.prog X.w) X.A (newList []) (fun acc s3 =>
   wpAny (model X.prog X.w) X.A (newFunctionEnv sc X.env.globals cl [] X.env.qual none .none (some X.env)) (fun cenv s4 =>
    codeAny (model X.prog X.w) X.A (.compStart (.ListComp elt [⟨target,iter,ifs,0⟩] sc pos) 0 it acc { cenv with scope:=relabel sc X.env }) (RR acc cenv.locals) s4) X.xe s3) X.xe s2) X.xe s1) X.xe s:=by
 refine thn (hi pins s σ H _ I h) fun v s1 h1=>thn h1 fun itv s2 h2=>?_
 obtain⟨it,fp,tn,J,H2,e,I2,T,st2,f2,K⟩:=h2
 subst e
 have nk:X.K.lookup s2.heap.objs.size=none:=by
  cases q:X.K.lookup s2.heap.objs.size with
  | none=>rfl
  | some o=>exact absurd (Heap.lt_size (I2.kIn _ o q)) (Nat.lt_irrefl _)
 obtain⟨W,⟨m0,w0⟩,turn⟩:=K s2.heap.objs.size (I2.hok.fresh (Nat.le_refl _)) nk
 have I3:Inv X pins σ (upd H2 s2.heap.objs.size (.lst [])) { s2 with heap:=s2.heap.push { cls:=.type "list",dict:=none,data:=.seq ([]:List Value).toArray } } :=
  I2.laid (t':=s2.toks) (fun b u e=>Heap.get?_push_of_some _ e) (Nat.le_refl _) ⟨Nat.zero_le _,[],0,.nil,Heap.get?_push_size _ rfl⟩
 have lt2:∀b∈fp,b<s2.heap.objs.size:=fun b hb=>by
  obtain⟨o,e,_⟩:=T.obj _ _ st2 b hb
  exact Heap.lt_size e
 have f3:∀b∈fp,FpOk X pins (upd H2 s2.heap.objs.size (.lst [])) b:=fun b hb=>⟨by rw[upd_ne (Nat.ne_of_lt (lt2 b hb))];exact(f2 b hb).1,(f2 b hb).2⟩
 refine wpAny_newObj_type (wpAny_newFunctionEnv B.nocell (by intro y hy;simp at hy) (fun h4 hns4 hsb4=>?_) B.kind)
 dsimp only at hns4 hsb4 ⊢
 generalize hs3:({ s2 with heap:=s2.heap.push { cls:=.type "list",dict:=none,data:=.seq ([]:List Value).toArray } }:Shared)=s3 at I3 ⊢
 have hh3:s3.heap=s2.heap.push { cls:=.type "list",dict:=none,data:=.seq ([]:List Value).toArray }:=by rw[← hs3]
 have z3:s3.heap.objs.size=s2.heap.objs.size+1:=by rw[hh3,Heap.size_push]
 rw[← hh3]at hns4 hsb4 ⊢
 have k4:∀b o,s3.heap.get? b=some o→h4.get? b=some o:=fun b o e=>hsb4.extBut b o (Nat.ne_of_lt (Heap.lt_size e)) (Heap.get?_push_of_some _ e)
 have lt3:∀b∈fp,b<s3.heap.objs.size:=fun b hb=>by rw[z3];exact Nat.lt_succ_of_lt (lt2 b hb)
 have start:∀s4:Shared,s4 = { s2 with heap:=h4,toks:=s2.toks+([]:List (Str×Value)).length }→codeAny (model X.prog X.w) X.A (.compLoop (.ListComp elt [⟨target,iter,ifs,0⟩] sc pos) 0 (.ref it) (.ref s2.heap.objs.size) (compEnvC sc cl s3.heap.objs.size X.env)) (RR (.ref s2.heap.objs.size) s3.heap.objs.size) s4:=by
  rintro s4 rfl
  have I4:Inv (cxC X sc cl NC fp s3 (upd H2 s2.heap.objs.size (.lst []))) [] (stC fr σ) (upd H2 s2.heap.objs.size (.lst [])) { s2 with heap:=h4,toks:=s2.toks+([]:List (Str×Value)).length } :=
   blk_start B I3 f3 lt3 ⟨_,hns4⟩ k4 (by rw[← hs3]) (by rw[← hs3])
  have st4:tn 0 h4:=T.keep _ _ _ st2 fun b hb o e=>k4 b o (by rw[hh3];exact Heap.get?_push_of_some _ e)
  have stat:∀ {H':Hp},(∀b∈fp,H' b=none)→∀b∈fp,FpOk (cxC X sc cl NC fp s3 (upd H2 s2.heap.objs.size (.lst []))) [] H' b:=fun hn b hb =>
   ⟨hn b hb,(I4.ok.exf b hb).1,I4.ok.exfs b hb,.inl hb,(I4.ok.exf b hb).2,fun p hp=>absurd (show p∈([]:List (Addr×Obj))from hp) (by simp)⟩
  refine comp_turns (fun n s'=>∃i σ' H',Inv (cxC X sc cl NC fp s3 (upd H2 s2.heap.objs.size (.lst []))) [] σ' H' s'∧tn i s'.heap∧(∀b∈fp,H' b=none)∧W i n σ' H') ?_ m0 ⟨0,_,_,I4,st4,fun b hb=>(f3 b hb).1,w0⟩
  rintro n s5 ⟨i,σ5,H5,I5,st5,fr5,w5⟩
  rcases turn i n σ5 H5 w5 with ⟨stop,qn⟩ | ⟨go,N,hN,step⟩
  ·refine thn (T.done (cxC X sc cl NC fp s3 (upd H2 s2.heap.objs.size (.lst []))) rfl rfl rfl hc i [] s5 σ5 H5 _ I5 (stat fr5) st5 stop) fun r s6 ⟨hr,I6⟩=>?_
   subst hr
   have hC:H5 s3.heap.objs.size=none:=I6.free
   refine hRR _ _ s6 H5 qn (let ⟨m,hm,_⟩:=I6.loc; ⟨m,hm⟩) ?_ (I3.fpOk (Nat.le_refl _) hC)
   have un:Un (frs X.stack) fp (upd H2 s2.heap.objs.size (.lst [])) H5 s3.heap s6.heap:=I6.base
   have eo:s6.os=s3.os:=I6.os
   have hb6:=I6.bare
   have hk6:HOk X.prog X.w H5 s6.heap:=I6.hok
   obtain⟨hh6,g6,d6,t6,os6⟩:=s6
   dsimp only at eo
   subst eo
   exact I3.call (h':=hh6) (g':=g6) (d':=d6) (t':=t6) (ch:=fp) un hk6 hb6 fun b hb=>⟨(f3 b hb).2.2.2.1,(f3 b hb).2.1,(f3 b hb).2.2.2.2.1,(f3 b hb).2.2.2.2.2⟩
  ·refine thn (T.item (cxC X sc cl NC fp s3 (upd H2 s2.heap.objs.size (.lst []))) rfl rfl rfl hc i [] s5 σ5 H5 _ I5 (stat fr5) st5 go) fun r s6 ⟨u,hr,h6⟩=>?_
   subst hr
   refine thn h6 fun _ s7 ⟨x,H7,I7,r7,y7,st7,fr7⟩=>?_
   have I7':=I7.pinned (stat fr7) (T.obj _ _ st7)
   refine thn (hg fp s3 _ _ s7 σ5 H7 x u _ I7' r7 (step x H7 y7)) fun _ s8 ⟨σ8,H8,I8,q8⟩=>?_
   refine thn (ht fp s3 _ _ s8 σ8 H8 _ I8 q8) fun b s9 ⟨H9,I9,q9⟩=>?_
   have again:∀ {s10:Shared}{σ7:St}{H10:Hp},Inv (cxC X sc cl NC fp s3 (upd H2 s2.heap.objs.size (.lst []))) ([] ++ pinsAt fp s7.heap) σ7 H10 s10→N σ7 H10 →
     ∃m,m<n∧∃i σ' H',Inv (cxC X sc cl NC fp s3 (upd H2 s2.heap.objs.size (.lst []))) [] σ' H' s10∧tn i s10.heap∧(∀b∈fp,H' b=none)∧W i m σ' H':=fun {s10 σ7 H10} I10 n7=>by
    obtain⟨m',hm,w7⟩:=hN σ7 H10 n7
    refine⟨m',hm,i+1,σ7,H10,I10.unpinned,T.keep _ _ _ st7 fun b hb o e=>(I10.pin (b,o) (List.mem_append_right _ (List.mem_append_right _ (mem_pinsAt hb e)))).1,fun b hb=>?_,w7⟩
    obtain⟨o,e,d⟩:=T.obj _ _ st7 b hb
    exact(I10.pin (b,o) (List.mem_append_right _ (List.mem_append_right _ (mem_pinsAt hb e)))).2.1
   cases b with
   | false=>exact again I9 q9
   | true =>
    refine thn (he fp s3 _ _ s9 σ8 H9 _ I9 q9) fun y s10 ⟨v,H10,I10,r10,xs,q1,q2,q3⟩=>?_
    refine thn (mt_append (X:=cxC X sc cl NC fp s3 (upd H2 s2.heap.objs.size (.lst []))) _ s10 σ8 H10 (.ref s2.heap.objs.size) [v] (.ref s2.heap.objs.size) [y] (fun z H'=>N σ8 H') I10 rfl (.cons r10 .nil) ⟨_,xs,v,rfl,rfl,q1,q2,q3⟩) fun z s11 ⟨_,H11,I11,_,q11⟩=>?_
    exact again I11 q11
 exact codeAny_compStart_list (start _ rfl) (T.self _ _ _ _ _ (T.keep _ _ _ st2 fun b hb o e=>k4 b o (by rw[hh3];exact Heap.get?_push_of_some _ e)) (start _ rfl))
theorem pe_comp (B:Blk X sc cl NC fr)(hc:X.calm=true)(hi:PI X target iter wi)(hg:∀fp s H,PG (cxC X sc cl NC fp s H) target g)(ht:∀fp s H,PF (cxC X sc cl NC fp s H) ifs tt)(he:∀fp s H,PE (cxC X sc cl NC fp s H) elt te)
  (hs:∀x,foldedSetIterable iter X.env x=pure x:=by intro _;rfl):PE X (.ListComp elt [⟨target,iter,ifs,0⟩] sc pos) (tComp X.K fr wi g tt te):=by
 intro pins s σ H Q I h
 rw[eval_ListComp]
 refine wpAny_comprehension_free (use:=none) rfl hs (closure_of B.cls) B.kind B.names ?_
 refine comp_core (RR:=fun acc C=>compPost (model X.prog X.w) X.A X.xe none (EP X pins σ Q) acc C) B hc hi hg ht he I h ?_
 rintro acc C s' H' q ⟨m,hn⟩ I' ⟨f0,f1,f2,f3,f4,f5⟩
 exact⟨m,hn,fun h' sb=>⟨.ref acc,H',I'.turned (t':=s'.toks) (fun b o hb e=>sb.extBut b o hb e) f0 f1 f3 f4 f5,rfl,q⟩⟩
end
theorem Same.upd {H:Hp}{p:Addr}{o:HO}(h:H p=none):Same H (upd H p o):=fun b u e=>by rw[upd_ne (ne_of_none e h)];exact e
theorem Same.tupS {K:PySem.W.Frag}{H H':Hp}{a:Addr}{xs:List V}(e:Same H H')(h:SqT K H a xs):SqT K H' a xs:=by
 rcases h with (h | ⟨o,h⟩) |h
 ·exact .inl (.inl (e _ _ h))
 ·exact .inl (.inr ⟨o,e _ _ h⟩)
 ·exact .inr h
theorem tup_whole {prog:Program}{w:World}{A:Around}{E:Value→Shared→Prop}{s:Shared}{t sl:Addr}{items:Array Value}{vl vu:Value}{lo hi:Option Int}{Q:Value→Shared→Prop}(ht:IsTup s.heap t items)(hs:s.heap.IsSliceOf sl vl vu .none)(pl:IsPart vl lo)(pu:IsPart vu hi)
  (hw:HT.sIx items.size 0 lo=0∧HT.sIx items.size items.size hi=items.size) (h:Q (.ref t) s):wpAny (model prog w) A (getItem (.ref t) (.ref sl)) Q E s:=by
 obtain⟨os,hos,hcs,hds⟩:=id hs
 have hTs:s.TypeIs (.ref sl) "slice":=⟨os,hos,hcs⟩
 unfold getItem
 try with_reducible refine wpAny_holding ?_
 first |refine wpAny_bind (wpAny_pure ?_) |skip
 refine wpAny_bind (wpAny_sequenceKey ht.typeIs (by decide) ?_)
 refine wpAny_bind (wpAny_callSpecial?_slot (name:=Str.ofString "__getitem__") ht.typeIs PyProof.Rows.slot_tuple_getitem (wpAny_call_entry PyProof.Rows.slot_tuple_getitem ht.typeIs entry_tuple_getitem ?_ (args_tuple_getitem _ _)))
 show wpAny _ _ (Builtin.Tuple.tupleItemsOf (.ref t) >>= _) _ _ s
 refine wpAny_bind (tupleItemsOf_ ht ?_)
 refine wpAny_bind (wpAny_typeOf hTs ?_)
 rw[if_pos (by decide)]
 refine wpAny_bind (HT.sliceApplied_gen hs pl pu ?_)
 show wpAny _ _ (if (((HT.sIx items.size 0 lo:Nat):Int) == 0 && (1:Int) == 1 && (HT.sIx items.size items.size hi - HT.sIx items.size 0 lo) == items.size)=true then _ else _) _ _ s
 rw[if_pos (by rw[hw.1,hw.2];simp)]
 refine wpAny_bind ?_
 unfold Builtin.Tuple.tupleIsExact
 refine wpAny_bind (wpAny_typeOf ht.typeIs (wpAny_pure ?_))
 rw[if_pos (by decide)]
 exact wpAny_bind (wpAny_rule (wpAny_pure ⟨_,rfl,wpAny_pure h⟩))
theorem cutV_whole {xs:List V}{lo hi:Option Int}(hw:HT.sIx xs.length 0 lo=0∧HT.sIx xs.length xs.length hi=xs.length):cutV xs lo hi=xs:=by
 unfold cutV
 rw[hw.1,hw.2];simp
noncomputable def rSlG (K:PySem.W.Frag):V→Option Int→Option Int→Hp→VK→Prop:=fun x lo hi H Q=>∃a xs,x = .ref a∧SqT K H a xs∧∀p H',(p=a∨H p=none)→Same H H'→SqT K H' p (cutV xs lo hi)→Q (.ref p) H'
section
variable {X:Cx}
theorem sl_tupG:SlR X (rSlG X.K):=by
 intro pins s σ H x v vl vu lo hi sl Q I rx hs pl pu h
 obtain⟨a,xs,rfl,hx,q⟩:=h
 by_cases hw:HT.sIx xs.length 0 lo=0∧HT.sIx xs.length xs.length hi=xs.length
 ·cases rx
  obtain⟨its,r,ht,hz⟩:=I.tuple hx
  have hlen:its.toArray.size=xs.length:=by rw[List.size_toArray];exact r.length.symm
  refine⟨"tuple",_,PyProof.Rows.slot_tuple_getitem.lookup,ht.typeIs,?_⟩
  refine tup_whole ht hs pl pu (by rw[hlen];exact hw) ⟨.ref a,H,I,rfl,q a H (.inl rfl) (Same.refl H) ?_⟩
  rw[cutV_whole hw];exact hx
 ·exact sl_tup pins s σ H _ v vl vu lo hi sl Q I rx hs pl pu ⟨a,xs,rfl,hx,hw,fun p hp=>q p _ (.inr hp) (Same.upd hp) (SqT.of upd_same)⟩
noncomputable def rCatG (K:PySem.W.Frag):R2:=fun x y H Q=>∃a b xs ys,x = .ref a∧y = .ref b∧SqT K H a xs∧SqT K H b ys∧xs.length+ys.length≤sizeLine∧∀p H',(p=a∨p=b∨H p=none)→Same H H'→SqT K H' p (xs ++ ys)→Q (.ref p) H'
theorem op_catG:OpR X (binaryOp .Add) (rCatG X.K):=by
 intro pins s σ H x y v u Q I rx ry h
 obtain⟨a,b,xs,ys,rfl,rfl,ha,hb,hz,q⟩:=h
 by_cases hx:xs = []
 ·subst hx
  cases rx
  cases ry
  obtain⟨its,r1,p1,_⟩:=I.tuple ha
  obtain⟨its2,r2,p2,_⟩:=I.tuple hb
  have e1:=r1.nil_iff.mpr rfl
  subst e1
  obtain⟨⟨cls,dd,data,sl⟩,ho,hc,n,hd⟩:=id p1
  obtain⟨⟨cls2,dd2,data2,sl2⟩,ho2,hc2,n2,hd2⟩:=id p2
  simp only at hc hd hc2 hd2
  subst hc hd hc2 hd2
  exact concat_meets ⟨_,ho,rfl⟩ ⟨_,ho2,rfl⟩ noFill_tuple_add seq_tuple_add PySem.F.slot_tuple_add PySem.F.entry_tuple_add (PySem.F.args_tuple_add_2 _ _)
   (tuple_addW0 a b _ _ n n2 dd dd2 sl sl2 (by simp)) ⟨ho,ho2,⟨.ref b,H,I,rfl,q b H (.inr (.inl rfl)) (Same.refl H) hb⟩⟩
 ·exact op_catT pins s σ H _ _ v u Q I rx ry ⟨a,b,xs,ys,rfl,rfl,ha,hb,hx,hz,fun e=>q a H (.inl rfl) (Same.refl H) (by rw[e,List.append_nil];exact ha),fun _ p hp=>q p _ (.inr (.inr hp)) (Same.upd hp) (SqT.of upd_same)⟩
theorem all_range_map (bs:List Bool)(f:Nat→Bool)(hf:∀i b,bs[i]? = some b→f i=b):(List.range bs.length).all f=bs.all id:=by
 induction bs generalizing f with
 | nil=>rfl
 | cons b bs ih =>
  rw[List.length_cons,List.range_succ_eq_map,List.all_cons,List.all_map,List.all_cons,hf 0 b rfl]
  have:=ih (fun i=>f (i+1)) fun i b' h=>hf (i+1) b' (by simpa using h)
  rw[← this];rfl
theorem call_all (hc:X.calm=true):CallR X (.builtin "all") (fun xs H Q=>∃(p:Addr)(bs:List Bool),xs = [.ref p]∧SqL X.K H p (bs.map V.bl)∧Q (.bl (bs.all id)) H):=by
 intro pins s σ H xs us Q I r h
 obtain⟨p,bs,rfl,hq,q⟩:=h
 obtain⟨u,rfl,ru⟩:=vals1 r
 cases ru
 obtain⟨its,rv,pl,hz⟩:=I.list hq
 have hl:=rv.length
 rw[List.length_map]at hl
 refine call_all_walk (wpAny_pyIter_list pl.isList ?_)
 have hne:p≠s.heap.objs.size:=by
  obtain⟨o,n,e,_⟩:=pl
  exact Nat.ne_of_lt (Heap.lt_size e)
 refine⟨_,_,_,_,_,_,fun i=>(bs[i]?).getD true,rfl,Walks.list (A:=X.A.in1) (show X.A.in1.handled=none from I.ok.hd hc) s.heap.objs.size p hne its.toArray,⟨⟨_,Heap.get?_push_size _ rfl,rfl,rfl⟩,pl.isList.push _⟩,fun i v s' Q' E' hP hQ=>?_,fun h' tk hk=>?_⟩
 ·have hb:∃b,bs[i]? = some b∧v = .bool b:=by
   have hi:i<its.length:=by
    have:=(Array.getElem?_eq_some_iff.mp hP).1
    simpa using this
   have e1:(bs.map V.bl)[i]? = some (.bl bs[i]):=by simp
   obtain⟨u,hu,ru⟩:=rv.get e1
   have:its.toArray[i]? = some u:=by simpa using hu
   rw[hP]at this;cases this
   exact⟨bs[i],by simp,ru⟩
  obtain⟨b,hb,rfl⟩:=hb
  dsimp only at hQ
  rw[hb]at hQ
  exact wpAny_truthy_bool hQ
 ·have e:(List.range its.toArray.size).all (fun i=>(bs[i]?).getD true)=bs.all id:=by
   rw[List.size_toArray,← hl]
   exact all_range_map bs _ fun i b h=>by rw[h];rfl
  rw[e]
  refine⟨.bl (bs.all id),H,?_,rfl,q⟩
  refine Inv.spun (s:=s) (t':=tk) (ch:=[s.heap.objs.size]) I (fun b hb=>?_) fun b o hb e=>hk b o hb (Heap.get?_push_of_some _ e)
  have eb:b=s.heap.objs.size:=by simpa using hb
  subst eb
  exact I.fpOk (Nat.le_refl _) (I.hok.fresh (Nat.le_refl _))
noncomputable def subT (T n:String):Option Bool:=if (Value.type T == Value.type n)=true then some true else if PySem.W.kitMeta n=true then (PySem.fastBuiltinMro T).map (·.contains (.type n)) else none
inductive TyS (K:PySem.W.Frag) (H:Hp):V→String→Prop
 | non:TyS K H .non "NoneType"
 | bl (b:Bool):TyS K H (.bl b) "bool"
 | int (i:Int):TyS K H (.int i) "int"
 | str (x:Str):TyS K H (.str x) "str"
 | lst {a:Addr}{xs:List V}(h:SqL K H a xs):TyS K H (.ref a) "list"
 | tup {a:Addr}{xs:List V}(h:SqT K H a xs):TyS K H (.ref a) "tuple"
 | dk {a:Addr}{kvs:List (Key×V)}(h:H a=some (.dK kvs)):TyS K H (.ref a) "dict"
theorem call_isi:CallR X (.builtin "isinstance") (fun xs H Q=>∃x T n b,xs = [x,.ty n]∧TyS X.K H x T∧subT T n=some b∧Q (.bl b) H):=by
 intro pins s σ H xs us Q I r h
 obtain⟨x,T,n,b,rfl,ty,hs,q⟩:=h
 obtain⟨u,w,rfl,ru,rw_⟩:=vals2 r
 cases rw_
 have e:PySem.W.kitOne X.K (.type T) (.type n)=some b:=hs
 have fin:∀tk,EP X pins σ Q (.bool b) { s with toks:=tk }:=fun tk=>⟨.bl b,H,I.tok tk,rfl,q⟩
 cases ty with
 | non=>cases ru;exact PySem.W.kia_one PySem.W.kitx_none I.kIn True.intro e (fun z=>nomatch z) fin
 | bl y=>cases ru;exact PySem.W.kia_one PySem.W.kitx_bool I.kIn True.intro e (fun z=>nomatch z) fin
 | int i=>obtain⟨t,rfl⟩:=ru;exact PySem.W.kia_one PySem.W.kitx_int I.kIn True.intro e (fun z=>nomatch z) fin
 | str y=>obtain⟨t,rfl⟩:=ru;exact PySem.W.kia_one PySem.W.kitx_str I.kIn True.intro e (fun z=>nomatch z) fin
 | lst hq =>
  cases ru
  obtain⟨its,_,⟨o,nn,e1,e2,_⟩,_⟩:=I.list hq
  exact PySem.W.kia_one PySem.W.kitx_list I.kIn ⟨o,e1,e2⟩ e (fun z=>nomatch z) fin
 | tup hq =>
  cases ru
  obtain⟨its,_,⟨o,e1,e2,_⟩,_⟩:=I.tuple hq
  exact PySem.W.kia_one PySem.W.kitx_tuple I.kIn ⟨o,e1,e2⟩ e (fun z=>nomatch z) fin
 | @dk a kvs hq =>
  cases ru
  obtain⟨_,_,vs,_,o,es,ep,h1,h2,_⟩:=(show ObjOk X.prog X.w H s.heap a (.dK kvs)from I.hok a _ hq)
  exact PySem.W.kia_one PySem.W.kitx_dict I.kIn ⟨o,h1,h2.1⟩ e (fun z=>nomatch z) fin
noncomputable def isB (T n:String):Bool:=T == n || (T == "bool" && n == "int")
theorem subT_tab:∀T ∈ ["NoneType","bool","int","str","list","tuple","dict"],∀n ∈ ["int","bool","str","tuple","list","dict"],subT T n=some (isB T n):=by decide +kernel
end
noncomputable def Ext (N:List Addr)(H H':Hp):Prop:=∀b o,H b=some o→b∉N→H' b=some o
theorem Ext.refl {N:List Addr}(H:Hp):Ext N H H:=fun _ _ h _=>h
theorem Ext.trans {N:List Addr}{H H1 H2:Hp}(a:Ext N H H1)(b:Ext N H1 H2):Ext N H H2:=fun c o h n=>b c o (a c o h n) n
theorem Ext.same {N:List Addr}{H H':Hp}(a:Same H H'):Ext N H H':=fun c o h _=>a c o h
theorem Ext.at {N:List Addr}{H:Hp}{p:Addr}{o:HO}(h:p∈N):Ext N H (L2.upd H p o):=fun c u e n=>by rw[upd_ne (show c≠p from fun z=>n (by rw[z];exact h))];exact e
theorem Ext.tup {N:List Addr}{K:PySem.W.Frag}{H H':Hp}{a:Addr}{xs:List V}(e:Ext N H H')(h:SqT K H a xs)(n:a∉N):SqT K H' a xs:=by
 rcases h with (h | ⟨o,h⟩) |h
 ·exact .inl (.inl (e _ _ h n))
 ·exact .inl (.inr ⟨o,e _ _ h n⟩)
 ·exact .inr h
theorem Ext.lst {N:List Addr}{K:PySem.W.Frag}{H H':Hp}{a:Addr}{xs:List V}(e:Ext N H H')(h:SqL K H a xs)(n:a∉N):SqL K H' a xs:=by
 rcases h with (h | ⟨o,h⟩) |h
 ·exact .inl (.inl (e _ _ h n))
 ·exact .inl (.inr ⟨o,e _ _ h n⟩)
 ·exact .inr h
noncomputable def kD:Key→PyData
 | .inl i=>.int i
 | .inr x=>.str x
mutual
inductive Dt (K:PySem.W.Frag) (N:List Addr) (H:Hp):V→PyData→Prop
 | non:Dt K N H .non .none
 | bl (b:Bool):Dt K N H (.bl b) (.bool b)
 | int (i:Int):Dt K N H (.int i) (.int i)
 | str (x:Str):Dt K N H (.str x) (.str x)
 | tup {a:Addr}{xs:List V}{ds:List PyData}(h:SqT K H a xs) (n:a∉N) (r:DtAll K N H xs ds):Dt K N H (.ref a) (.tuple ds)
 | lst {a:Addr}{xs:List V}{ds:List PyData}(h:SqL K H a xs) (n:a∉N) (r:DtAll K N H xs ds):Dt K N H (.ref a) (.list ds)
 | dk0 {a:Addr}(h:H a=some (.dK [])) (n:a∉N):Dt K N H (.ref a) (.dict [])
 | dk1 {a:Addr}{k:Key}{v:V}{d:PyData}(h:H a=some (.dK [(k,v)])) (n:a∉N) (r:Dt K N H v d):Dt K N H (.ref a) (.dict [(kD k,d)])
inductive DtAll (K:PySem.W.Frag) (N:List Addr) (H:Hp):List V→List PyData→Prop
 | nil:DtAll K N H [] []
 | cons {v:V}{d:PyData}{vs:List V}{ds:List PyData}(h:Dt K N H v d) (r:DtAll K N H vs ds):DtAll K N H (v :: vs) (d :: ds)
end
section
variable {K:PySem.W.Frag}{N:List Addr}{H H':Hp}
mutual
theorem Dt.ext (e:Ext N H H'):∀ {v:V}{d:PyData},Dt K N H v d→Dt K N H' v d
 | _,_,.non=>.non
 | _,_,.bl b=>.bl b
 | _,_,.int i=>.int i
 | _,_,.str x=>.str x
 | _,_,.tup h n r=>.tup (e.tup h n) n (DtAll.ext e r)
 | _,_,.lst h n r=>.lst (e.lst h n) n (DtAll.ext e r)
 | _,_,.dk0 h n=>.dk0 (e _ _ h n) n
 | _,_,.dk1 h n r=>.dk1 (e _ _ h n) n (Dt.ext e r)
theorem DtAll.ext (e:Ext N H H'):∀ {vs:List V}{ds:List PyData},DtAll K N H vs ds→DtAll K N H' vs ds
 | _,_,.nil=>.nil
 | _,_,.cons h r=>.cons (Dt.ext e h) (DtAll.ext e r)
end
theorem DtAll.length:∀ {vs:List V}{ds:List PyData},DtAll K N H vs ds→vs.length=ds.length
 | _,_,.nil=>rfl
 | _,_,.cons _ r=>by rw[List.length_cons,List.length_cons,DtAll.length r]
theorem DtAll.get:∀ {vs:List V}{ds:List PyData}{i:Nat}{v:V},DtAll K N H vs ds→vs[i]? = some v→∃d,ds[i]? = some d∧Dt K N H v d
 | _,_,_,_,.nil,e=>by simp at e
 | _,_,0,_,.cons h _,e=>by simp at e;subst e;exact⟨_,rfl,h⟩
 | _,_,i+1,v,.cons _ r,e=>by
  obtain⟨d,h1,h2⟩:=DtAll.get (i:=i) (v:=v) r (by simpa using e)
  exact⟨d,by simpa using h1,h2⟩
theorem DtAll.getD:∀ {vs:List V}{ds:List PyData}{i:Nat}{d:PyData},DtAll K N H vs ds→ds[i]? = some d→∃v,vs[i]? = some v∧Dt K N H v d
 | _,_,_,_,.nil,e=>by simp at e
 | _,_,0,_,.cons h _,e=>by simp at e;subst e;exact⟨_,rfl,h⟩
 | _,_,i+1,d,.cons _ r,e=>by
  obtain⟨v,h1,h2⟩:=DtAll.getD (i:=i) (d:=d) r (by simpa using e)
  exact⟨v,by simpa using h1,h2⟩
theorem DtAll.append:∀ {vs ws:List V}{ds es:List PyData},DtAll K N H vs ds→DtAll K N H ws es→DtAll K N H (vs ++ ws) (ds ++ es)
 | _,_,_,_,.nil,s=>s
 | _,_,_,_,.cons h r,s=>.cons h (DtAll.append r s)
theorem DtAll.take:∀ {vs:List V}{ds:List PyData}(n:Nat),DtAll K N H vs ds→DtAll K N H (vs.take n) (ds.take n)
 | _,_,0,_=>.nil
 | _,_,_+1,.nil=>.nil
 | _,_,n+1,.cons h r=>.cons h (DtAll.take n r)
theorem DtAll.drop:∀ {vs:List V}{ds:List PyData}(n:Nat),DtAll K N H vs ds→DtAll K N H (vs.drop n) (ds.drop n)
 | _,_,0,r=>r
 | _,_,_+1,.nil=>.nil
 | _,_,n+1,.cons _ r=>DtAll.drop n r
end
section
variable {X:Cx}{pins:List (Addr×Obj)}{σ:St}{H:Hp}{s:Shared}{N:List Addr}
mutual
theorem Dt.reads (I:Inv X pins σ H s):∀ {v:V}{d:PyData}{u:Value},Dt X.K N H v d→RelV v u→∃as,Reads s.heap u d as∧(sysModules∈N∨d = .dict []→sysModules∉as)
 | _,_,_,.non,r=>by cases r;exact⟨_,.none,fun _=>by simp⟩
 | _,_,_,.bl b,r=>by cases r;exact⟨_,.bool b,fun _=>by simp⟩
 | _,_,_,.int i,r=>by obtain⟨t,rfl⟩:=r;exact⟨_,.int i t,fun _=>by simp⟩
 | _,_,_,.str x,r=>by obtain⟨t,rfl⟩:=r;exact⟨_,.str x t,fun _=>by simp⟩
 | _,_,_,.tup h n q,r=>by
  cases r
  obtain⟨its,rv,⟨o,e1,e2,m,e3⟩,_⟩:=I.tuple h
  obtain⟨as,ra,sm⟩:=DtAll.reads I q rv
  refine⟨as,.tuple e1 e2 e3 (by simpa using ra),fun z=>?_⟩
  rcases z with z |z
  ·exact sm z
  ·cases z
 | _,_,_,.lst h n q,r=>by
  cases r
  obtain⟨its,rv,⟨o,m,e1,e2,e3,e4⟩,_⟩:=I.list h
  obtain⟨as,ra,sm⟩:=DtAll.reads I q rv
  refine⟨_,.list e1 e2 e4 (by simpa using ra),fun z=>?_⟩
  rcases z with z |z
  ·intro y
   rcases List.mem_cons.mp y with y |y
   ·exact n (y ▸ z)
   ·exact sm z y
  ·cases z
 | _,_,_,.dk0 (a:=a) h n,r=>by
  cases r
  obtain⟨_,hsm,vs,kv,o,es,ep,e1,e2,e3,e4,e5,e6⟩:=(show ObjOk X.prog X.w H s.heap a (.dK [])from I.hok a _ h)
  have ev:vs = []:=by cases kv;rfl
  subst ev
  have ee:es.toList = []:=by
   cases q:es.toList with
   | nil=>rfl
   | cons x r=>rw[q]at e5;cases e5
  refine⟨[a],?_,fun _=>?_⟩
  ·have:=Reads.dict (h:=s.heap) (a:=a) (o:=o) (es:=es) (n:=ep) (kvs:=[]) (as:=[]) (bs:=[]) e1 e2.1 e3 (by rw[ee];exact .nil) (by rw[ee];exact .nil)
   simpa using this
  ·intro z
   have z':sysModules=a:=by simpa using z
   rw[z']at hsm
   simp at hsm
 | _,_,_,.dk1 (a:=a) (k:=k) (v:=v) (d:=d) h n q,r=>by
  cases r
  obtain⟨_,hsm,vs,kv,o,es,ep,e1,e2,e3,e4,e5,e6⟩:=(show ObjOk X.prog X.w H s.heap a (.dK [(k,v)])from I.hok a _ h)
  obtain⟨u,rfl,ru⟩:∃u,vs = [(k,u)]∧RelV v u:=by
   cases kv with
   | @cons p q ps qs h1 h2 =>
    cases h2
    obtain⟨q1,q2⟩:=q
    obtain⟨h3,h4⟩:=h1
    dsimp only at h3 h4
    subst h3
    exact⟨q2,rfl,h4⟩
  obtain⟨en,ee,ek,ev⟩:∃en,es.toList = [en]∧keyIs k en.key=true∧en.val=u:=by
   generalize es.toList=el at e5
   cases e5 with
   | cons h1 h2 h3=>cases h3;exact⟨_,rfl,h1,h2⟩
  obtain⟨as,ra,sm⟩:=Dt.reads I q ru
  obtain⟨ks,rk,hk⟩:∃ks,Reads s.heap en.key (kD k) ks∧ks = []:=by
   rcases keyIs_shape ek with ⟨i,t,rfl,e⟩ | ⟨x,t,rfl,e⟩
   ·exact⟨[],by rw[e];exact .int i t,rfl⟩
   ·exact⟨[],by rw[e];exact .str x t,rfl⟩
  subst hk
  have rv:Reads s.heap en.val d as:=by rw[ev];exact ra
  refine⟨_,Reads.dict (h:=s.heap) (a:=a) (o:=o) (es:=es) (n:=ep) (kvs:=[(kD k,d)]) e1 e2.1 e3 (by rw[ee];exact .cons rk .nil) (by rw[ee];exact .cons rv .nil),fun z=>?_⟩
  rcases z with z |z
  ·intro y
   simp only[List.append_nil,List.nil_append,List.cons_append]at y
   rcases List.mem_cons.mp y with y |y
   ·rw[← y]at hsm;simp at hsm
   ·exact sm (.inl z) y
  ·cases z
theorem DtAll.reads (I:Inv X pins σ H s):∀ {vs:List V}{ds:List PyData}{us:List Value},DtAll X.K N H vs ds→Vals vs us→∃as,ReadsAll s.heap us ds as∧(sysModules∈N→sysModules∉as)
 | _,_,_,.nil,.nil=>⟨_,.nil,fun _=>by simp⟩
 | _,_,_,.cons h q,.cons r t=>by
  obtain⟨as,ra,sa⟩:=Dt.reads I h r
  obtain⟨bs,rb,sb⟩:=DtAll.reads I q t
  refine⟨_,.cons ra rb,fun z y=>?_⟩
  rcases List.mem_append.mp y with y |y
  ·exact sa (.inl z) y
  ·exact sb z y
end
end
section
variable {X:Cx}{N:List Addr}
theorem op_eqD {k:Nat}(hr:Room k X.A):OpR X (compareOp .Eq) (fun x y H Q=>∃d e,Dt X.K N H x d∧Dt X.K N H y e∧SeqAt.shaped d=true∧SeqAt.shaped e=true∧Q (.bl (PyData.eqv d e)) H):=by
 intro pins s σ H x y v u Q I rx ry h
 obtain⟨d,e,hd,he,sd,se,q⟩:=h
 obtain⟨as,ra,_⟩:=hd.reads I rx
 obtain⟨bs,rb,_⟩:=he.reads I ry
 exact SeqAt.compareEq_shaped ra rb sd se hr.units ⟨.bl _,H,I,rfl,q⟩
theorem op_neD {k:Nat}(hr:Room k X.A):OpR X (compareOp .NotEq) (fun x y H Q=>∃d e,Dt X.K N H x d∧Dt X.K N H y e∧SeqAt.shaped d=true∧SeqAt.shaped e=true∧Q (.bl (!PyData.eqv d e)) H):=by
 intro pins s σ H x y v u Q I rx ry h
 obtain⟨d,e,hd,he,sd,se,q⟩:=h
 obtain⟨as,ra,_⟩:=hd.reads I rx
 obtain⟨bs,rb,_⟩:=he.reads I ry
 exact SeqAt.compareNe_shaped ra rb sd se hr.units ⟨.bl _,H,I,rfl,q⟩
end
section
variable {D:Ends}{σ:St}{H:Hp}{t u:TS}{te ta tb tc:TE}{c tA tB':TT}{g:TG}{gs:TGs}{Q:VK}{K:PySem.W.Frag}{i:Nat}{v:V}{vs:List V}
theorem rd_seq (h:t { D with nx:=u D } σ H):tSeq t u D σ H:=h
theorem rd_if (h:c σ H fun b H1=>if b=true then t D σ H1 else u D σ H1):tIfS c t u D σ H:=h
theorem rd_asg (h:te σ H fun x H1=>g x σ H1 D.nx):tAsg te g D σ H:=h
theorem rd_drop (h:te σ H fun _ H1=>D.nx σ H1):tDrop te D σ H:=h
theorem rd_ret (h:te σ H D.rt):tRet te D σ H:=h
theorem rd_next (h:D.nx σ H):tNext D σ H:=h
theorem rd_op {r:R2}(h:ta σ H fun x H1=>tb σ H1 fun y H2=>r x y H2 Q):tOp r ta tb σ H Q:=h
theorem rd_un {r:V→Hp→VK→Prop}(h:ta σ H fun x H1=>r x H1 Q):tUn r ta σ H Q:=h
theorem rd_var (e:σ[i]? = some (some v))(h:Q v H):tVar i σ H Q:=⟨v,e,h⟩
theorem rd_c (h:Q v H):tC v σ H Q:=h
theorem rd_I0 {f:Int→Int→V}{i j:Int}(h:Q (f i j) H):rI0 f (.int i) (.int j) H Q:=⟨i,j,rfl,rfl,h⟩
theorem rd_I {C:Int→Int→Prop}{f:Int→Int→V}{i j:Int}(hc:C i j)(h:Q (f i j) H):rI C f (.int i) (.int j) H Q:=⟨i,j,rfl,rfl,hc,h⟩
theorem rd_U {f:Int→V}{i:Int}(h:Q (f i) H):rU f (.int i) H Q:=⟨i,rfl,h⟩
theorem rd_test {Q:Bool→Hp→Prop}(h:te σ H fun x H'=>∃k,x = .bl k∧Q k H'):tTest te σ H Q:=h
theorem rd_tB {Q:Bool→Hp→Prop}(h:te σ H fun x H'=>∃k,x = .bl k∧Q k H'):tB te σ H Q:=h
theorem rd_bl' {P:Bool→Prop}{k:Bool}(h:P k):∃k',V.bl k = .bl k'∧P k':=⟨k,rfl,h⟩
theorem rd_eq {x y:V}(hs:scal x y=true)(h:Q (.bl (decide (x=y))) H):rEq x y H Q:=⟨hs,h⟩
theorem rd_ne {x y:V}(hs:scal x y=true)(h:Q (.bl (!decide (x=y))) H):rNe x y H Q:=⟨hs,h⟩
theorem rd_ixL {p:Addr}{xs:List V}{i:Int}(hq:SqL K H p xs)(ha:atI xs i=some v)(h:Q v H):rIxL K (.ref p) (.int i) H Q:=⟨p,xs,i,v,rfl,rfl,hq,ha,h⟩
theorem rd_ixT {p:Addr}{xs:List V}{i:Int}(hq:SqT K H p xs)(ha:atI xs i=some v)(h:Q v H):rIxT K (.ref p) (.int i) H Q:=⟨p,xs,i,v,rfl,rfl,hq,ha,h⟩
theorem rd_name {Q:St→Hp→Prop}(h:Q (σ.set i (some v)) H):gName i v σ H Q:=h
theorem rd_sub {to ti:TE}{s:TSet}{Q:St→Hp→Prop}(h:to σ H fun o H1=>ti σ H1 fun i H2=>s o i v H2 fun H3=>Q σ H3):gSub to ti s v σ H Q:=h
theorem rd_setL {p:Addr}{xs:List V}{k:Int}{j:Nat}{Q:Hp→Prop}(hp:H p=some (.lst xs))(hi:ixN xs.length k=some j)(h:Q (upd H p (.lst (xs.set j v)))):rSetL (.ref p) (.int k) v H Q:=⟨p,xs,k,j,rfl,rfl,hp,hi,h⟩
theorem rd_CB {r:List V→Hp→VK→Prop}{ta:TA}(h:ta σ H fun vs H1=>r vs H1 Q):tCB r ta σ H Q:=h
theorem rd_nil {Q:List V→Hp→Prop}(h:Q [] H):tNil σ H Q:=h
theorem rd_cons {tr:TA}{Q:List V→Hp→Prop}(h:ta σ H fun x H1=>tr σ H1 fun xs H2=>Q (x :: xs) H2):tCons ta tr σ H Q:=h
theorem rd_and {Q:Bool→Hp→Prop}(h:tA σ H fun c H1=>if c=true then tB' σ H1 Q else Q false H1):tAnd tA tB' σ H Q:=h
theorem rd_or {Q:Bool→Hp→Prop}(h:tA σ H fun c H1=>if c=true then Q true H1 else tB' σ H1 Q):tOr tA tB' σ H Q:=h
theorem rd_not {Q:Bool→Hp→Prop}(h:tA σ H fun c H1=>Q (!c) H1):tNot tA σ H Q:=h
theorem rd_andV (h:ta σ H fun x H1=>∃c,x = .bl c∧if c=true then tb σ H1 Q else Q (.bl false) H1):tAndV ta tb σ H Q:=h
theorem rd_orV (h:ta σ H fun x H1=>∃c,x = .bl c∧if c=true then Q (.bl true) H1 else tb σ H1 Q):tOrV ta tb σ H Q:=h
theorem rd_notV (h:ta σ H fun x H1=>∃c,x = .bl c∧Q (.bl (!c)) H1):tNotV ta σ H Q:=h
theorem rd_ifE (h:c σ H fun c H1=>if c=true then ta σ H1 Q else tb σ H1 Q):tIf c ta tb σ H Q:=h
theorem rd_call {sp:Sp}{dvs:List V}{E:XK}{ta:TA}(h:ta σ H fun vs H1=>sp (vs ++ dvs) H1 Q E):tCall sp dvs E ta σ H Q:=h
theorem rd_chain {r r':R2}(h:ta σ H fun x H1=>tb σ H1 fun y H2=>r x y H2 fun z H3=>∃k,z = .bl k∧if k=true then tc σ H3 fun w H4=>r' y w H4 Q else Q (.bl false) H3):tChain r r' ta tb tc σ H Q:=h
theorem rd_sl {r:V→Option Int→Option Int→Hp→VK→Prop}{tl th:TO}(h:te σ H fun x H1=>tl σ H1 fun l H2=>th σ H2 fun u H3=>r x l u H3 Q):tSl r te tl th σ H Q:=h
theorem rd_nopart {Q:Option Int→Hp→Prop}(h:Q none H):tNoPart σ H Q:=h
theorem rd_part {Q:Option Int→Hp→Prop}(h:te σ H fun x H1=>∃i,x = .int i∧Q (some i) H1):tPart te σ H Q:=h
theorem rd_int {P:Int→Prop}{i:Int}(h:P i):∃i',V.int i = .int i'∧P i':=⟨i,rfl,h⟩
theorem rd_slL {p:Addr}{xs:List V}{lo hi:Option Int}(hq:SqL K H p xs)(h:∀l,H l=none→Q (.ref l) (upd H l (.lst (cutV xs lo hi)))):rSlL K (.ref p) lo hi H Q:=⟨p,xs,rfl,hq,h⟩
theorem rd_slG {p:Addr}{xs:List V}{lo hi:Option Int}(hq:SqT K H p xs)(h:∀q H',(q=p∨H q=none)→Same H H'→SqT K H' q (cutV xs lo hi)→Q (.ref q) H'):rSlG K (.ref p) lo hi H Q:=⟨p,xs,rfl,hq,h⟩
theorem rd_catG {p q:Addr}{xs ys:List V}(h1:SqT K H p xs)(h2:SqT K H q ys)(hz:xs.length+ys.length≤sizeLine)(h:∀r H',(r=p∨r=q∨H r=none)→Same H H'→SqT K H' r (xs ++ ys)→Q (.ref r) H'):rCatG K (.ref p) (.ref q) H Q:=⟨p,q,xs,ys,rfl,rfl,h1,h2,hz,h⟩
theorem rd_tupT {t:TGs}{n:Nat}{p:Addr}{xs:List V}{Q:St→Hp→Prop}(hq:SqT K H p xs)(hl:xs.length=n)(h:t xs σ H Q):gTup K n t (.ref p) σ H Q:=⟨p,xs,rfl,hq,hl,h⟩
theorem rd_gnil {Q:St→Hp→Prop}(h:Q σ H):gNil [] σ H Q:=⟨rfl,h⟩
theorem rd_gcons {t:TG}{u:TGs}{v:V}{r:List V}{Q:St→Hp→Prop}(h:t v σ H fun σ' H'=>u r σ' H' Q):gCons t u (v :: r) σ H Q:=⟨v,r,rfl,h⟩
theorem rd_BM {T:String}{r:V→List V→Hp→VK→Prop}{to:TE}{t:TA}(h:to σ H fun x H1=>tyV K T x H1∧t σ H1 fun xs H2=>r x xs H2 Q):tBM K T r to t σ H Q:=h
theorem rd_append {l:Addr}{xs:List V}{y:V}(h1:H l=some (.lst xs))(hz:xs.length<sizeLine)(h:Q .non (upd H l (.lst (xs ++ [y])))):rAppend (.ref l) [y] H Q:=⟨l,xs,y,rfl,rfl,h1,hz,h⟩
theorem rd_rng1 {ta:TA}{R:It→Hp→Prop}(h:ta σ H fun vs H1=>∃j:Int,vs = [.int j]∧-(2 ^ 62)≤j∧j<2 ^ 62∧R (Itr 0 j.toNat) H1):iRng1 ta σ H R:=h
theorem rd_rngV {j:Int}{P:Int→Prop}(h:P j):∃j':Int,[V.int j] = [.int j']∧P j':=⟨j,rfl,h⟩
theorem rd_ilist {tl:TE}{R:It→Hp→Prop}(h:tl σ H fun x H1=>∃a,x = .ref a∧(∃xs,SqL K H1 a xs)∧R (Itl K a) H1):iList K tl σ H R:=h
theorem rd_itup {tl:TE}{R:It→Hp→Prop}(h:tl σ H fun x H1=>∃a,x = .ref a∧(∃xs,SqT K H1 a xs)∧R (Itt K a) H1):iTup K tl σ H R:=h
end
noncomputable abbrev TR:=List V→Hp→VK→Prop
noncomputable def rLen (K:PySem.W.Frag):TR:=fun xs H Q=>∃p ys,xs = [.ref p]∧(SqL K H p ys∨SqT K H p ys)∧Q (.int ys.length) H
noncomputable def rLenS:TR:=fun xs H Q=>∃z,xs = [.str z]∧z.length≤sizeLine∧Q (.int z.length) H
noncomputable def rIsi (K:PySem.W.Frag):TR:=fun xs H Q=>∃x T n b,xs = [x,.ty n]∧TyS K H x T∧subT T n=some b∧Q (.bl b) H
noncomputable def rAll (K:PySem.W.Frag):TR:=fun xs H Q=>∃(p:Addr)(bs:List Bool),xs = [.ref p]∧SqL K H p (bs.map V.bl)∧Q (.bl (bs.all id)) H
noncomputable def rListOf (K:PySem.W.Frag):TR:=fun xs H Q=>∃p ys,xs = [.ref p]∧(SqL K H p ys∨SqT K H p ys)∧∀l,H l=none→Q (.ref l) (upd H l (.lst ys))
noncomputable def rTupleOf (K:PySem.W.Frag):TR:=fun xs H Q=>∃p ys,xs = [.ref p]∧((SqL K H p ys∧∀l,H l=none→Q (.ref l) (upd H l (.tup ys)))∨(SqT K H p ys∧Q (.ref p) H))
noncomputable def rMin:TR:=fun xs H Q=>∃i j,xs = [.int i,.int j]∧Q (.int (if j<i then j else i)) H
noncomputable def rMax:TR:=fun xs H Q=>∃i j,xs = [.int i,.int j]∧Q (.int (if j > i then j else i)) H
noncomputable def rEqD (K:PySem.W.Frag):R2:=fun x y H Q=>∃(N:List Addr)(d e:PyData),Dt K N H x d∧Dt K N H y e∧SeqAt.shaped d=true∧SeqAt.shaped e=true∧Q (.bl (PyData.eqv d e)) H
noncomputable def rNeD (K:PySem.W.Frag):R2:=fun x y H Q=>∃(N:List Addr)(d e:PyData),Dt K N H x d∧Dt K N H y e∧SeqAt.shaped d=true∧SeqAt.shaped e=true∧Q (.bl (!PyData.eqv d e)) H
noncomputable def rIsN:R2:=fun x y H Q=>y = .non∧Q (.bl (decide (x = .non))) H
noncomputable def rNotN:R2:=fun x y H Q=>y = .non∧Q (.bl (!decide (x = .non))) H
section
variable {X:Cx}
theorem cn_len:CallR X (.builtin "len") (rLen X.K):=call_len_seq
theorem cn_lenS:CallR X (.builtin "len") rLenS:=call_len_str
theorem cn_isi:CallR X (.builtin "isinstance") (rIsi X.K):=call_isi
theorem cn_all (hc:X.calm=true):CallR X (.builtin "all") (rAll X.K):=call_all hc
theorem cn_list:CallR X (.type "list") (rListOf X.K):=call_list_of
theorem cn_tuple:CallR X (.type "tuple") (rTupleOf X.K):=call_tuple_of
theorem cn_min (hc:X.calm=true):CallR X (.builtin "min") rMin:=call_min2 hc
theorem cn_max (hc:X.calm=true):CallR X (.builtin "max") rMax:=call_max2 hc
theorem on_eqD {k:Nat}(hr:Room k X.A):OpR X (compareOp .Eq) (rEqD X.K):=fun pins s σ H x y v u Q I rx ry ⟨N,d,e,h⟩=>op_eqD (N:=N) hr pins s σ H x y v u Q I rx ry ⟨d,e,h⟩
theorem on_neD {k:Nat}(hr:Room k X.A):OpR X (compareOp .NotEq) (rNeD X.K):=fun pins s σ H x y v u Q I rx ry ⟨N,d,e,h⟩=>op_neD (N:=N) hr pins s σ H x y v u Q I rx ry ⟨d,e,h⟩
theorem on_isN:OpR X (compareOp .Is) rIsN:=op_isN
theorem on_notN:OpR X (compareOp .IsNot) rNotN:=op_notN
end
section
variable {H:Hp}{Q:VK}{K:PySem.W.Frag}{N:List Addr}{p:Addr}{xs:List V}
theorem rd_lenL (hq:SqL K H p xs)(h:Q (.int xs.length) H):rLen K [.ref p] H Q:=⟨p,xs,rfl,.inl hq,h⟩
theorem rd_lenT (hq:SqT K H p xs)(h:Q (.int xs.length) H):rLen K [.ref p] H Q:=⟨p,xs,rfl,.inr hq,h⟩
theorem rd_isi {x:V}{T n:String}{b:Bool}(ty:TyS K H x T)(hs:subT T n=some b)(h:Q (.bl b) H):rIsi K [x,.ty n] H Q:=⟨x,T,n,b,rfl,ty,hs,h⟩
theorem rd_eqD {x y:V}{d e:PyData}(hd:Dt K N H x d)(he:Dt K N H y e)(h1:SeqAt.shaped d=true)(h2:SeqAt.shaped e=true)(h:Q (.bl (PyData.eqv d e)) H):rEqD K x y H Q:=⟨N,d,e,hd,he,h1,h2,h⟩
theorem rd_neD {x y:V}{d e:PyData}(hd:Dt K N H x d)(he:Dt K N H y e)(h1:SeqAt.shaped d=true)(h2:SeqAt.shaped e=true)(h:Q (.bl (!PyData.eqv d e)) H):rNeD K x y H Q:=⟨N,d,e,hd,he,h1,h2,h⟩
theorem rd_listL (hq:SqL K H p xs)(h:∀l,H l=none→Q (.ref l) (upd H l (.lst xs))):rListOf K [.ref p] H Q:=⟨p,xs,rfl,.inl hq,h⟩
theorem rd_tupleL (hq:SqL K H p xs)(h:∀l,H l=none→Q (.ref l) (upd H l (.tup xs))):rTupleOf K [.ref p] H Q:=⟨p,xs,rfl,.inl ⟨hq,h⟩⟩
theorem rd_all {bs:List Bool}(hq:SqL K H p (bs.map V.bl))(h:Q (.bl (bs.all id)) H):rAll K [.ref p] H Q:=⟨p,bs,rfl,hq,h⟩
theorem rd_min {i j:Int}(h:Q (.int (if j<i then j else i)) H):rMin [.int i,.int j] H Q:=⟨i,j,rfl,h⟩
theorem rd_max {i j:Int}(h:Q (.int (if j > i then j else i)) H):rMax [.int i,.int j] H Q:=⟨i,j,rfl,h⟩
theorem rd_isN {x:V}(h:Q (.bl (decide (x = .non))) H):rIsN x .non H Q:=⟨rfl,h⟩
theorem rd_notN {x:V}(h:Q (.bl (!decide (x = .non))) H):rNotN x .non H Q:=⟨rfl,h⟩
end
theorem atI_in {α:Type}{xs:List α}{i:Int}(h0:0≤i)(h1:i<xs.length):∃v,atI xs i=some v∧xs[i.toNat]? = some v:=by
 obtain⟨n,rfl⟩:=Int.eq_ofNat_of_zero_le h0
 have hn:n<xs.length:=by omega
 exact⟨xs[n],atI_nat (by simp[hn]),by simp[hn]⟩
theorem atI_ints {ns:List Int}{i:Int}(h0:0≤i)(h1:i<ns.length):∃n,atI (ns.map V.int) i=some (.int n)∧n∈ns:=by
 obtain⟨v,h2,h3⟩:=atI_in (xs:=ns.map V.int) h0 (by simpa using h1)
 rw[List.getElem?_map]at h3
 cases e:ns[i.toNat]? with
 | none=>rw[e]at h3;cases h3
 | some n=>rw[e]at h3;cases h3;exact⟨n,h2,List.mem_of_getElem? e⟩
noncomputable def CompW (σ0:St)(J:It)(H1:Hp)(acc:Addr)(g:TG)(tt:TT)(te:TE)(Q:VK):Prop:=∃W:Nat→Nat→St→Hp→Prop,(∃m,W 0 m σ0 (upd H1 acc (.lst [])))∧∀i m σc H,W i m σc H →
  (J.stop i H∧Q (.ref acc) H)∨(J.go i H∧∃N:St→Hp→Prop,(∀ σ' H',N σ' H'→∃m',m'<m∧W (i+1) m' σ' H')∧∀x H',J.yld i H x H'→g x σc H' fun σ2 H2=>tt σ2 H2 fun b H3 =>
   if b=true then te σ2 H3 fun v H4=>∃xs,H4 acc=some (.lst xs)∧xs.length<sizeLine∧N σ2 (upd H4 acc (.lst (xs ++ [v]))) else N σ2 H3)
noncomputable def ForW (J:It)(g:TG)(tb:TS)(D:Ends) (σ:St)(H:Hp):Prop:=∃W:Nat→Nat→St→Hp→Prop,(∃m,W 0 m σ H)∧∀i m σ H,W i m σ H →
 (J.stop i H∧D.nx σ H)∨(J.go i H∧∃N:St→Hp→Prop,(∀ σ' H',N σ' H'→∃m',m'<m∧W (i+1) m' σ' H')∧∀x H',J.yld i H x H'→g x σ H' fun σ2 H2=>tb { D with nx:=N,ct:=N,bk:=D.nx } σ2 H2)
section
variable {J:It}{H1:Hp}{acc:Addr}{σ0:St}{g:TG}{te:TE}{Q:VK}
theorem comp_by (n:Nat)(hn:n<sizeLine)(Pv:Nat→List V→St→Hp→Prop)(h0:Pv 0 [] σ0 (upd H1 acc (.lst [])))
  (hgo:∀i vs σc H,i<n→vs.length=i→H acc=some (.lst vs)→Pv i vs σc H→J.go i H∧∀x H',J.yld i H x H'→∀R:St→V→Hp→Prop,
   (∀ σ2 v H4,H4 acc=some (.lst vs)→Pv (i+1) (vs ++ [v]) σ2 (upd H4 acc (.lst (vs ++ [v])))→R σ2 v H4)→g x σc H' fun σ2 H2=>te σ2 H2 (R σ2))
  (hst:∀vs σc H,vs.length=n→H acc=some (.lst vs)→Pv n vs σc H→J.stop n H∧Q (.ref acc) H) :
  CompW σ0 J H1 acc g tYes te Q:=by
 refine⟨fun i m σc H=>m=n - i∧i≤n∧∃vs,vs.length=i∧H acc=some (.lst vs)∧Pv i vs σc H,⟨n,by simp,Nat.zero_le _,[],rfl,upd_same,h0⟩,?_⟩
 rintro i m σc H ⟨rfl,hi,vs,hl,ha,hp⟩
 by_cases hlt:i<n
 ·obtain⟨g1,g2⟩:=hgo i vs σc H hlt hl ha hp
  refine .inr ⟨g1,fun σ' H'=>i+1≤n∧∃vs,vs.length=i+1∧H' acc=some (.lst vs)∧Pv (i+1) vs σ' H',fun σ' H' q=>⟨n - (i+1),by omega,rfl,q⟩,fun x H' y=>?_⟩
  simp only[tYes,if_true]
  exact g2 x H' y (fun σ2 v H4=>∃xs,H4 acc=some (.lst xs)∧xs.length<sizeLine∧(i+1≤n∧∃vs,vs.length=i+1∧(upd H4 acc (.lst (xs ++ [v]))) acc=some (.lst vs)∧Pv (i+1) vs σ2 (upd H4 acc (.lst (xs ++ [v])))))
   fun σ2 v H4 q1 q2=>⟨vs,q1,by omega,hlt,vs ++ [v],by simp[hl],upd_same,q2⟩
 ·have e:i=n:=by omega
  subst e
  exact .inl (hst vs σc H hl ha hp)
end
theorem rd_comp {K:PySem.W.Frag}{fr:List (Option Nat)}{wi:TI}{g:TG}{tt:TT}{te:TE}{σ:St}{H:Hp}{Q:VK}(h:wi σ H fun J H1=>∀acc,H1 acc=none→K.lookup acc=none→CompW (stC fr σ) J H1 acc g tt te Q):tComp K fr wi g tt te σ H Q:=h
theorem rd_for {wi:TI}{g:TG}{tb:TS}{D:Ends}{σ:St}{H:Hp}(h:wi σ H fun J H1=>ForW J g tb D σ H1):tFor wi g tb D σ H:=h
theorem for_tupW {K:PySem.W.Frag}{a:Addr}{xs:List V}{g:TG}{tb:TS}{D:Ends}{σ:St}{H:Hp}(Pv:Nat→St→Hp→Prop)(h0:Pv 0 σ H)(hl:∀i σ H,i≤xs.length→Pv i σ H→SqT K H a xs)
  (hs:∀i x σ H,xs[i]? = some x→Pv i σ H→g x σ H fun σ2 H2=>tb { D with nx:=Pv (i+1),ct:=Pv (i+1),bk:=D.nx } σ2 H2) (hd:∀ σ H,Pv xs.length σ H→D.nx σ H):ForW (Itt K a) g tb D σ H:=for_tup Pv h0 hl hs hd
theorem for_rangeW {lo:Int}{n:Nat}{g:TG}{tb:TS}{D:Ends}{σ:St}{H:Hp}(Pv:Nat→St→Hp→Prop)(h0:Pv 0 σ H)
  (hs:∀i σ H,i<n→Pv i σ H→g (.int (lo+i)) σ H fun σ2 H2=>tb { D with nx:=Pv (i+1),ct:=Pv (i+1),bk:=D.nx } σ2 H2) (hd:∀ σ H,Pv n σ H→D.nx σ H):ForW (Itr lo n) g tb D σ H:=for_range Pv h0 hs hd
theorem rd_izip {K:PySem.W.Frag}{ta:TA}{σ:St}{H:Hp}{R:It→Hp→Prop}(h:ta σ H fun vs H1=>∃a b,vs = [.ref a,.ref b]∧(∃xs,SqT K H1 a xs)∧(∃ys,SqT K H1 b ys)∧R (Itz K a b) H1):iZip K ta σ H R:=h
theorem subT_of {T n:String}(h1:T ∈ ["NoneType","bool","int","str","list","tuple","dict"])(h2:n ∈ ["int","bool","str","tuple","list","dict"]):subT T n=some (isB T n):=subT_tab T h1 n h2
noncomputable def tyN:PyData→String
 | .none=>"NoneType"
 | .bool _=>"bool"
 | .int _=>"int"
 | .str _=>"str"
 | .list _=>"list"
 | .tuple _=>"tuple"
 | .dict _=>"dict"
theorem tyN_in (d:PyData):tyN d ∈ ["NoneType","bool","int","str","list","tuple","dict"]:=by cases d <;> simp[tyN]
theorem Dt.tyn {K:PySem.W.Frag}{N:List Addr}{H:Hp}{v:V}{d:PyData}(h:Dt K N H v d):TyS K H v (tyN d):=by
 cases h with
 | non=>exact .non
 | bl b=>exact .bl b
 | int i=>exact .int i
 | str x=>exact .str x
 | tup h n r=>exact .tup h
 | lst h n r=>exact .lst h
 | dk0 h n=>exact .dk h
 | dk1 h n r=>exact .dk h
noncomputable def isTupD:PyData→Bool
 | .tuple _=>true
 | _=>false
noncomputable def isIntD:PyData→Bool
 | .int _=>true
 | .bool _=>true
 | _=>false
noncomputable def isBoolD:PyData→Bool
 | .bool _=>true
 | _=>false
noncomputable def isStrD:PyData→Bool
 | .str _=>true
 | _=>false
noncomputable def isListD:PyData→Bool
 | .list _=>true
 | _=>false
section
variable {K:PySem.W.Frag}{N:List Addr}{H:Hp}{x:V}{d:PyData}{Q:VK}
theorem rd_isiTup (hd:Dt K N H x d)(h:Q (.bl (isTupD d)) H):rIsi K [x,.ty "tuple"] H Q:=by
 refine rd_isi hd.tyn (subT_of (tyN_in d) (by simp)) ?_
 have e:isB (tyN d) "tuple" = isTupD d:=by cases d <;> (dsimp only[tyN,isTupD,isIntD,isBoolD,isStrD,isListD];decide)
 rw[e];exact h
theorem rd_isiInt (hd:Dt K N H x d)(h:Q (.bl (isIntD d)) H):rIsi K [x,.ty "int"] H Q:=by
 refine rd_isi hd.tyn (subT_of (tyN_in d) (by simp)) ?_
 have e:isB (tyN d) "int" = isIntD d:=by cases d <;> (dsimp only[tyN,isTupD,isIntD,isBoolD,isStrD,isListD];decide)
 rw[e];exact h
theorem rd_isiBool (hd:Dt K N H x d)(h:Q (.bl (isBoolD d)) H):rIsi K [x,.ty "bool"] H Q:=by
 refine rd_isi hd.tyn (subT_of (tyN_in d) (by simp)) ?_
 have e:isB (tyN d) "bool" = isBoolD d:=by cases d <;> (dsimp only[tyN,isTupD,isIntD,isBoolD,isStrD,isListD];decide)
 rw[e];exact h
theorem rd_isiStr (hd:Dt K N H x d)(h:Q (.bl (isStrD d)) H):rIsi K [x,.ty "str"] H Q:=by
 refine rd_isi hd.tyn (subT_of (tyN_in d) (by simp)) ?_
 have e:isB (tyN d) "str" = isStrD d:=by cases d <;> (dsimp only[tyN,isTupD,isIntD,isBoolD,isStrD,isListD];decide)
 rw[e];exact h
theorem rd_isiList (hd:Dt K N H x d)(h:Q (.bl (isListD d)) H):rIsi K [x,.ty "list"] H Q:=by
 refine rd_isi hd.tyn (subT_of (tyN_in d) (by simp)) ?_
 have e:isB (tyN d) "list" = isListD d:=by cases d <;> (dsimp only[tyN,isTupD,isIntD,isBoolD,isStrD,isListD];decide)
 rw[e];exact h
end
theorem rd_iteT {i:Decidable (true=true)}{A B:Prop}(h:A):@ite Prop (true=true) i A B:=by rw[if_pos rfl];exact h
theorem rd_iteF {i:Decidable (false=true)}{A B:Prop}(h:B):@ite Prop (false=true) i A B:=by rw[if_neg Bool.false_ne_true];exact h
theorem rd_ite2 {c:Bool}{i:Decidable (c=true)}{A B:Prop}(h1:c=true→A)(h2:c=false→B):@ite Prop (c=true) i A B:=by
 cases c with
 | true=>rw[if_pos rfl];exact h1 rfl
 | false=>rw[if_neg Bool.false_ne_true];exact h2 rfl
theorem Same.upd2 {H H':Hp}{p:Addr}{o:HO}(s:Same H H')(h:H p=none):Same H (L2.upd H' p o):=fun b u e=>by rw[upd_ne (ne_of_none e h)];exact s b u e
theorem Dt.ref_int {K:PySem.W.Frag}{N:List Addr}{H:Hp}{v:V}{i:Int}(h:Dt K N H v (.int i)):v = .int i:=by cases h;rfl
theorem Dt.pair {K:PySem.W.Frag}{N:List Addr}{H:Hp}{v:V}{a b:Int}(h:Dt K N H v (.tuple [.int a,.int b])):∃p,v = .ref p∧SqT K H p [.int a,.int b]∧p∉N:=by
 cases h with
 | tup h n r =>
  cases r with
  | cons h1 r=>cases r with
   | cons h2 r=>cases r;cases h1;cases h2;exact⟨_,rfl,h,n⟩
theorem DtAll.at {K:PySem.W.Frag}{N:List Addr}{H:Hp}{vs:List V}{ds:List PyData}{i:Nat}(r:DtAll K N H vs ds)(h:i<ds.length):∃v d,vs[i]? = some v∧ds[i]? = some d∧Dt K N H v d:=by
 have e:ds[i]? = some ds[i]:=by simp[h]
 obtain⟨v,h1,h2⟩:=r.getD e
 exact⟨v,ds[i],h1,e,h2⟩
theorem cutV_tail (xs:List V):cutV xs (some 1) none=xs.drop 1:=by
 unfold cutV
 have e:HT.sIx xs.length 0 (some 1)=min 1 xs.length:=HT.sIx_nat _ _ 1
 rw[e,HT.sIx_none]
 cases xs with
 | nil=>simp
 | cons x r=>rw[List.length_cons,Nat.min_eq_left (by omega)];simp
section
variable {X:Cx}{K:PySem.W.Frag}
theorem ix_tupK (h:X.K=K):IxR X (rIxT K):=h ▸ ix_tup
theorem pg_tupK {es:List Expr}{k:Nat}{t:TGs}{n:Nat}{pos:Pos}(hK:X.K=K)(hc:X.calm=true)(h:PGs X es t)
  (hn:(assignEach es X.env).length=n:=by rfl) (hst:(assignEach es X.env).findIdx? (·.1)=none:=by rfl):PG X (.Tuple es k pos) (gTup K n t):=hK ▸ pg_tup hc h hn hst
end
end L2
namespace L2
open PySem
structure StOk (K:PySem.W.Frag) (H:Hp) (st:Addr):Prop where
 ex:∃(c:Addr) (cs:List Int) (p q r:Int),H st=some (.lst [.ref c,.int p,.int q,.int r])∧H c=some (.lst (cs.map V.int))∧c≠st∧1≤cs.length∧cs.length≤63∧0≤p∧0≤q∧0≤r∧r<2147483647
theorem StOk.ext {K:PySem.W.Frag}{H H':Hp}{st:Addr}(h:StOk K H st)(e:∀b o,H b=some o→H' b=some o):StOk K H' st:=by
 obtain⟨c,cs,p,q,r,h1,h2,h3⟩:=h.ex
 exact⟨c,cs,p,q,r,e _ _ h1,e _ _ h2,h3⟩
theorem sz {n:Nat}(h:n≤1000):n≤sizeLine:=Nat.le_trans h (by decide)
end L2
namespace Mt
open PySem
noncomputable def numD:PyData→Bool
 | .int _=>true
 | _=>false
noncomputable def withinD (a b:Int):PyData→Bool
 | .int i=>decide (a≤i) && decide (i≤b)
 | _=>false
noncomputable def begunD:PyData→Bool
 | .tuple [x,y]=>withinD 0 1000000000 x && withinD 0 1000000 y
 | _=>false
noncomputable def chk:Int→Int→List PyData→Bool
 | _,_,[]=>true
 | l,f,.tuple [.int a,.int b] :: r=>decide (l<a) && decide (a≤1000000000) && decide (f≤b) && decide (b≤1000000) && chk a b r
 | _,_,_ :: _=>false
noncomputable def first0:List PyData→Bool
 | .tuple [.int _,.int b] :: _=>decide (b=0)
 | _=>false
noncomputable def histD:PyData→Bool
 | .tuple ds=>decide (1≤ds.length) && decide (ds.length≤60) && chk (-1) 0 ds && first0 ds
 | _=>false
theorem begun_shape {d:PyData}(h:begunD d=true):∃a b,d = .tuple [.int a,.int b]∧0≤a∧a≤1000000000∧0≤b∧b≤1000000:=by
 unfold begunD at h
 split at h
 ·rename_i x y
  simp only[Bool.and_eq_true]at h
  obtain⟨h1,h2⟩:=h
  unfold withinD at h1 h2
  split at h1
  ·split at h2
   ·rename_i i _ j
    simp only[Bool.and_eq_true,decide_eq_true_eq]at h1 h2
    exact⟨_,_,rfl,h1.1,h1.2,h2.1,h2.2⟩
   ·cases h2
  ·cases h1
 ·cases h
theorem chk_cons_int (l f a b:Int)(r:List PyData):chk l f (.tuple [.int a,.int b] :: r)=(decide (l<a) && decide (a≤1000000000) && decide (f≤b) && decide (b≤1000000) && chk a b r):=by
 simp only[chk]
theorem chk_begun:∀ {ds:List PyData}{l f:Int},-1≤l→0≤f→chk l f ds=true→ds.all begunD=true
 | [],_,_,_,_,_=>rfl
 | d :: r,l,f,hl,hf,h=>by
  unfold chk at h
  split at h
  ·rename_i heq;cases heq
  ·rename_i a b r' heq
   cases heq
   simp only[Bool.and_eq_true,decide_eq_true_eq]at h
   obtain⟨⟨⟨⟨h1,h2⟩,h3⟩,h4⟩,h5⟩:=h
   rw[List.all_cons,chk_begun (by omega) (by omega) h5]
   simp only[begunD,withinD,Bool.and_eq_true,decide_eq_true_eq,Bool.and_true]
   exact⟨⟨by omega,h2⟩,by omega,h4⟩
  ·cases h
noncomputable def rise (ds:List PyData)(i:Nat):Bool :=
 match ds[i]?,ds[i+1]? with
 | some (.tuple [.int a,.int b]),some (.tuple [.int c,.int d])=>decide (a<c) && decide (b≤d)
 | _,_=>false
theorem chk_rise:∀ {ds:List PyData}{l f a b:Int}{r:List PyData},ds = .tuple [.int a,.int b] :: r→ds.all begunD=true→(chk l f ds=(decide (l<a) && decide (f≤b) && (List.range r.length).all (rise ds)))
 | _,l,f,a,b,[],rfl,h=>by
  rw[List.all_cons]at h
  simp only[begunD,withinD,Bool.and_eq_true,decide_eq_true_eq]at h
  rw[chk_cons_int]
  simp[chk,h.1.1.2,h.1.2.2]
 | _,l,f,a,b,d :: r,rfl,h=>by
  have h0:=h
  rw[List.all_cons,Bool.and_eq_true]at h
  obtain⟨h1,h2⟩:=h
  have h2':=h2
  rw[List.all_cons,Bool.and_eq_true]at h2
  obtain⟨c,e,rfl,_⟩:=begun_shape h2.1
  simp only[begunD,withinD,Bool.and_eq_true,decide_eq_true_eq]at h1
  rw[chk_cons_int,chk_rise (l:=a) (f:=b) rfl h2',List.length_cons,List.range_succ_eq_map,List.all_cons,List.all_map]
  have e1:rise (.tuple [.int a,.int b] :: .tuple [.int c,.int e] :: r) 0=(decide (a<c) && decide (b≤e)):=by simp[rise]
  have e2:(rise (.tuple [.int a,.int b] :: .tuple [.int c,.int e] :: r) ∘ Nat.succ)=rise (.tuple [.int c,.int e] :: r):=by
   funext i;simp[rise]
  rw[e1,e2,decide_eq_true h1.1.2,decide_eq_true h1.2.2]
  simp only[Bool.and_true]
theorem hist_of_begun {ds:List PyData}(h1:1≤ds.length)(h2:ds.length≤60)(hb:ds.all begunD=true)(hf:first0 ds=true):histD (.tuple ds)=(List.range (ds.length - 1)).all (rise ds):=by
 cases ds with
 | nil=>simp at h1
 | cons d r =>
  have hb':=hb
  rw[List.all_cons,Bool.and_eq_true]at hb'
  obtain⟨a,b,rfl,g1,g2,g3,g4⟩:=begun_shape hb'.1
  have e:decide (-1<a)=true:=decide_eq_true (by omega)
  have e':decide (0≤b)=true:=decide_eq_true g3
  simp only[histD,hf,Bool.true_and,Bool.and_true,chk_rise (l:=-1) (f:=0) rfl hb,e,e',decide_eq_true h1,decide_eq_true h2]
  rfl
theorem hist_not_begun {ds:List PyData}(hb:ds.all begunD=false):histD (.tuple ds)=false:=by
 cases h:histD (.tuple ds)with
 | false=>rfl
 | true =>
  simp only[histD,Bool.and_eq_true,decide_eq_true_eq]at h
  rw[chk_begun (by omega) (by omega) h.1.2]at hb
  cases hb
theorem p6:(10:Int) ^ (6:Int).toNat=1000000:=by decide
end Mt
namespace Mt
open PySem L2
structure Itm (w k:Nat) (d:PyData):Prop where
 sh:d.showable=true
 lv:d.leavesShort 50=true
 wt:d.weight≤w
 dp:d.depth≤k
 cl:d.canLay0=true
theorem Itm.mono {w w' k k':Nat}{d:PyData}(h:Itm w k d)(h1:w≤w')(h2:k≤k'):Itm w' k' d:=⟨h.sh,h.lv,Nat.le_trans h.wt h1,Nat.le_trans h.dp h2,h.cl⟩
theorem log2_le {n:Nat}(h:n<10 ^ 41):n.log2<140:=by
 by_cases h0:n=0
 ·subst h0;decide
 ·exact(Nat.log2_lt h0).mpr (Nat.lt_of_lt_of_le h (by decide))
theorem itm_int {i:Int}(h:i.natAbs<10 ^ 41):Itm 140 0 (.int i):=by
 have hl:=log2_le h
 refine⟨?_,?_,?_,Nat.le_refl _,rfl⟩
 ·simp only[PyData.showable,decide_eq_true_eq];omega
 ·have e:=int_text_length_le10 (k:=41) (by decide) h
  have e':(PyData.shown (.int i)).length=(toString i).length:=ofString_length _
  simp only[PyData.leavesShort,decide_eq_true_eq,e'];omega
 ·simp only[PyData.weight]
  split <;> omega
noncomputable def cpsOk (x:Str):Prop:=(x.cps.toList.all fun c=>decide (c<1114112))=true
theorem cps_lv {x:Str}(h:cpsOk x):(x.cps.toList.all fun c=>decide (c<16 ^ 8))=true:=by
 unfold cpsOk at h
 rw[List.all_eq_true]at h ⊢
 intro c hc
 have:=h c hc
 rw[decide_eq_true_eq]at this ⊢
 exact Nat.lt_trans this (by decide)
theorem cps_ok {x:Str}(h:cpsOk x):(PyData.str x).canLay0=true:=by
 rw[PyData.canLay0.eq_4]
 unfold PyData.strOk
 rw[← Array.all_toList]
 exact h
theorem itm_str {x:Str}(h:cpsOk x)(hl:x.length≤140):Itm 140 0 (.str x):=⟨rfl,cps_lv h,hl,Nat.le_refl _,cps_ok h⟩
theorem all_showable {w k:Nat}:∀ {ds:List PyData},(∀d∈ds,Itm w k d)→PyData.showableAll ds=true
 | [],_=>rfl
 | d :: r,h=>by
  simp only[PyData.showableAll,Bool.and_eq_true]
  exact⟨(h d (by simp)).sh,all_showable fun e he=>h e (List.mem_cons_of_mem _ he)⟩
theorem all_leaves {w k:Nat}:∀ {ds:List PyData},(∀d∈ds,Itm w k d)→PyData.leavesShortAll 50 ds=true
 | [],_=>rfl
 | d :: r,h=>by
  simp only[PyData.leavesShortAll,Bool.and_eq_true]
  exact⟨(h d (by simp)).lv,all_leaves fun e he=>h e (List.mem_cons_of_mem _ he)⟩
theorem all_weight {w k:Nat}:∀ {ds:List PyData},(∀d∈ds,Itm w k d)→PyData.weightAll ds≤ds.length * (w+1)
 | [],_=>by simp[PyData.weightAll]
 | d :: r,h=>by
  have h1:=(h d (by simp)).wt
  have h2:=all_weight (ds:=r) fun e he=>h e (List.mem_cons_of_mem _ he)
  simp only[PyData.weightAll,List.length_cons,Nat.add_mul,Nat.one_mul]
  omega
theorem all_depth {w k:Nat}:∀ {ds:List PyData},(∀d∈ds,Itm w k d)→PyData.depthAll ds≤k
 | [],_=>by simp[PyData.depthAll]
 | d :: r,h=>by
  simp only[PyData.depthAll]
  exact Nat.max_le.mpr ⟨(h d (by simp)).dp,all_depth fun e he=>h e (List.mem_cons_of_mem _ he)⟩
theorem all_nodict {w k:Nat}:∀ {ds:List PyData},(∀d∈ds,Itm w k d)→PyData.canLayAll0 ds=true
 | [],_=>rfl
 | d :: r,h=>by
  simp only[PyData.canLayAll0,Bool.and_eq_true]
  exact⟨(h d (by simp)).cl,all_nodict fun e he=>h e (List.mem_cons_of_mem _ he)⟩
theorem itm_tuple {w k n:Nat}{ds:List PyData}(h:∀d∈ds,Itm w k d)(hn:ds.length≤n):Itm (n * (w+1)) (k+1) (.tuple ds) :=
 ⟨all_showable h,all_leaves h,Nat.le_trans (all_weight h) (Nat.mul_le_mul_right _ hn),Nat.succ_le_succ (all_depth h),all_nodict h⟩
noncomputable def pr (p:Int×Int):PyData:=.tuple [.int p.1,.int p.2]
noncomputable def okP:Int→Int→List (Int×Int)→Prop
 | _,_,[]=>True
 | l,f,(a,b) :: r=>l<a∧a≤1000000000∧f≤b∧b≤1000000∧okP a b r
theorem okP_snoc:∀ {l f:Int}{hs:List (Int×Int)}{a b c d:Int},okP l f (hs ++ [(a,b)])→a<c→c≤1000000000→b≤d→d≤1000000→okP l f (hs ++ [(a,b)] ++ [(c,d)])
 | l,f,[],a,b,c,d,h,h1,h2,h3,h4=>⟨h.1,h.2.1,h.2.2.1,h.2.2.2.1,h1,h2,h3,h4,trivial⟩
 | l,f,(x,y) :: r,a,b,c,d,h,h1,h2,h3,h4=>⟨h.1,h.2.1,h.2.2.1,h.2.2.2.1,okP_snoc h.2.2.2.2 h1 h2 h3 h4⟩
theorem okP_bound:∀ {l f:Int}{hs:List (Int×Int)},-1≤l→0≤f→okP l f hs→∀p∈hs,0≤p.1∧p.1≤1000000000∧0≤p.2∧p.2≤1000000
 | l,f,[],_,_,_,p,hp=>by simp at hp
 | l,f,(a,b) :: r,hl,hf,h,p,hp=>by
  obtain⟨h1,h2,h3,h4,h5⟩:=h
  rcases List.mem_cons.mp hp with rfl |hp
  ·exact⟨by show 0≤a;omega,h2,by show 0≤b;omega,h4⟩
  ·exact okP_bound (by omega) (by omega) h5 p hp
theorem chk_okP:∀ {l f:Int}{hs:List (Int×Int)},okP l f hs→chk l f (hs.map pr)=true
 | l,f,[],_=>rfl
 | l,f,(a,b) :: r,h=>by
  obtain⟨h1,h2,h3,h4,h5⟩:=h
  rw[List.map_cons]
  show chk l f (.tuple [.int a,.int b] :: r.map pr)=true
  rw[chk_cons_int,chk_okP h5]
  simp[h1,h2,h3,h4]
structure HOK (hs:List (Int×Int)):Prop where
 len1:1≤hs.length
 len2:hs.length≤60
 ok:okP (-1) 0 hs
 zero:∃a r,hs=(a,0) :: r
theorem HOK.hist {hs:List (Int×Int)}(h:HOK hs):histD (.tuple (hs.map pr))=true:=by
 obtain⟨a,r,rfl⟩:=h.zero
 have h1:=h.len1
 have h2:=h.len2
 simp only[histD,chk_okP h.ok,List.length_map,decide_eq_true h1,decide_eq_true h2]
 rfl
theorem HOK.bound {hs:List (Int×Int)}(h:HOK hs):∀p∈hs,0≤p.1∧p.1≤1000000000∧0≤p.2∧p.2≤1000000:=okP_bound (by decide) (by decide) h.ok
end Mt
namespace L2
open PySem
theorem sub_not {N N':List Addr}(h:∀b∈N',b∈N) {a:Addr}(n:a∉N):a∉N':=fun z=>n (h a z)
mutual
theorem Dt.weaken {K:PySem.W.Frag}{N N':List Addr}{H:Hp}(h:∀b∈N',b∈N):∀ {v:V}{d:PyData},Dt K N H v d→Dt K N' H v d
 | _,_,.non=>.non
 | _,_,.bl b=>.bl b
 | _,_,.int i=>.int i
 | _,_,.str x=>.str x
 | _,_,.tup q n r=>.tup q (sub_not h n) (DtAll.weaken h r)
 | _,_,.lst q n r=>.lst q (sub_not h n) (DtAll.weaken h r)
 | _,_,.dk0 q n=>.dk0 q (sub_not h n)
 | _,_,.dk1 q n r=>.dk1 q (sub_not h n) (Dt.weaken h r)
theorem DtAll.weaken {K:PySem.W.Frag}{N N':List Addr}{H:Hp}(h:∀b∈N',b∈N):∀ {vs:List V}{ds:List PyData},DtAll K N H vs ds→DtAll K N' H vs ds
 | _,_,.nil=>.nil
 | _,_,.cons q r=>.cons (Dt.weaken h q) (DtAll.weaken h r)
end
theorem StOk.at {K:PySem.W.Frag}{H:Hp}{st:Addr}(h:StOk K H st):∃xs,H st=some (.lst xs):=by
 obtain⟨c,cs,p,q,r,h1,_⟩:=h.ex
 exact⟨_,h1⟩
theorem StOk.ne {K:PySem.W.Frag}{H:Hp}{st p:Addr}(h:StOk K H st)(n:H p=none):p≠st:=by
 obtain⟨xs,e⟩:=h.at
 exact fun z=>by rw[z,e]at n;cases n
theorem DtAll.snoc {K:PySem.W.Frag}{N:List Addr}{H:Hp}:∀ {ds:List PyData}{d:PyData}{vs:List V},DtAll K N H vs (ds ++ [d])→∃ws v,vs=ws ++ [v]∧DtAll K N H ws ds∧Dt K N H v d
 | [],d,_,.cons h .nil=>⟨[],_,rfl,.nil,h⟩
 | _ :: ds,d,_,.cons h r=>by
  obtain⟨ws,v,rfl,h1,h2⟩:=DtAll.snoc r
  exact⟨_ :: ws,v,rfl,.cons h h1,h2⟩
theorem rd_seqK {t u:TS}{D:Ends}{σ:St}{H:Hp}(P:St→Hp→Prop)(hu:∀ σ' H',P σ' H'→u D σ' H')(h:(∀ σ' H',P σ' H'→u D σ' H')→t { D with nx:=u D } σ H):tSeq t u D σ H:=h hu
noncomputable def tTupA (t:TA):TE:=fun σ H Q=>t σ H fun xs H1=>xs.length≤sizeLine∧∀p H',H1 p=none→Same H1 H'→H' p=some (.tup xs)→Q (.ref p) H'
noncomputable def tLstA (t:TA):TE:=fun σ H Q=>t σ H fun xs H1=>xs.length≤sizeLine∧∀p H',H1 p=none→Same H1 H'→H' p=some (.lst xs)→Q (.ref p) H'
noncomputable def rCatA:R2:=fun x y H Q=>∃l b xs zs,x = .ref l∧y = .ref b∧H l=some (.lst xs)∧H b=some (.lst zs)∧xs.length+zs.length≤sizeLine∧∀p H',H p=none→Same H H'→H' p=some (.lst (xs ++ zs))→Q (.ref p) H'
noncomputable def rSlA (K:PySem.W.Frag):V→Option Int→Option Int→Hp→VK→Prop:=fun x lo hi H Q=>∃a xs,x = .ref a∧SqL K H a xs∧∀p H',H p=none→Same H H'→H' p=some (.lst (cutV xs lo hi))→Q (.ref p) H'
noncomputable def rTupleA (K:PySem.W.Frag):TR:=fun xs H Q=>∃p ys,xs = [.ref p]∧(SqL K H p ys∨SqT K H p ys)∧∀l H',(l=p∨H l=none)→Same H H'→SqT K H' l ys→Q (.ref l) H'
section
open PyProof.Rows
variable {X:Cx}{es:List Expr}{t:TA}{pos:Pos}{K:PySem.W.Frag}
theorem pe_tupA {x1}(h:PA X es t):PE X (.Tuple es x1 pos) (tTupA t):=by
 intro pins s σ H Q I hq
 refine wpAny_Tuple_spliced (thn (h pos pins s σ H _ I hq) fun us s1 ⟨xs,H1,I1,r,z,q⟩=>⟨by rw[← r.length];exact z,?_⟩)
 have hf:H1 s1.heap.objs.size=none:=I1.hok.fresh (Nat.le_refl _)
 exact⟨.ref s1.heap.objs.size,upd H1 s1.heap.objs.size (.tup xs),I1.laid (t':=s1.toks) (fun b u e=>Heap.get?_push_of_some _ e) (Nat.le_refl _) ⟨z,us,r,⟨_,Heap.get?_push_size _ rfl,rfl,_,rfl⟩⟩,rfl,q _ _ hf (Same.upd hf) upd_same⟩
theorem pe_lstA (h:PA X es t):PE X (.List es pos) (tLstA t):=by
 intro pins s σ H Q I hq
 refine wpAny_List_spliced (thn (h pos pins s σ H _ I hq) fun us s1 ⟨xs,H1,I1,r,z,q⟩=>⟨by rw[← r.length];exact z,?_⟩)
 have hf:H1 s1.heap.objs.size=none:=I1.hok.fresh (Nat.le_refl _)
 exact⟨.ref s1.heap.objs.size,upd H1 s1.heap.objs.size (.lst xs),I1.laid (t':=s1.toks) (fun b u e=>Heap.get?_push_of_some _ e) (Nat.le_refl _) ⟨z,us,0,r,Heap.get?_push_size _ rfl⟩,rfl,q _ _ hf (Same.upd hf) upd_same⟩
theorem op_catA:OpR X (binaryOp .Add) rCatA:=fun pins s σ H x y v u Q I rx ry ⟨l,b,xs,zs,h1,h2,h3,h4,h5,h6⟩=>op_cat pins s σ H x y v u Q I rx ry ⟨l,b,xs,zs,h1,h2,h3,h4,h5,fun p hp=>h6 p _ hp (Same.upd hp) upd_same⟩
theorem sl_listA (hK:X.K=K):SlR X (rSlA K):=fun pins s σ H x v vl vu lo hi sl Q I rx hs pl pu ⟨a,xs,h1,h2,h3⟩=>sl_list pins s σ H x v vl vu lo hi sl Q I rx hs pl pu ⟨a,xs,h1,by rw[hK];exact h2,fun p hp=>h3 p _ hp (Same.upd hp) upd_same⟩
theorem cn_tupleA (hK:X.K=K):CallR X (.type "tuple") (rTupleA K):=fun pins s σ H xs us Q I r ⟨p,ys,h1,h2,h3⟩=>cn_tuple pins s σ H xs us Q I r ⟨p,ys,h1,by
 rw[hK]
 rcases h2 with h2 |h2
 ·exact .inl ⟨h2,fun l hl=>h3 l _ (.inr hl) (Same.upd hl) (SqT.of upd_same)⟩
 ·exact .inr ⟨h2,h3 p H (.inl rfl) (Same.refl H) h2⟩⟩
end
section
variable {σ:St}{H:Hp}{Q:VK}{K:PySem.W.Frag}{ta:TA}{p q:Addr}{xs ys:List V}
theorem rd_tupA (h:ta σ H fun xs H1=>xs.length≤sizeLine∧∀p H',H1 p=none→Same H1 H'→H' p=some (.tup xs)→Q (.ref p) H'):tTupA ta σ H Q:=h
theorem rd_lstA (h:ta σ H fun xs H1=>xs.length≤sizeLine∧∀p H',H1 p=none→Same H1 H'→H' p=some (.lst xs)→Q (.ref p) H'):tLstA ta σ H Q:=h
theorem rd_catA (h1:H p=some (.lst xs))(h2:H q=some (.lst ys))(hz:xs.length+ys.length≤sizeLine)(h:∀r H',H r=none→Same H H'→H' r=some (.lst (xs ++ ys))→Q (.ref r) H'):rCatA (.ref p) (.ref q) H Q:=⟨p,q,xs,ys,rfl,rfl,h1,h2,hz,h⟩
theorem rd_slA {lo hi:Option Int}(hq:SqL K H p xs)(h:∀l H',H l=none→Same H H'→H' l=some (.lst (cutV xs lo hi))→Q (.ref l) H'):rSlA K (.ref p) lo hi H Q:=⟨p,xs,rfl,hq,h⟩
theorem rd_tupleAL (hq:SqL K H p xs)(h:∀l H',(l=p∨H l=none)→Same H H'→SqT K H' l xs→Q (.ref l) H'):rTupleA K [.ref p] H Q:=⟨p,xs,rfl,.inl hq,h⟩
end
theorem StOk.same {K:PySem.W.Frag}{H H':Hp}{st:Addr}(h:StOk K H st)(e:Same H H'):StOk K H' st:=h.ext e
mutual
theorem Dt.fresh {K:PySem.W.Frag}{N:List Addr}{H:Hp}{p:Addr}(h:H p=none)(k:K.lookup p=none):∀ {v:V}{d:PyData},Dt K N H v d→Dt K (p :: N) H v d
 | _,_,.non=>.non
 | _,_,.bl b=>.bl b
 | _,_,.int i=>.int i
 | _,_,.str x=>.str x
 | _,_,.tup q n r=>.tup q (by
   rw[List.mem_cons,not_or]
   refine⟨?_,n⟩
   rintro rfl
   rcases q with (q | ⟨o,q⟩) | ⟨o,its,m,q,_⟩
   ·rw[h]at q;cases q
   ·rw[h]at q;cases q
   ·rw[k]at q;cases q) (DtAll.fresh h k r)
 | _,_,.lst q n r=>.lst q (by
   rw[List.mem_cons,not_or]
   refine⟨?_,n⟩
   rintro rfl
   rcases q with (q | ⟨o,q⟩) | ⟨o,its,m,q,_⟩
   ·rw[h]at q;cases q
   ·rw[h]at q;cases q
   ·rw[k]at q;cases q) (DtAll.fresh h k r)
 | _,_,.dk0 q n=>.dk0 q (by
   rw[List.mem_cons,not_or]
   refine⟨?_,n⟩
   rintro rfl
   rw[h]at q;cases q)
 | _,_,.dk1 q n r=>.dk1 q (by
   rw[List.mem_cons,not_or]
   refine⟨?_,n⟩
   rintro rfl
   rw[h]at q;cases q) (Dt.fresh h k r)
theorem DtAll.fresh {K:PySem.W.Frag}{N:List Addr}{H:Hp}{p:Addr}(h:H p=none)(k:K.lookup p=none):∀ {vs:List V}{ds:List PyData},DtAll K N H vs ds→DtAll K (p :: N) H vs ds
 | _,_,.nil=>.nil
 | _,_,.cons q r=>.cons (Dt.fresh h k q) (DtAll.fresh h k r)
end
theorem Ext.mono {N N':List Addr}{H H':Hp}(e:Ext N H H')(h:∀b∈N,b∈N'):Ext N' H H':=fun b u q n=>e b u q fun z=>n (h b z)
theorem Ext.up {N:List Addr}{st:Addr}{H H':Hp}(e:Ext [st] H H')(h:st∈N):Ext N H H':=e.mono fun b hb=>by
 have:b=st:=by simpa using hb
 rw[this];exact h
theorem StOk.acc {K:PySem.W.Frag}{H:Hp}{st acc:Addr}{vs:List V}{o:HO}(S:StOk K H st)(n:acc≠st)(ha:H acc=some (.lst vs))(hr:∀v∈vs,∃q,v = .ref q):StOk K (upd H acc o) st:=by
 obtain⟨c,cs,p,q,r,h1,h2,h3,h4,h5⟩:=S.ex
 refine⟨c,cs,p,q,r,by rw[upd_ne (Ne.symm n)];exact h1,?_,h3,h4,h5⟩
 have ncf:c≠acc:=fun z=>by
  subst z
  rw[ha]at h2
  have e:vs=cs.map V.int:=by injection h2 with h2;injection h2
  cases cs with
  | nil=>simp at h4
  | cons i cs =>
   obtain⟨q,hq⟩:=hr (.int i) (by rw[e];simp)
   cases hq
 rw[upd_ne ncf];exact h2
end L2
namespace L2
open PySem PySem.Spec PyProof.Rows
noncomputable def notStar:Expr→Bool
 | .Starred ..=>false
 | _=>true
noncomputable def noStars:List Expr→Bool
 | []=>true
 | e :: r=>notStar e && noStars r
theorem star_ne {e:Expr}{r:List Expr}{env:Env}(h:notStar e=true):starEach (e :: r) env=(false,eval e env) :: starEach r env:=by
 cases e <;> first |rfl |cases h
theorem stars_any {pos:Pos}{env:Env}:∀ {es:List Expr},noStars es=true→(backTo pos (starEach es env)).any (·.1)=false
 | [],_=>rfl
 | e :: r,h=>by
  simp only[noStars,Bool.and_eq_true]at h
  rw[star_ne h.1]
  show (false || (backTo pos (starEach r env)).any (·.1))=false
  rw[stars_any h.2];rfl
section
variable {X:Cx}{e:Expr}{es:List Expr}{te:TE}{t:TA}{pos p:Pos}{CX:CXT}{k:Nat}{f:Addr}{fd:FuncData}{ps:List Str}{sp:Sp}{dvs:List V}{ds:List Value}{E:XK}{x:Str}{id Ty:String}{r:List V→Hp→VK→Prop}
theorem paN (ha:PE X e te)(hr:PA X es t)(h:notStar e=true:=by rfl):PA X (e :: es) (tCons te t):=pa_cons ha hr (star_ne h)
theorem peN_call (F:FnOk X.prog X.w X.K X.mg X.base CX k f fd ps sp)(hr:Room k X.A)(hg:Gl X x)(hm:X.mg x=some (.ref f))(hk:PySem.W.keepIn X.K (.ref f)=true)(hb:Binds X.K fd ps ds)(hd:Vals dvs ds)(hx:Passes CX X E)
  (ha:PA X (e :: es) t) (hdb:(x == ("__debug__":Str))=false:=by decide) (h1:notStar e=true:=by rfl) (h2:noStars es=true:=by rfl):PE X (.Call (.Name x p) (e :: es) [] pos) (tCall sp dvs E t) :=
 pe_call F hr hg hm hk hb hd hx ha hdb (star_ne h1) (stars_any h2)
theorem peN_callB (hc:CallR X (.builtin id) r)(hg:Gl X x)(hm:X.mg x=none)(hv:bootBuiltins x=some (.builtin id))(ha:PA X (e :: es) t)(hn:x ≠ "__name__":=by decide)(hdb:(x == ("__debug__":Str))=false:=by decide)
  (h1:notStar e=true:=by rfl) (h2:noStars es=true:=by rfl):PE X (.Call (.Name x p) (e :: es) [] pos) (tCB r t):=pe_callB hc hg hm hv ha hn hdb (star_ne h1) (stars_any h2)
theorem peN_callTy (hc:CallR X (.type Ty) r)(hg:Gl X x)(hm:X.mg x=none)(hv:bootBuiltins x=some (.type Ty))(ha:PA X (e :: es) t)(hn:x ≠ "__name__":=by decide)(hdb:(x == ("__debug__":Str))=false:=by decide)
  (h1:notStar e=true:=by rfl) (h2:noStars es=true:=by rfl):PE X (.Call (.Name x p) (e :: es) [] pos) (tCB r t):=pe_callTy hc hg hm hv ha hn hdb (star_ne h1) (stars_any h2)
end
structure PAs (X:Cx) (es:List Expr) (t:TA):Prop where
 run:PA X es t
section
variable {X:Cx}{e o:Expr}{es:List Expr}{te to:TE}{t:TA}{pos p apos cpos:Pos}{CX:CXT}{k:Nat}{f:Addr}{fd:FuncData}{ps:List Str}{sp:Sp}{dvs:List V}{ds:List Value}{E:XK}{x name:Str}{id Ty T:String}{r:List V→Hp→VK→Prop}{rm:V→List V→Hp→VK→Prop}
theorem qa_nil:PAs X [] tNil:=⟨pa_nil⟩
theorem qa (ha:PE X e te)(hr:PAs X es t)(h:notStar e=true:=by rfl):PAs X (e :: es) (tCons te t):=⟨paN ha hr.run h⟩
theorem qe_tupA {x1}(h:PAs X es t):PE X (.Tuple es x1 pos) (tTupA t):=pe_tupA h.run
theorem qe_lstA (h:PAs X es t):PE X (.List es pos) (tLstA t):=pe_lstA h.run
theorem qe_call (F:FnOk X.prog X.w X.K X.mg X.base CX k f fd ps sp)(hr:Room k X.A)(hg:Gl X x)(hm:X.mg x=some (.ref f))(hk:PySem.W.keepIn X.K (.ref f)=true)(hb:Binds X.K fd ps ds)(hd:Vals dvs ds)(hx:Passes CX X E)
  (ha:PAs X (e :: es) t) (hdb:(x == ("__debug__":Str))=false:=by decide) (h1:notStar e=true:=by rfl) (h2:noStars es=true:=by rfl):PE X (.Call (.Name x p) (e :: es) [] pos) (tCall sp dvs E t):=peN_call F hr hg hm hk hb hd hx ha.run hdb h1 h2
theorem qe_callB (hc:CallR X (.builtin id) r)(hg:Gl X x)(hm:X.mg x=none)(hv:bootBuiltins x=some (.builtin id))(ha:PAs X (e :: es) t)(hn:x ≠ "__name__":=by decide)(hdb:(x == ("__debug__":Str))=false:=by decide)
  (h1:notStar e=true:=by rfl) (h2:noStars es=true:=by rfl):PE X (.Call (.Name x p) (e :: es) [] pos) (tCB r t):=peN_callB hc hg hm hv ha.run hn hdb h1 h2
theorem qe_callTy (hc:CallR X (.type Ty) r)(hg:Gl X x)(hm:X.mg x=none)(hv:bootBuiltins x=some (.type Ty))(ha:PAs X (e :: es) t)(hn:x ≠ "__name__":=by decide)(hdb:(x == ("__debug__":Str))=false:=by decide)
  (h1:notStar e=true:=by rfl) (h2:noStars es=true:=by rfl):PE X (.Call (.Name x p) (e :: es) [] pos) (tCB r t):=peN_callTy hc hg hm hv ha.run hn hdb h1 h2
theorem qe_append (ho:PE X o to)(ha:PAs X (e :: es) t)(hbase:attributeBase o "append" X.env (eval o X.env)=eval o X.env)(h1:notStar e=true)(h2:noStars es=true)
  (hfew:((backTo cpos (starEach (e :: es) X.env)).all (fun x=>!x.1) && (backToKw cpos (keywordEach [] X.env)).all (fun x=>x.1.isSome) && decide ((e :: es).length+([]:List Keyword).length+(if ([]:List Keyword).isEmpty then 0 else 1)<30))=true)
  (hline:(apos.endLine == cpos.line)=true):PE X (.Call (.Attribute o "append" apos) (e :: es) [] cpos) (tBM X.K "list" rAppend to t) :=
 pe_bm PySem.F.plainAttrs_list PySem.F.slot_list_append PySem.F.type_list_append mt_append ho ha.run hbase hfew hline (star_ne h1) (stars_any h2)
variable {tg a b:Expr}{ta:TA}
theorem qi_range1 (hg:Gl X "range")(hm:X.mg "range" = none)(ha:PAs X [a] ta)(h1:notStar a=true):PI X tg (.Call (.Name "range" p) [a] [] pos) (iRng1 ta):=pi_range1 hg hm ha.run (star_ne h1)
theorem qi_zip {es:List Expr}{k:Nat}{ps:Pos}(hg:Gl X "zip")(hm:X.mg "zip" = none)(ha:PAs X [a,b] ta)(h1:notStar a=true)(h2:notStar b=true):PI X (.Tuple es k ps) (.Call (.Name "zip" p) [a,b] [] pos) (iZip X.K ta) :=
 pi_zip hg hm ha.run (by rw[star_ne h1,star_ne h2];rfl) (by rw[star_ne h2];rfl) (by decide +kernel)
end
structure PSw (X:Cx) (st:Stmt) (t:TS):Prop where
 run:PS X st t
structure PSsw (X:Cx) (sts:List Stmt) (t:TS):Prop where
 run:PSs X sts t
section
variable {X:Cx}{st:Stmt}{rest body a b:List Stmt}{t u tb:TS}{e tg c iter elt target:Expr}{es ifs:List Expr}{te:TE}{tc tt:TT}{g:TG}{ta:TA}{wi:TI}{pos pos' spos:Pos}{i:Nat}{x:Str}
theorem qss_nil:PSsw X [] tNext:=⟨pss_nil⟩
theorem qss_one (h:PSw X st t):PSsw X [st] t:=⟨pss_one h.run⟩
theorem qss_cons (h1:PSw X st t)(h2:PSsw X rest u):PSsw X (st :: rest) (tSeq t u):=⟨pss_cons h1.run h2.run⟩
theorem qs_ret (he:PE X e te):PSw X (.Return (some e) pos) (tRet te):=⟨ps_ret he⟩
theorem qs_if (hc:PT X c tc)(ha:PSsw X a t)(hb:PSsw X b u):PSw X (.If c a b pos) (tIfS tc t u):=⟨ps_if hc ha.run hb.run⟩
theorem qs_expr (he:PE X e te)(hs:swapsWith e none pos.line X.env=pure false:=by rfl):PSw X (.Expr e pos) (tDrop te):=⟨ps_expr he hs⟩
theorem qs_set (hN:X.N.Nodup)(hi:X.N[i]? = some x)(hx:Loc X.env.scope x)(he:PE X e te)(hs:swapsWith e (some (.Name x pos')) pos.line X.env=pure false:=by rfl)(hf:X.fn x=true∨X.env.scope.names.lookup x=some .local:=by first |exact .inl rfl |exact .inr rfl) :
  PSw X (.Assign [.Name x pos'] e pos) (tAsg te (gName i)):=⟨ps_set hN hi hx he hs hf⟩
theorem qs_setLA (hN:X.N.Nodup)(hi:X.N[i]? = some x)(hx:Loc X.env.scope x)(h:PAs X es ta)(hf:X.fn x=true∨X.env.scope.names.lookup x=some .local) :
  PSw X (.Assign [.Name x pos'] (.List es spos) pos) (tAsg (tLstA ta) (gName i)):=⟨ps_set hN hi hx (pe_lstA h.run) rfl hf⟩
theorem qs_asg (he:PE X e te)(hg:PG X tg g)(hs:swapsWithSole [tg] e pos.line X.env=pure false:=by rfl)(hw:swappedStores [tg] e X.env=pure none:=by rfl)(h1:(assignEach [tg] X.env).map (·.2) = [assign tg X.env]:=by rfl):PSw X (.Assign [tg] e pos) (tAsg te g):=⟨ps_asg he hg hs hw h1⟩
theorem qs_for (hp:PassesOwn (model X.prog X.w) X.A X.env X.xe)(hc:X.calm=true)(hi:PI X tg iter wi)(hg:PG X tg g)(hb:PSsw X body tb)(hs:∀x,foldedSetIterable iter X.env x=pure x):PSw X (.For tg iter body [] pos) (tFor wi g tb):=⟨ps_for hp hc hi hg hb.run hs⟩
end
end L2
namespace L2
open PySem
theorem exW {X:Cx}{sts:List Stmt}{P:TS→Prop}(h:∃t,PSsw X sts t∧P t):∃t,PSs X sts t∧P t:=let ⟨t,h1,h2⟩:=h; ⟨t,h1.run,h2⟩
end L2
namespace HT
open PySem PyProof.Rows
section
open PySem.SeqAt
open PySem.AutoSeq1 (wpAny_loadPart')
open PySem.MeetsSeq PySem.MeetsSeq2 PySem.MeetsSeq3
end
section
variable {prog:Program}{w:World}{A:Around}{E:Value→Shared→Prop}{s:Shared}
end
end HT
namespace L2
open PySem PySem.Spec PyProof.Rows
section
variable {X:Cx}
end
section
variable {H:Hp}{Q:VK}{K:PySem.W.Frag}{p q:Addr}{ns ms:List Int}
end
theorem for_zipW {K:PySem.W.Frag}{a b:Addr}{xs ys:List V}{g:TG}{tb:TS}{D:Ends}{σ:St}{H:Hp}(hxy:xs.length=ys.length)(Pv:Nat→St→Hp→Prop)(h0:Pv 0 σ H)(hl:∀i σ H,i≤xs.length→Pv i σ H→SqT K H a xs∧SqT K H b ys)
  (hs:∀i x y p σ H,xs[i]? = some x→ys[i]? = some y→H p=none→Pv i σ H→g (.ref p) σ (upd H p (.tup [x,y])) fun σ2 H2=>tb { D with nx:=Pv (i+1),ct:=Pv (i+1),bk:=D.nx } σ2 H2) (hd:∀ σ H,Pv xs.length σ H→D.nx σ H):ForW (Itz K a b) g tb D σ H:=by
 refine⟨fun i m σ H=>m=xs.length - i∧i≤xs.length∧Pv i σ H,⟨xs.length,by simp,Nat.zero_le _,h0⟩,?_⟩
 rintro i m σ H ⟨rfl,hi,p⟩
 obtain⟨q1,q2⟩:=hl i σ H hi p
 by_cases hlt:i<xs.length
 ·refine .inr ⟨⟨xs,ys,xs[i],ys[i],q1,q2,by simp[hlt],by simp⟩,Pv (i+1),fun σ' H' p'=>⟨xs.length - (i+1),by omega,rfl,hlt,p'⟩,?_⟩
  rintro x H' ⟨r,x1,y1,hn,hx,hy,rfl,rfl⟩
  exact hs i x1 y1 r σ _ (hx xs q1) (hy ys q2) hn p
 ·have e:i=xs.length:=by omega
  subst e
  exact .inl ⟨⟨xs,ys,q1,q2,.inl (Nat.le_refl _)⟩,hd σ H p⟩
theorem Inv.nk {X:Cx}{pins:List (Addr×Obj)}{σ:St}{H:Hp}{s:Shared}(I:Inv X pins σ H s):X.K.lookup s.heap.objs.size=none:=by
 cases q:X.K.lookup s.heap.objs.size with
 | none=>rfl
 | some o=>exact absurd (Heap.lt_size (I.kIn _ o q)) (Nat.lt_irrefl _)
end L2
namespace L2
theorem rd_iteG {c A B:Prop}{i:Decidable c}(h:@ite Prop c i A B):@ite Prop c i A B:=h
end L2
namespace Mt
open PySem L2
noncomputable def stepL (pl:Int)(a:Int)(p:Int×Int):Int:=if p.2<pl then p.1 else a
noncomputable def line0 (hs:List (Int×Int)):Int:=match hs with | []=>0 |p :: _=>p.1
noncomputable def lineOf (hs:List (Int×Int))(pl:Int):Int:=hs.foldl (stepL pl) (line0 hs)
theorem lineOf_take {hs:List (Int×Int)}{pl c:Int}{i:Nat}{p:Int×Int}(h:hs[i]? = some p):(hs.take (i+1)).foldl (stepL pl) c=stepL pl ((hs.take i).foldl (stepL pl) c) p:=by
 rw[List.take_add_one,h,List.foldl_append];rfl
mutual
noncomputable def tupOnly:PyData→Bool
 | .none=>true
 | .int _=>true
 | .str _=>true
 | .tuple es=>tupOnlyAll es
 | _=>false
noncomputable def tupOnlyAll:List PyData→Bool
 | []=>true
 | e :: es=>tupOnly e && tupOnlyAll es
end
noncomputable def isNoneD:PyData→Bool
 | .none=>true
 | _=>false
noncomputable def intEq (j:Int):PyData→Bool
 | .int i=>decide (i=j)
 | _=>false
noncomputable def strEq (t:Str):PyData→Bool
 | .str u=>decide (u=t)
 | _=>false
noncomputable def subs:PyData→Option (List PyData)
 | .tuple ds=>some ds
 | _=>none
mutual
noncomputable def alikeD:PyData→PyData→Bool
 | .none,d=>isNoneD d
 | .int j,d=>intEq j d
 | .str t,d=>strEq t d
 | .tuple es,d=>match subs d with
  | some ds=>alikeAll es ds
  | none=>false
 | _,_=>false
noncomputable def alikeAll:List PyData→List PyData→Bool
 | [],ds=>ds.isEmpty
 | e :: es,ds=>match ds with
  | []=>false
  | d :: ds=>alikeD e d && alikeAll es ds
end
theorem tupOnly_at:∀ {es:List PyData}{e:PyData},tupOnlyAll es=true→e∈es→tupOnly e=true
 | x :: es,e,h,m=>by
  simp only[tupOnlyAll,Bool.and_eq_true]at h
  rcases List.mem_cons.mp m with rfl |m
  ·exact h.1
  ·exact tupOnly_at h.2 m
theorem depth_at:∀ {es:List PyData}{e:PyData}{n:Nat},PyData.depthAll es≤n→e∈es→e.depth≤n
 | x :: es,e,n,h,m=>by
  simp only[PyData.depthAll]at h
  rcases List.mem_cons.mp m with rfl |m
  ·exact Nat.le_trans (Nat.le_max_left _ _) h
  ·exact depth_at (Nat.le_trans (Nat.le_max_right _ _) h) m
end Mt
namespace L2
open PySem PySem.Spec PyProof.Rows
noncomputable def Aloft (N:Addr→Prop)(h:Heap)(e:Addr)(C:Value)(dx:Option Addr)(fl:Value):Prop :=
 ∃oe vs,h.get? e=some oe∧oe.cls=C∧oe.dict=dx∧oe.data = .fields vs∧1<vs.size ∧
  (vs[1]? = some .none∧fl = .none∨∃T oT ts,vs[1]? = some (.ref T)∧N T∧T≠e∧h.get? T=some oT∧oT.data = .fields ts∧ts[3]? = some fl)
theorem dict_mapF (o:Obj)(f:Array Value→Array Value):(o.mapFields f).dict=o.dict:=by
 obtain⟨c,d,dt,sl⟩:=o
 cases dt <;> rfl
noncomputable def Stn (N:Addr→Prop)(fs:List Addr)(e:Addr)(h h':Heap):Prop :=
 ∀b o,b≠e→¬ N b→h.get? b=some o→(∃sl,h'.get? b=some { o with slots:=sl })∧(b∉fs→h'.get? b=some o)
theorem Stn.refl {N:Addr→Prop}{fs:List Addr}{e:Addr}{h:Heap}:Stn N fs e h h:=fun b o _ _ q=>⟨⟨o.slots,q⟩,fun _=>q⟩
theorem Stn.trans {N:Addr→Prop}{fs:List Addr}{e:Addr}{h h1 h2:Heap}(a:Stn N fs e h h1)(b:Stn N fs e h1 h2):Stn N fs e h h2:=fun c o n1 n2 q=>by
 obtain⟨⟨sl,q1⟩,k1⟩:=a c o n1 n2 q
 obtain⟨⟨sl2,q2⟩,_⟩:=b c _ n1 n2 q1
 exact⟨⟨sl2,q2⟩,fun hc=>(b c o n1 n2 (k1 hc)).2 hc⟩
section
variable {M:Model}{A:Around}{E:Value→Shared→Prop}{s:Shared}{N:Addr→Prop}{base:Heap}{env:Env}{outer:List Env}{L e:Addr}{C:Value}{dx:Option Addr}
theorem stn_turn {T:Addr}{f:Obj→Obj}{h:Heap}(hN:N T):Stn N fs e h (h.update T f):=fun b o n1 n2 q=>by
 have:T≠b:=fun z=>n2 (z ▸ hN)
 exact⟨⟨o.slots,(Heap.get?_update_other _ _ this).trans q⟩,fun _=>(Heap.get?_update_other _ _ this).trans q⟩
theorem mark_on {head:Value}{hadNext:Bool}{oe:Obj}{vs:Array Value}{Q:Unit→Shared→Prop}(hA:A.frames=some (env :: outer))(hF:s.heap.FunFrames base (env :: outer))(hL:env.frame=some L)
  (new:∀b,s.heap.objs.size≤b→N b) (nf:∀b∈frs (env :: outer),b≠e∧¬ N b) (q0:s.heap.get? e=some oe) (q1:oe.cls=C) (q2:oe.dict=dx) (q3:oe.data = .fields vs) (q4:1<vs.size)
  (k:∀h',Aloft N h' e C dx (rawInt L)→Stn N (frs (env :: outer)) e s.heap h'→h'.FunFrames base (env :: outer)→Q () { s with heap:=h' }) :
  wpAny M A (do setField (.ref e) 1 (← EntryCells.newEntry head (← frameOf env) .none (rawInt L) .none (← entryPlaceOf L hadNext))) Q E s:=by
 refine wpAny_bind (wpAny_frameOf_fun hA hF hL fun g x=>?_)
 refine wpAny_bind (wpAny_entryPlaceOf fun pl p=>?_)
 have k1:g.get? e=some oe:=(x.2.1 e fun z=>(nf e z).1 rfl).trans q0
 have z1:g.objs.size=s.heap.objs.size:=x.1
 unfold EntryCells.newEntry newFields
 refine wpAny_bind (wpAny_newObj_type ?_ (p.sizeOk5 _ _ _ _ _))
 generalize hob:({ cls:=.type "traceback",dict:=none,data:=.fields ([head,.ref L,.none,rawInt L,.none] ++ (if pl.isEmpty then List.replicate 6 Value.none else pl)).toArray }:Obj)=ob
 have k2:=Heap.get?_push_of_some (h:=g) ob k1
 have eT:g.objs.size≠e:=Nat.ne_of_gt (Heap.lt_size k1)
 have obf:ob.isFreed=false:=by rw[← hob];rfl
 have t2:(g.push ob).get? g.objs.size=some ob:=Heap.get?_push_size g obf
 refine wpAny_setField k2 q3 q4 (k _ ?_ ?_ ?_)
 ·have d3:=Obj.data_mapFields q3 (·.setIfInBounds 1 (Value.ref g.objs.size))
  refine⟨_,_,Heap.get?_update_self _ k2 (Obj.isFreed_of_fields d3),(Obj.cls_mapFields _ _).trans q1,(dict_mapF _ _).trans q2,d3,by simpa using q4,.inr ⟨g.objs.size,ob,_,by simp[q4],new _ (by omega),eT,(Heap.get?_update_other _ _ (Ne.symm eT)).trans t2,by rw[← hob],?_⟩⟩
  first | (simp;done) | (rcases p with rfl | ⟨_,_,_,_,_,_,_,rfl⟩ <;> simp)
 ·intro b o n1 n2 q
  have nT:g.objs.size≠b:=by rw[z1];exact Nat.ne_of_gt (Heap.lt_size q)
  obtain⟨sl,r⟩:=x.2.2 b o q
  exact⟨⟨sl,(Heap.get?_update_other _ _ (Ne.symm n1)).trans (Heap.get?_push_of_some _ r)⟩,fun nb=>(Heap.get?_update_other _ _ (Ne.symm n1)).trans (Heap.get?_push_of_some _ ((x.2.1 b nb).trans q))⟩
 ·have hg:=hF.of_slotsOnly x
  refine hg.of_keeps fun b o q nd=>?_
  by_cases hb:b=e
  ·subst hb
   rw[k1]at q;cases q
   exact absurd q3 (nd vs)
  ·exact⟨o,(Heap.get?_update_other _ _ (Ne.symm hb)).trans (Heap.get?_push_of_some _ q),rfl⟩
theorem frames_turn {T:Addr}{oT:Obj}{ts:Array Value}{f:Obj→Obj}{h:Heap}(q:h.get? T=some oT)(hd:oT.data = .fields ts)(hF:h.FunFrames base l):(h.update T f).FunFrames base l :=
 hF.of_keeps fun b o r nd=>by
  have:T≠b:=fun z=>by subst z;rw[q]at r;cases r;exact nd ts hd
  exact⟨o,(Heap.get?_update_other _ _ this).trans r,rfl⟩
theorem land {l:List Env}{fl:Value}{Q:Unit→Shared→Prop}(hF:s.heap.FunFrames base l)(a:Aloft N s.heap e C dx fl)
  (k:∀h',Aloft N h' e C dx .none→Stn N fs e s.heap h'→h'.FunFrames base l→Q () { s with heap:=h' }):wpAny M A (setFlight (.ref e) none) Q E s:=by
 obtain⟨oe,vs,q0,q1,q2,q3,q4,r⟩:=a
 unfold setFlight
 rcases r with ⟨r,_⟩ | ⟨T,oT,ts,r1,r2,r3,r4,r5,r6⟩
 ·refine wpAny_bind (wpAny_field q0 q3 r ?_)
  rw[if_neg (by decide)]
  exact wpAny_pure (k s.heap ⟨oe,vs,q0,q1,q2,q3,q4,.inl ⟨r,rfl⟩⟩ Stn.refl hF)
 ·refine wpAny_bind (wpAny_field q0 q3 r1 ?_)
  rw[if_pos (by simp)]
  have h3:3<ts.size:=(Array.getElem?_eq_some_iff.mp r6).1
  refine wpAny_setField r4 r5 h3 (k _ ⟨oe,vs,(Heap.get?_update_other _ _ r3).trans q0,q1,q2,q3,q4,.inr ⟨T,_,_,r1,r2,r3,Heap.get?_update_self _ r4 (Obj.isFreed_of_fields (Obj.data_mapFields r5 _)),Obj.data_mapFields r5 _,by simp[h3]⟩⟩ (stn_turn r2) (frames_turn r4 r5 hF))
theorem note_on {Q:Unit→Shared→Prop}(hA:A.frames=some (env :: outer))(hF:s.heap.FunFrames base (env :: outer))(hL:env.frame=some L)
  (new:∀b,s.heap.objs.size≤b→N b) (nf:∀b∈frs (env :: outer),b≠e∧¬ N b) (a:Aloft N s.heap e C dx .none)
  (k:∀h',Aloft N h' e C dx (rawInt L)→Stn N (frs (env :: outer)) e s.heap h'→h'.FunFrames base (env :: outer)→Q () { s with heap:=h' }):wpAny M A (noteFrame (.ref e) env) Q E s:=by
 obtain⟨oe,vs,q0,q1,q2,q3,q4,r⟩:=a
 unfold noteFrame
 simp only[hL]
 rcases r with ⟨r,_⟩ | ⟨T,oT,ts,r1,r2,r3,r4,r5,r6⟩
 ·refine wpAny_bind (wpAny_field q0 q3 r ?_)
  rw[if_neg (by decide)]
  exact mark_on hA hF hL new nf q0 q1 q2 q3 q4 k
 ·refine wpAny_bind (wpAny_field q0 q3 r1 ?_)
  rw[if_pos (by simp)]
  refine wpAny_bind (wpAny_field r4 r5 r6 ?_)
  rw[if_neg (by simp[rawInt])]
  have h3:3<ts.size:=(Array.getElem?_eq_some_iff.mp r6).1
  refine wpAny_bind (wpAny_setField r4 r5 h3 ?_)
  refine mark_on (s:={ s with heap:=s.heap.update T (Obj.mapFields (·.setIfInBounds 3 Value.none)) }) hA (frames_turn r4 r5 hF) hL (fun b z=>new b ?_) nf ((Heap.get?_update_other _ _ r3).trans q0) q1 q2 q3 q4 fun h' a1 a2 a3=>k h' a1 ((stn_turn r2).trans a2) a3
  simpa using z
theorem leave_on {Q:Unit→Shared→Prop}(hA:A.frames=some (env :: outer))(hF:s.heap.FunFrames base (env :: outer))(hL:env.frame=some L)
  (new:∀b,s.heap.objs.size≤b→N b) (nf:∀b∈frs (env :: outer),b≠e∧¬ N b) (a:Aloft N s.heap e C dx .none)
  (k:∀h',Aloft N h' e C dx .none→Stn N (frs (env :: outer)) e s.heap h'→Q () { s with heap:=h' }):wpAny M A (leaving env (.ref e)) Q E s:=by
 unfold leaving
 refine wpAny_bind (note_on hA hF hL new nf a fun h1 a1 a2 a3=>?_)
 exact land (s:={ s with heap:=h1 }) a3 a1 fun h2 b1 b2 _=>k h2 b1 (a2.trans b2)
end
noncomputable def Since (h₀:Heap)(H:Hp)(b:Addr):Prop:=h₀.get? b=none∧H b=none
noncomputable def CX1 (P:Program)(w:World):CXT:=fun outer H s E e s' =>
 ∃(a:Addr) (C:Value) (dx:Option Addr) (H':Hp),e = .ref a∧s'.os=s.os∧AllBare s'.gens∧Un (frs outer) [] H H' s.heap s'.heap∧HOk P w H' s'.heap∧Since s.heap H' a∧Aloft (Since s.heap H') s'.heap a C dx .none∧E C dx H'
theorem Aloft.mono {N N':Addr→Prop}{h:Heap}{e:Addr}{C:Value}{dx:Option Addr}{fl:Value}(a:Aloft N h e C dx fl)(k:∀b,N b→N' b):Aloft N' h e C dx fl:=by
 obtain⟨oe,vs,q0,q1,q2,q3,q4,r⟩:=a
 refine⟨oe,vs,q0,q1,q2,q3,q4,?_⟩
 rcases r with r | ⟨T,oT,ts,r1,r2,r⟩
 ·exact .inl r
 ·exact .inr ⟨T,oT,ts,r1,k _ r2,r⟩
theorem since_of {P:Program}{w:World}{H H':Hp}{h h':Heap}{fs:List Addr}(u:Un fs [] H H' h h')(hok:HOk P w H' h'):∀b,h'.objs.size≤b→Since h H' b:=fun b z=>by
 refine⟨?_,hok.fresh z⟩
 cases q:h.get? b with
 | none=>rfl
 | some o =>
  obtain⟨o',q'⟩:=u.there b o q (by simp)
  exact absurd (Nat.lt_of_lt_of_le (Heap.lt_size q') z) (Nat.lt_irrefl _)
theorem hok_stn {P:Program}{w:World}{H:Hp}{h h':Heap}{N:Addr→Prop}{fs:List Addr}{e:Addr}(hok:HOk P w H h)(st:Stn N fs e h h')(hN:∀b,N b→H b=none)(he:H e=none)(hf:∀b∈fs,H b=none):HOk P w H h':=fun a o q =>
 (hok a o q).stay (fun b u hb r=>by
  have nb:H b≠none:=by
   rcases hb with rfl |hb
   ·rw[q];simp
   ·rw[hb];simp
  exact(st b u (fun z=>nb (z ▸ he)) (fun z=>nb (hN b z)) r).2 fun z=>nb (hf b z)) (fun _ q=>q) fun _ _ q=>q
section
variable {P:Program}{w:World}{X:Cx}{pins:List (Addr×Obj)}{σ:St}{H H':Hp}{s s':Shared}{e:Addr}{C:Value}{dx:Option Addr}
theorem Inv.stn {h':Heap}(I:Inv X pins σ H s)(st:Stn N (frs X.stack) e s.heap h')(hN:∀b,N b→H b=none∧s₁.heap.get? b=none)(he:H e=none∧s₁.heap.get? e=none)
  (I₁:Inv X pins σ H₁ s₁) (un:Un (frs X.stack) [] H₁ H s₁.heap s.heap):Inv X pins σ H { s with heap:=h' }:=by
 have k:∀b o,s₁.heap.get? b=some o→∀o',s.heap.get? b=some o'→(∃sl,h'.get? b=some { o' with slots:=sl })∧(b∉frs X.stack→h'.get? b=some o'):=fun b o q o' q' =>
  st b o' (fun z=>by rw[z,he.2]at q;cases q) (fun z=>by rw[(hN b z).2]at q;cases q) q'
 have hu:Un (frs X.stack) [] H₁ H s₁.heap h':=by
  refine⟨fun b o q n hb hx=>?_,fun b o q n hb hx=>?_,un.free,fun b o q hx=>?_,un.tups,un.frzs,un.tbls⟩
  ·exact(k b o q o (un.keep b o q n hb hx)).2 hb
  ·obtain⟨sl,r⟩:=un.slot b o q n hb hx
   exact(k b o q _ r).1
  ·obtain⟨o',r⟩:=un.there b o q hx
   obtain⟨sl,r2⟩:=(k b o q o' r).1
   exact⟨_,r2⟩
 have ok:HOk X.prog X.w H h':=hok_stn I.hok st (fun b z=>(hN b z).1) he.1 I.stkFree
 obtain⟨hh,g,d,t,os⟩:=s
 have e1:os=s₁.os:=I.os.trans I₁.os.symm
 subst e1
 have fin:=Inv.call (s:=s₁) (h':=h') (g':=g) (t':=t) (d':=d) (ch:=[]) I₁ hu ok I.bare (fun b z=>absurd z (by simp))
 exact fin
theorem Inv.cx1 (I:Inv X pins σ H s)(h:Un (frs X.stack) [] H H' s.heap s'.heap)(ho:s'.os=s.os)(hb:AllBare s'.gens)(hk:HOk X.prog X.w H' s'.heap):Inv X pins σ H' s':=by
 obtain⟨hh,g,d,t,os'⟩:=s'
 obtain rfl:os'=s.os:=ho
 exact I.call (h':=hh) (g':=g) (d':=d) (t':=t) (ch:=[]) h hk hb (fun b z=>absurd z (by simp))
theorem Inv.nfr (I:Inv X pins σ H s)(he:s.heap.get? e=none):∀b∈frs X.stack,b≠e∧¬ Since s.heap H' b:=fun b hb=>by
 obtain⟨_,o,q,_⟩:=I.stack.mem hb
 exact⟨fun z=>(by rw[z,he]at q;cases q),fun z=>(by rw[z.1]at q;cases q)⟩
end
theorem pass1 {P:Program}{w:World}{K:PySem.W.Frag}{mg:Str→Option Value}{base:Heap}{N:List Str}{qual:Str}{scope:Scope}{f:Addr}{cd:Value}{A:Around}{outer:List Env}{s₀:Shared}{H₀:Hp}{E:XK} :
  Passes (CX1 P w) (cxOf (CX1 P w) P w K mg base N qual scope f cd A outer s₀ H₀ E) E:=by
 intro pins σ H s e s' I h
 obtain⟨a,C,dx,H',rfl,o1,b1,un,hok,na,al,q⟩:=h
 have J:=I.cx1 un o1 b1 hok
 refine leave_on (N:=Since s.heap H') (base:=base) (outer:=outer) (L:=s₀.heap.objs.size) I.ok.frames J.stack rfl (since_of un hok) (I.nfr na.1) al fun h' al' st=>?_
 have J2:Inv (cxOf (CX1 P w) P w K mg base N qual scope f cd A outer s₀ H₀ E) pins σ H' { s' with heap:=h' }:=J.stn (s₁:=s) (H₁:=H) st (fun b z=>⟨z.2,z.1⟩) ⟨na.2,na.1⟩ I un
 have old:∀b,s.heap.get? b=none→s₀.heap.get? b=none:=fun b z=>by
  cases r:s₀.heap.get? b with
  | none=>rfl
  | some o =>
   obtain⟨o',r'⟩:=I.base.there b o r (by show b∉([]:List Addr);simp)
   rw[z]at r';cases r'
 exact⟨a,C,dx,H',rfl,J2.os,J2.bare,J2.base,J2.hok,⟨old a na.1,na.2⟩,al'.mono fun b z=>⟨old b z.1,z.2⟩,q⟩
noncomputable def Px (X:Cx)(XR:St→XK):Prop:=∀(pins:List (Addr×Obj)) (σ:St)(H:Hp)(s:Shared)(e:Value)(s':Shared),Inv X pins σ H s→CX1 X.prog X.w X.stack H s (XR σ) e s'→X.xe e s'
theorem px1 {P:Program}{w:World}{K:PySem.W.Frag}{mg:Str→Option Value}{base:Heap}{N:List Str}{qual:Str}{scope:Scope}{f:Addr}{cd:Value}{A:Around}{outer:List Env}{s₀:Shared}{H₀:Hp}{E:XK} :
  Px (cxOf (CX1 P w) P w K mg base N qual scope f cd A outer s₀ H₀ E) (fun _=>E):=fun pins σ H s e s' I h=>pass1 pins σ H s e s' I h
noncomputable def tCallX (sp:Sp)(dvs:List V)(XR:St→XK)(t:TA):TE:=fun σ H Q=>t σ H fun vs H1=>sp (vs ++ dvs) H1 Q (XR σ)
section
variable {X:Cx}{e:Expr}{es:List Expr}{t:TA}{pos p:Pos}{k:Nat}{f:Addr}{fd:FuncData}{ps:List Str}{sp:Sp}{dvs:List V}{ds:List Value}{XR:St→XK}{x:Str}
theorem run_fnX {pins:List (Addr×Obj)}{σ:St}{H:Hp}{s:Shared}{Q:VK}{us:List Value}{vs:List V}(F:FnOk X.prog X.w X.K X.mg X.base (CX1 X.prog X.w) k f fd ps sp)(hr:Room k X.A)(hb:Binds X.K fd ps ds)(hd:Vals dvs ds)(hx:Px X XR)
  (I:Inv X pins σ H s) (r:Vals vs us) (h:sp (vs ++ dvs) H Q (XR σ)):wpAny (model X.prog X.w) X.A (call (.ref f) us) (EP X pins σ Q) X.xe s:=by
 have r2:Vals (vs ++ dvs) (us ++ ds):=r.append hd
 have hl:(us ++ ds).length=ps.length:=by rw[← r2.length];exact F.len _ _ _ _ h
 refine wpAny_call (codeAny_mono (F.run X.A X.stack s H ⟨us,[]⟩ (us ++ ds) (vs ++ dvs) Q (XR σ) hr I.env0 (hb s us I.kIn hl) r2 h) fun r s' hq=>?_)
 cases r with
 | error e=>exact hx pins σ H s e s' I hq
 | ok fl =>
  cases fl with
  | ret u=>exact I.after hq
  | next=>exact False.elim hq
  | brk=>exact False.elim hq
  | cont=>exact False.elim hq
theorem qe_callX (F:FnOk X.prog X.w X.K X.mg X.base (CX1 X.prog X.w) k f fd ps sp)(hr:Room k X.A)(hg:Gl X x)(hm:X.mg x=some (.ref f))(hk:PySem.W.keepIn X.K (.ref f)=true)(hb:Binds X.K fd ps ds)(hd:Vals dvs ds)(hx:Px X XR)
  (ha:PAs X (e :: es) t) (hdb:(x == ("__debug__":Str))=false:=by decide) (h1:notStar e=true:=by rfl) (h2:noStars es=true:=by rfl):PE X (.Call (.Name x p) (e :: es) [] pos) (tCallX sp dvs XR t):=by
 intro pins s σ H Q I h
 refine wpAny_Call_Name_kw (ld_glob I hg hm ?_ hdb)
 refine PySem.W.callWith_K (h₀:=X.base) I.ok.mod.kin hk (thn (ha.run pos pins s σ H _ I h) fun us s1 ⟨vs,H1,I1,r,q⟩=>⟨I1.kIn,?_⟩) (star_ne h1) (stars_any h2)
 exact run_fnX F hr hb hd hx I1 r q
end
theorem Fun.okX {P:Program}{w:World}{K:PySem.W.Frag}{mg:Str→Option Value}{base:Heap}{x qual:Str}{st:Stmt}{f:Addr}{fd:FuncData}{N ps:List Str}{k:Nat}{sp:Sp}(F:Fun K x qual st f fd)(S:FnScope N ps (defScope st))(len:∀vs H Q E,sp vs H Q E→vs.length=ps.length)
  (hbody:∀(cdv:Value) (A:Around) (outer:List Env) (s:Shared) (H:Hp) (vs:List V) (Q:VK) (E:XK),Room k (A.deeper (envOfC qual (defScope st) s.heap.objs.size f cdv))→sp vs H Q E →
   ∃t,PSs (cxOf (CX1 P w) P w K mg base N qual (defScope st) f cdv A outer s H E) (defBody st) t∧t { nx:=fun _ H'=>Q .non H',rt:=Q } (start N vs) H):FnOk P w K mg base (CX1 P w) (k+1) f fd ps sp:=by
 obtain⟨oc,od,kV,doc,pm,an,cdv,ct,osl,rfl,lk,hcd⟩:=F.ex
 exact fn_of lk hcd S len fun A outer s H vs Q E hr hsp=>hbody cdv A outer s H vs Q E hr hsp
noncomputable def Cx.tr (X:Cx)(xe':Value→Shared→Prop)(pn':List (Addr×Obj)):Cx:={ X with xe:=xe',pn:=X.pn ++ pn' }
noncomputable def Cx.su (X:Cx)(e:Addr):Cx:={ X with A:=X.A.mark (some (.ref e)),calm:=false,xe:=fun _ _=>False }
section
variable {X:Cx}{pins pins' pn':List (Addr×Obj)}{σ:St}{H:Hp}{s:Shared}{xe':Value→Shared→Prop}{e:Addr}
theorem Cx.Ok.tr (ok:X.Ok):(X.tr xe' pn').Ok:=⟨ok.mod,ok.kind,ok.glob,ok.blt,ok.above,ok.inj,ok.has,ok.cab,ok.hd,ok.frames,ok.stk,ok.exf,ok.bs,ok.bsz,ok.noex,ok.exfs,ok.funs,ok.frf⟩
theorem Cx.Ok.su (ok:X.Ok):(X.su e).Ok:=⟨ok.mod,ok.kind,ok.glob,ok.blt,ok.above,ok.inj,ok.has,ok.cab,fun z=>(by cases z),ok.frames,ok.stk,ok.exf,ok.bs,ok.bsz,ok.noex,ok.exfs,ok.funs,ok.frf⟩
theorem Inv.tr (I:Inv X pins σ H s):Inv (X.tr xe' pins) [] σ H s:=⟨I.ok.tr,I.os,I.bare,I.base,I.loc,I.cell,I.free,I.freeC,fun p hp=>I.pin p (by simpa [Cx.tr]using hp),I.hok,I.len⟩
theorem Inv.untr (ok:X.Ok)(I:Inv (X.tr xe' pins) pins' σ H s):Inv X pins σ H s:=⟨ok,I.os,I.bare,I.base,I.loc,I.cell,I.free,I.freeC,fun p hp=>I.pin p (List.mem_append_left _ hp),I.hok,I.len⟩
theorem Inv.su (I:Inv X pins σ H s):Inv (X.su e) pins σ H s:=⟨I.ok.su,I.os,I.bare,I.base,I.loc,I.cell,I.free,I.freeC,I.pin,I.hok,I.len⟩
theorem Inv.unsu (ok:X.Ok)(I:Inv (X.su e) pins σ H s):Inv X pins σ H s:=⟨ok,I.os,I.bare,I.base,I.loc,I.cell,I.free,I.freeC,I.pin,I.hok,I.len⟩
theorem Inv.gone {h':Heap}{m:Str→Option Value}{v:Option Value}{i:Nat}{x:Str}{t':Nat}(I:Inv X pins σ H s)(hN:X.N.Nodup)(hi:X.N[i]? = some x)(hn:s.heap.Ns X.env.locals m)(hm:∀(i:Nat)(y:Str)(v:V),X.N[i]? = some y→σ[i]? = some (some v)→Vis X.env.scope y→∃u,RelV v u∧Look X.env s.heap m y u)
  (hn':h'.Ns X.env.locals (fun y=>if y=x then v else m y)) (sb:Heap.SameBut X.env.locals s.heap h'):Inv X pins (σ.set i none) H { s with heap:=h',toks:=t' }:=by
 have hL:∃o,s.heap.get? X.env.locals=some o∧H X.env.locals=none:=by
  obtain⟨o,_,_,ho,_⟩:=id hn
  exact⟨o,ho,I.free⟩
 have old:∀b o,X.s₀.heap.get? b=some o→b≠X.env.locals:=fun b o z=>Nat.ne_of_lt (Nat.lt_of_lt_of_le (Heap.lt_size z) I.ok.above)
 refine⟨I.ok,I.os,I.bare,⟨fun b o z n hb hx=>(sb.2 b (old b o z)).trans (I.base.keep b o z n hb hx),fun b o z n hb hx=>?_,I.base.free,fun b o z hx=>?_,I.base.tups,I.base.frzs,I.base.tbls⟩,⟨_,hn',fun j y v' e1 e2 e3=>?_⟩,fun y c z=>?_,I.free,I.freeC,fun p hp=>?_,fun b ob z=>?_,by simpa using I.len⟩
 ·obtain⟨sl,q⟩:=I.base.slot b o z n hb hx
  exact⟨sl,(sb.2 b (old b o z)).trans q⟩
 ·obtain⟨o',q⟩:=I.base.there b o z hx
  exact⟨o',(sb.2 b (old b o z)).trans q⟩
 ·by_cases hj:j=i
  ·subst hj
   have hlt:j<σ.length:=by rw[I.len];exact(List.getElem?_eq_some_iff.mp hi).1
   rw[List.getElem?_set_self hlt]at e2
   cases e2
  ·rw[List.getElem?_set_ne (Ne.symm hj)]at e2
   obtain⟨u,r,l⟩:=hm j y v' e1 e2 e3
   refine⟨u,r,?_⟩
   rcases l with ⟨k,q⟩ | ⟨k,c,q,z⟩
   ·have:y≠x:=fun z=>hj (nodup_ix hN e1 (z ▸ hi))
    exact .inl ⟨k,by simp[this,q]⟩
   ·exact .inr ⟨k,c,q,z.sameBut sb (I.cne y c q)⟩
 ·obtain⟨w',q⟩:=I.cell y c z
  exact⟨w',q.sameBut sb (I.cne y c z)⟩
 ·obtain⟨q,n,ne,nf,d⟩:=I.pin p hp
  exact⟨(sb.2 p.1 ne).trans q,n,ne,nf,d⟩
 ·refine(I.hok b ob z).stay (fun c w' hc q=>(sb.2 c ?_).trans q) (fun _ q=>q) fun _ _ q=>q
  rintro rfl
  rcases hc with rfl |hc
  ·rw[I.free]at z;cases z
  ·rw[I.free]at hc;cases hc
end
noncomputable def ExcIs (a:Addr)(C:Value)(dx:Option Addr)(h:Heap):Prop:=∃oe vs,h.get? a=some oe∧oe.cls=C∧oe.dict=dx∧oe.data = .fields vs
theorem ExcIs.ok {P:Program}{w:World}{H:Hp}{h:Heap}{a:Addr}{C:Value}{dx:Option Addr}(x:ExcIs a C dx h):ObjOk P w H h a (.ext (ExcIs a C dx)):=by
 obtain⟨oe,vs,q,r⟩:=id x
 refine⟨x,⟨oe,q⟩,fun h1 h2 ⟨oe',vs',q',r'⟩ k=>⟨oe',vs',k _ q',r'⟩⟩
noncomputable def Ends.un (D:Ends)(i:Nat):Ends:={ nx:=fun σ2 H2=>D.nx (σ2.set i none) H2,rt:=D.rt,bk:=fun σ2 H2=>D.bk (σ2.set i none) H2,ct:=fun σ2 H2=>D.ct (σ2.set i none) H2 }
noncomputable def tTry (K:PySem.W.Frag)(B:Addr)(i:Nat)(tb:(St→XK)→TS)(ts:TS):TS:=fun D σ H =>
 tb (fun σ' C dx H'=>PySem.W.exmOne K C (.ref B)=some true∧∀a,H' a=none→ts (D.un i) (σ'.set i (some (.ref a))) (upd H' a (.ext (ExcIs a C dx)))) D σ H
theorem looks_cls {M:Model}{h:Heap}{e:Addr}{oe:Obj}(q:h.get? e=some oe):PySem.W.Looks M h (typeOf (.ref e)) oe.cls:=by
 intro A Q E s k z
 unfold typeOf
 exact wpAny_bind (wpAny_loadPart (k _ _ q) (wpAny_pure z))
theorem aloft_is {N:Addr→Prop}{h:Heap}{e:Addr}{C:Value}{dx:Option Addr}{fl:Value}(a:Aloft N h e C dx fl):ExcIs e C dx h:=by
 obtain⟨oe,vs,q0,q1,q2,q3,_⟩:=a
 exact⟨oe,vs,q0,q1,q2,q3⟩
theorem Inv.trackE {X:Cx}{pins:List (Addr×Obj)}{σ:St}{H:Hp}{s:Shared}{a:Addr}{o:HO}(I:Inv X pins σ H s)(hn:H a=none)(n0:X.s₀.heap.get? a=none)(n1:a≠X.env.locals)(n2:∀x c,X.env.cells.lookup x=some c→c≠a)(n3:∀p∈X.pn ++ pins,p.1≠a)
  (new:ObjOk X.prog X.w (upd H a o) s.heap a o):Inv X pins σ (upd H a o) s:=by
 have ne:∀b u,H b=some u→b≠a:=fun b u q z=>by rw[z,hn]at q;cases q
 refine⟨I.ok,I.os,I.bare,⟨I.base.keep,I.base.slot,fun b u q n hx=>?_,I.base.there,fun b xs q=>?_,fun b u xs q=>?_,fun b ps q=>?_⟩,I.loc,I.cell,?_,fun y c q=>?_,fun p hp=>?_,fun b u q=>?_,I.len⟩
 ·rw[upd_ne (fun z=>by rw[z,n0]at q;cases q)];exact I.base.free b u q n hx
 ·rw[upd_ne (ne _ _ (I.base.tups b xs q))];exact I.base.tups b xs q
 ·rw[upd_ne (ne _ _ (I.base.frzs b u xs q))];exact I.base.frzs b u xs q
 ·obtain⟨m,r⟩:=I.base.tbls b ps q
  exact⟨m,by rw[upd_ne (ne _ _ r)];exact r⟩
 ·rw[upd_ne (Ne.symm n1)];exact I.free
 ·rw[upd_ne (n2 y c q)];exact I.freeC y c q
 ·obtain⟨q,n,r⟩:=I.pin p hp
  exact⟨q,by rw[upd_ne (n3 p hp)];exact n,r⟩
 ·by_cases hb:b=a
  ·subst hb;rw[upd_same]at q;cases q;exact new
  ·rw[upd_ne hb]at q
   exact(I.hok b u q).stay (fun c v _ r=>r) (fun c r=>by rw[upd_ne (ne _ _ r)];exact r) fun c xs r=>by rw[upd_ne (ne _ _ r)];exact r
section
variable {X:Cx}{b₀:Stmt}{body suite:List Stmt}{c x:Str}{p hp pos:Pos}{B:Addr}{i:Nat}{tb:(St→XK)→TS}{ts:TS}
theorem ps_try (hN:X.N.Nodup)(hi:X.N[i]? = some x)(hx:X.env.scope.names.lookup x=some .local)(hg:Gl X c)(hm:X.mg c=some (.ref B))(hst:X.stack=X.env :: X.outer)(hfr:X.env.frame=some X.env.locals)(hex:X.ex = [])
  (hb:∀(xe':Value→Shared→Prop) (pn':List (Addr×Obj)) (XR:St→XK),Px (X.tr xe' pn') XR→PSs (X.tr xe' pn') body (tb XR)) (hs:∀e:Addr,PSs (X.su e) (b₀ :: suite) ts) (hdb:(c == ("__debug__":Str))=false) :
  PS X (.Try body [.ExceptHandler (some (.Name c p)) (some x) (b₀ :: suite) hp] [] [] pos) (tTry X.K B i tb ts):=by
 intro pins s σ H D I h
 refine wpAny_Try_except ?_
 refine wpAny_mono (hb _ pins _ ?_ [] s σ H D I.tr h) (fun f s1 q=>?_) (fun e s1 q=>q)
 ·intro pins' σ1 H1 s1 ev s2 I1 hq
  obtain⟨a,C,dx,H2,rfl,o1,b1,un,hok,na,al,hm1,hk⟩:=hq
  have J:=I1.cx1 un o1 b1 hok
  have un':Un (frs X.stack) [] H1 H2 s1.heap s2.heap:=un
  show wpAny (model X.prog X.w) X.A (noteFrame (.ref a) X.env) (fun _ s₂=>wpAny (model X.prog X.w) X.A (setFlight (.ref a) none) (fun _ s₃=>wpAny (model X.prog X.w) X.A (handleBy (.ref a) X.env [.ExceptHandler (some (.Name c p)) (some x) (b₀ :: suite) hp]) (SP X pins D) X.xe s₃) X.xe s₂) X.xe s2
  have Jst:s2.heap.FunFrames X.base (X.env :: X.outer):=by rw[← hst];exact J.stack
  have nf:∀b∈frs (X.env :: X.outer),b≠a∧¬ Since s1.heap H2 b:=by rw[← hst];exact I1.nfr na.1
  refine note_on (N:=Since s1.heap H2) (base:=X.base) (outer:=X.outer) (L:=X.env.locals) (by rw[← hst];exact I.ok.frames) Jst hfr (since_of un hok) nf al fun h3 al3 st3 ff3=>?_
  refine land (s:={ s2 with heap:=h3 }) (fs:=frs (X.env :: X.outer)) ff3 al3 fun h4 al4 st4 ff4=>?_
  have st34:=st3.trans st4
  -- the state ahead of the handler
  have mk:∀ {h5:Heap}{t5:Nat},Stn (Since s1.heap H2) (frs (X.env :: X.outer)) a s2.heap h5→Inv (X.tr (X.tr X.xe []).xe pins) pins' σ1 H2 { s2 with heap:=h5,toks:=t5 }:=fun {h5 t5} st=>by
   have st':Stn (Since s1.heap H2) (frs X.stack) a s2.heap h5:=by rw[hst];exact st
   have z:=J.stn (s₁:=s1) (H₁:=H1) (N:=Since s1.heap H2) st' (fun b z=>⟨z.2,z.1⟩) ⟨na.2,na.1⟩ I1 un
   have z2:=z.tok t5
   exact⟨I.ok.tr,z2.os,z2.bare,z2.base,z2.loc,z2.cell,z2.free,z2.freeC,z2.pin,z2.hok,z2.len⟩
  have I4:Inv X pins σ1 H2 { s2 with heap:=h4 }:=(mk (t5:=s2.toks) st34).untr I.ok
  refine wpAny_handleBy_cons (codeAny_handlers_test ?_) (by intro q;cases q)
  refine ld_glob (I4.su (e:=a)) hg hm ?_ hdb
  obtain⟨oe,vs,q0,q1,q2,q3,_⟩:=id al4
  refine(PySem.W.exm_one (K:=X.K) I4.kIn (by rw[← q1];exact looks_cls q0) hm1).here ?_
  show codeAny _ _ _ _ _
  refine codeAny_handlers_suite_as ?_
  refine land (s:={ s2 with heap:=h4 }) (fs:=frs (X.env :: X.outer)) ff4 al4 fun h5 al5 st5 ff5=>?_
  have I5:Inv X pins σ1 H2 { s2 with heap:=h5 }:=(mk (t5:=s2.toks) (st34.trans st5)).untr I.ok
  have n1:a≠X.env.locals:=fun z=>by
   obtain⟨m,⟨o,_,_,ho,_⟩,_⟩:=I1.loc
   have ho':s1.heap.get? X.env.locals=some o:=ho
   rw[← z,na.1]at ho';cases ho'
  have I6:Inv X pins σ1 (upd H2 a (.ext (ExcIs a C dx))) { s2 with heap:=h5 }:=by
   refine I5.trackE na.2 ?_ n1 (fun y e hc z=>?_) (fun q hq z=>?_) (aloft_is al5).ok
   ·cases r:X.s₀.heap.get? a with
    | none=>rfl
    | some o =>
     obtain⟨o',r'⟩:=I1.base.there a o r (by show a∉X.ex;rw[hex];simp)
     rw[na.1]at r';cases r'
   ·obtain⟨v,o,ho,_⟩:=I1.cell y e hc
    rw[z,na.1]at ho;cases ho
   ·have r:=(I1.pin q (List.mem_append_left _ hq)).1
    rw[z,na.1]at r;cases r
  refine store_ok (X:=X.su a) (s:={ s2 with heap:=h5 }) (I6.su (e:=a)) hN hi (.inl hx) (v:=.ref a) rfl (fun s7 I7=>?_) (.inr hx)
  refine wpAny_mono (hs a pins s7 _ _ (D.un i) I7 (hk a na.2)) (fun f s8 q8=>?_) (fun _ _ z=>z.elim)
  have fin:∀ {σ8:St}{H8:Hp}{Q:Unit→Shared→Prop},Inv (X.su a) pins σ8 H8 s8→(∀s9,Inv X pins (σ8.set i none) H8 s9→Q () s9)→wpAny (model X.prog X.w) X.A (do bindName X.env x .none;unbindBehindTheSuite X.env x hp) Q X.xe s8:=fun {σ8 H8 Q} I8 k=>by
   obtain⟨m,hn,hl⟩:=id I8.loc
   refine wpAny_nameGoes_keeps hx hn (by rw[I.ok.kind];rfl) fun h' v hn' sb=>k _ ?_
   exact(I8.unsu I.ok).gone hN hi hn hl hn' sb
  cases f with
  | next=>obtain⟨σ8,H8,I8,q⟩:=q8;exact fin I8 fun s9 I9=>⟨_,_,I9,q⟩
  | brk=>obtain⟨σ8,H8,I8,q⟩:=q8;exact fin I8 fun s9 I9=>⟨_,_,I9,q⟩
  | cont=>obtain⟨σ8,H8,I8,q⟩:=q8;exact fin I8 fun s9 I9=>⟨_,_,I9,q⟩
  | ret u=>obtain⟨v,σ8,H8,I8,r,q⟩:=q8;exact fin I8 fun s9 I9=>⟨v,_,_,I9,r,q⟩
 ·cases f with
  | next =>
   obtain⟨σ',H',I',q⟩:=q
   exact wpAny_execs_nil ⟨σ',H',I'.untr I.ok,q⟩
  | brk=>obtain⟨σ',H',I',q⟩:=q;exact⟨σ',H',I'.untr I.ok,q⟩
  | cont=>obtain⟨σ',H',I',q⟩:=q;exact⟨σ',H',I'.untr I.ok,q⟩
  | ret u=>obtain⟨v,σ',H',I',r,q⟩:=q;exact⟨v,σ',H',I'.untr I.ok,r,q⟩
end
noncomputable abbrev bmV:List Value:=[.type "ValueError",.type "Exception",.type "BaseException",.type "object"]
noncomputable def xcIn (K:PySem.W.Frag)(C:Addr)(init:Option Value):Bool:=match K.lookup C with
 | some ⟨.type "type",_,.cls cd,sl⟩=>(match cd.mro,sl.toList with
  | .ref C' :: bm,[_,_,_,_,some (.builtin n),_]=>C' == C && (n == "ValueError.__new__" && (!cd.hasDel && (cd.hasDict && (PySem.W.tailIn K bmV bm && (PySem.W.nsOkIn K cd.ns && PySem.W.nsIn K cd.ns "__init__" == some init)))))
  | _,_=>false)
 | _=>false
structure XAt (h:Heap) (C:Addr) (init:Option Value):Prop where
 out:∃nm q N bs bm sn sub ab col dd k0 k1 k2 k3 k5 mN,h.get? C=some (excClassObj nm q C N bs bm true sn sub ab col dd k0 k1 k2 k3 k5 "ValueError.__new__")∧h.Ns N mN∧mN "__init__" = init∧OwnTail h bmV bm
theorem ns_of_in {K:PySem.W.Frag}{h:Heap}{N:Addr}{mg:Str→Option Value}{n:Str}{r:Option Value}(X:K.In h)(G:h.Ns N mg)(e:PySem.W.nsIn K N n=some r):mg n=r:=by
 obtain⟨o,es,ep,ho,hd,_,hf⟩:=G
 unfold PySem.W.nsIn at e
 split at e
 ·rename_i c d es' n' sl q
  have z:=X _ _ q
  rw[ho]at z
  cases z
  cases hd
  rw[← hf]
  unfold nsFind findBy
  rw[← Array.find?_toList]
  split at e
  ·rename_i he
   rw[he]
   cases e
   rfl
  ·rename_i he
   rw[he]
   split at e
   ·cases e
   ·cases e
    rfl
 ·cases e
theorem xc_at {K:PySem.W.Frag}{h:Heap}{C:Addr}{init:Option Value}(X:K.In h)(q:xcIn K C init=true):XAt h C init:=by
 unfold xcIn at q
 split at q
 ·rename_i dd cd sl ho
  split at q
  ·rename_i C' bm k0 k1 k2 k3 n k5 hm hs
   simp only[Bool.and_eq_true,beq_iff_eq,Bool.not_eq_true']at q
   obtain⟨rfl,rfl,d,hd',t,o,i⟩:=q
   obtain⟨nm,bs,mro,ns,qn,hd,sn,sub,ab,col,del⟩:=cd
   dsimp only at hm d o i hd'
   subst hm d hd'
   obtain⟨l⟩:=sl
   simp only at hs
   subst hs
   have G:h.Ns ns (h.nsMap ns):=.of_isNs (PySem.W.isNs_of_in X o)
   exact⟨_,_,_,_,_,_,_,_,_,_,_,_,_,_,_,_,X _ _ ho,G,ns_of_in X G i,PySem.W.tail_of_in X t⟩
  ·cases q
 ·cases q
section
variable {M:Model}{A:Around}{E:Value→Shared→Prop}{s:Shared}{env:Env}{C:Addr}{init:Option Value}
theorem raise_made {x:Sem Value}{Q:Flow→Shared→Prop}(hh:A.handled=none)
  (h:wpAny M A x (fun v s₁=>∃e oe vs,v = .ref e∧XAt s₁.heap C init∧s₁.heap.get? e=some oe∧oe.cls = .ref C∧oe.data = .fields vs∧vs[1]? = some .none∧E (.ref e) s₁) E s) :
  wpAny M A (raiseStmt env (some x) none) Q E s:=by
 unfold raiseStmt
 refine wpAny_bind (wpAny_mono h (fun v s₁ h₁=>?_) fun _ _ x=>x)
 obtain⟨e,oe,vs,rfl,⟨nm,q,N,bs,bm,sn,sub,ab,col,dd,k0,k1,k2,k3,k5,mN,hC,_,_,T⟩,he,hc,hd,h1,hE⟩:=h₁
 have hbm:(Value.ref C :: bm).contains (.type "BaseException")=true:=by rw[List.contains_cons,T.hasType (X:="BaseException") (b:=true) (by decide +kernel),Bool.or_true]
 obtain⟨hp,g,d,tk,os⟩:=s₁
 obtain⟨oc,od,odt,osl⟩:=oe
 dsimp only at hc hd
 subst hc hd
 have hfld:∀ {Q':Value→Shared→Prop}{A':Around},Q' .none ⟨hp,g,d,tk,os⟩→wpAny M A' (field (.ref e) 1) Q' E ⟨hp,g,d,tk,os⟩:=fun z=>wpAny_field (s:=⟨hp,g,d,tk,os⟩) he rfl h1 z
 repeat (first |with_reducible refine wpAny_loadPart_at he ?_ |with_reducible refine wpAny_loadPart_at hC ?_ | (with_reducible refine wpAny_isSubtype_exc hC ?_;rw[hbm]) |with_reducible refine hfld ?_ |wp_step)
 exact wpAny_raiseNew_none hh hE
end
theorem XAt.keeps {h h':Heap}{C:Addr}{init:Option Value}(x:XAt h C init)(k:∀b o,h.get? b=some o→h'.get? b=some o):XAt h' C init:=by
 obtain⟨nm,q,N,bs,bm,sn,sub,ab,col,dd,k0,k1,k2,k3,k5,mN,hC,hN,hi,T⟩:=x.out
 exact⟨nm,q,N,bs,bm,sn,sub,ab,col,dd,k0,k1,k2,k3,k5,mN,k _ _ hC,hN.keeps k,hi,T.keeps k⟩
theorem ObjOk.there {P:Program}{w:World}{H:Hp}{h:Heap}{a:Addr}{o:HO}(x:ObjOk P w H h a o):∃ob,h.get? a=some ob:=by
 induction o with
 | lst xs=>obtain⟨_,_,_,_,e⟩:=x;exact⟨_,e⟩
 | tup xs=>obtain⟨_,_,_,ob,e,_⟩:=x;exact⟨_,e⟩
 | dK kvs=>obtain⟨_,_,_,_,o,_,_,e,_⟩:=x;exact⟨_,e⟩
 | dT kvs=>obtain⟨_,_,_,_,o,_,_,e,_⟩:=x;exact⟨_,e⟩
 | set S n=>obtain⟨o,_,_,_,e,_⟩:=x;exact⟨_,e⟩
 | ins C dx fs=>obtain⟨_,_,_,e,_⟩:=x;exact⟨_,e⟩
 | own y=>exact x
 | xd fs=>obtain⟨_,⟨_,_,_,e,_⟩,_⟩:=x;exact⟨_,e⟩
 | rng lo hi=>obtain⟨_,_,_,e⟩:=x;exact⟨_,e⟩
 | frz ob u ih=>exact⟨ob,x.1⟩
 | tbl ps=>exact⟨_,x⟩
 | met f y=>exact⟨_,x⟩
 | ext φ=>exact x.2.1
theorem HOk.none {P:Program}{w:World}{H:Hp}{h:Heap}{a:Addr}(x:HOk P w H h)(e:h.get? a=none):H a=none:=by
 cases r:H a with
 | none=>rfl
 | some o =>
  obtain⟨ob,q⟩:=(x a o r).there
  rw[e]at q;cases q
noncomputable def tRaise0 (C:Addr)(XR:St→XK):TS:=fun _ σ H=>XR σ (.ref C) none H
section
variable {X:Cx}{C:Addr}{XR:St→XK}{x:Str}{np cpos pos:Pos}
end
end L2
namespace L2
open PySem PySem.Spec PyProof.Rows PySem.W
theorem slot_wget:Slot "wrapper_descriptor" "__get__" "wrapper_descriptor.__get__":=.of (owner:="wrapper_descriptor") (n:="__get__") (by rw [typeLookup_type,builtinLookup_eq_fast]; kernel_rfl) (by decide +kernel) (by decide +kernel) (by decide +kernel)
  (by first | exact .inl (by decide +kernel) | exact .inr (by decide +kernel)) (by rw [isSubtype_type]; kernel_rfl)
theorem entry_wget:entryFor table "wrapper_descriptor.__get__" = some Builtin.«wrapper_descriptor.__get__»:=entryFor_of_tree (by kernel_rfl)
theorem args_wget (a b c:Value):argsOk "wrapper_descriptor.__get__" ⟨[a,b,c],[]⟩:=by unfold argsOk;kernel_rfl
theorem type_vinit:typeOf (.builtin "ValueError.__init__")=pure (.type "wrapper_descriptor"):=by kernel_rfl
section
variable {prog:Program}{w:World}{A:Around}{E:Value→Shared→Prop}{h:Heap}{g:Array GenState}{d:Drawn}{t:Nat}{os:OsState}
theorem run_wget {x C:Addr}{Q:Fin→Shared→Prop}(hi:Looks (model prog w) h (isInstance (.ref x) (.type "ValueError")) true)
  (hq:Q (.done (.ret (.ref h.objs.size))) ⟨h.push { cls:=.type "method-wrapper",data:=.fields #[.builtin "ValueError.__init__",.ref x] },g,d,t,os⟩) :
  wpAny (model prog w) A (Builtin.«wrapper_descriptor.__get__» ⟨[.builtin "ValueError.__init__",.ref x,.ref C],[]⟩) Q E ⟨h,g,d,t,os⟩:=by
 unfold Builtin.«wrapper_descriptor.__get__»
 refine wpAny_bind (wpAny_of_eq (a:=(.builtin "ValueError.__init__",some (.ref x),some (.ref C))) rfl ?_)
 dsimp only
 refine wpAny_bind ?_
 refine wpAny_bind (wpAny_of_eq (a:=(("__init__":Str),Value.type "ValueError")) (by kernel_rfl) ?_)
 dsimp only
 refine wpAny_bind (hi.here ?_)
 rw[if_neg (by decide)]
 refine wpAny_pure ?_
 exact wpAny_bind (wpAny_newObj_type (wpAny_pure hq))
theorem xs_ga {so D x C:Addr}{l₀ l:List Value}{K:Frag}{tk:Tok}{Q:Fin→Shared→Prop}
  (hso:h.get? so=some { cls:=.type "super",dict:=none,data:=.fields #[.ref D,.ref x,.ref C],slots:=#[] }) (hno:Looks (model prog w) h (opaqueClassAbove (.ref C)) none)
  (hC:Looks (model prog w) h (mroOf (.ref C)) l₀) (hl:(l₀.dropWhile (· != .ref D)).drop 1=l) (X:K.In h) (hf:alongIn K "__init__" l=some (some (.builtin "ValueError.__init__")))
  (hxC:x≠C) (hi:Looks (model prog w) h (isInstance (.ref x) (.type "ValueError")) true)
  (hq:Q (.done (.ret (.ref h.objs.size))) ⟨h.push { cls:=.type "method-wrapper",data:=.fields #[.builtin "ValueError.__init__",.ref x] },g,d,t,os⟩) :
  wpAny (model prog w) A (Builtin.«super.__getattribute__» ⟨[.ref so,.str "__init__" tk],[]⟩) Q E ⟨h,g,d,t,os⟩:=by
 have lk:=slot_wget.lookup
 have ne:(Value.ref x == Value.ref C)=false:=by simp[hxC]
 have dt:({ cls:=.type "super",dict:=none,data:=.fields #[.ref D,.ref x,.ref C],slots:=#[] }:Obj).data = .fields #[.ref D,.ref x,.ref C]:=rfl
 have z0:(#[.ref D,.ref x,.ref C]:Array Value)[0]? = some (.ref D):=rfl
 have z1:(#[.ref D,.ref x,.ref C]:Array Value)[1]? = some (.ref x):=rfl
 have z2:(#[.ref D,.ref x,.ref C]:Array Value)[2]? = some (.ref C):=rfl
 have tv:(⟨h,g,d,t,os⟩:Shared).TypeIs (.builtin "ValueError.__init__") "wrapper_descriptor":=type_vinit
 have nc:(("__init__":Str) == ("__class__":Str))=false:=by decide +kernel
 unfold Builtin.«super.__getattribute__»
 repeat (first
  | (with_reducible refine wpAny_field hso dt z0 ?_) | (with_reducible refine wpAny_field hso dt z1 ?_) | (with_reducible refine wpAny_field hso dt z2 ?_)
  | (with_reducible refine ks_wpAny_notOpaque hno ?_)
  | (with_reducible refine Looks.at hC ?_;rw[hl])
  | (refine ks_forIn_along X (fun _ _=>rfl) rfl ?_ hf)
  | (with_reducible refine wpAny_of_eq type_vinit ?_)
  | (with_reducible refine wpAny_call_entry slot_wget tv entry_wget ?_ (args_wget _ _ _))
  | (with_reducible refine run_wget hi ?_)
  | (with_reducible refine⟨_,rfl,?_⟩)
  | (simp only[nc,ne,Bool.or_false,Bool.false_eq_true,if_false])
  | wp_step
  | dsimp only)
 all_goals exact hq
theorem xs_getm {so D x C:Addr}{l₀ l:List Value}{K:Frag}{pl:Sem Bool}{Q:Value×List Value→Shared→Prop}
  (hso:h.get? so=some { cls:=.type "super",dict:=none,data:=.fields #[.ref D,.ref x,.ref C],slots:=#[] }) (hno:Looks (model prog w) h (opaqueClassAbove (.ref C)) none)
  (hC:Looks (model prog w) h (mroOf (.ref C)) l₀) (hl:(l₀.dropWhile (· != .ref D)).drop 1=l) (X:K.In h) (hf:alongIn K "__init__" l=some (some (.builtin "ValueError.__init__")))
  (hxC:x≠C) (hi:Looks (model prog w) h (isInstance (.ref x) (.type "ValueError")) true)
  (hq:Q (.ref h.objs.size,[]) ⟨h.push { cls:=.type "method-wrapper",data:=.fields #[.builtin "ValueError.__init__",.ref x] },g,d,t+1,os⟩) :
  wpAny (model prog w) A (getMethod (.ref so) "__init__" pl) Q E ⟨h,g,d,t,os⟩:=by
 have lk:=F.ks_slot_super_ga.lookup
 have ty:∀t',(⟨h,g,d,t',os⟩:Shared).TypeIs (.ref so) "super":=fun _=>⟨_,hso,rfl⟩
 unfold getMethod
 refine wpAny_bind (wpAny_specialOf (ty _) lk ?_)
 show wpAny _ _ (if (Manifest.canonical "super.__getattribute__" != "object.__getattribute__")=true then _ else _) _ _ _
 rw[if_pos F.ks_canon_super_ga]
 unfold getAttr getAttrBy
 refine wpAny_bind (wpAny_bind (wpAny_mkText (wpAny_holding (wpAny_bind (wpAny_typeOf (ty _) (wpAny_bind (wpAny_of_eq lk ?_)))))))
 show wpAny _ _ (getAttrByItsOwn (.ref so) (.str "__init__" t) (.type "super") (.builtin "super.__getattribute__") true false) _ _ _
 unfold getAttrByItsOwn hookBefore callGetattribute boundAndCalled
 refine wpAny_bind (wpAny_of_eq (a:=none) rfl ?_)
 refine wpAny_bind (wpAny_attempt (wpAny_holding ?_))
 refine wpAny_bind (wpAny_of_eq (F.ks_slot_super_ga.bind _) ?_)
 refine wpAny_mono (E:=fun _ _=>False) (wpAny_call_entry F.ks_slot_super_ga (ty _) F.ks_entry_super_ga (xs_ga (Q:=fun fin s'=>∃v,fin = .done (.ret v)∧(v = .ref h.objs.size∧s' = ⟨h.push { cls:=.type "method-wrapper",data:=.fields #[.builtin "ValueError.__init__",.ref x] },g,d,t+1,os⟩)) hso hno hC hl X hf hxC hi ⟨_,rfl,rfl,rfl⟩) (F.ks_gaArgs_super _ _)) (fun v s' hv=>?_) fun _ _ z=>z.elim
 obtain⟨rfl,rfl⟩:=hv
 exact wpAny_pure (wpAny_pure hq)
end
section
variable {prog:Program}{w:World}{A:Around}{E:Value→Shared→Prop}{h:Heap}{g:Array GenState}{d:Drawn}{t:Nat}{os:OsState}
theorem check_vi {M:Model}{nm q:Str}{C N:Addr}{bs bm:List Value}{hdct:Bool}{sn:List Str}{sub:List Value}{ab:Bool}{col:Option Bool}{dd:Option Addr}{k0 k1 k2 k3 k5:Option Value}{newId:String}{x:Addr}{oe:Obj}{a:Str}{tk:Tok}{Q:Unit→Shared→Prop}
  (hC:h.get? C=some (excClassObj nm q C N bs bm hdct sn sub ab col dd k0 k1 k2 k3 k5 newId)) (he:h.get? x=some oe) (hc:oe.cls = .ref C) (hq:Q () ⟨h,g,d,t,os⟩) :
  wpAny M A (checkBoundCall "ValueError.__init__" ⟨[.ref x,.str a tk],[]⟩) Q E ⟨h,g,d,t,os⟩:=by
 have F:=PySem.F.excBase_ValueError
 have hshort:=F.noStar
 simp only[checkBoundCall,F.initKind,F.initRow]
 rw[if_pos (by decide)]
 repeat (first | (with_reducible refine wpAny_loadPart_at he ?_;rw[hc]) |with_reducible refine wpAny_loadPart_at hC ?_ |wp_step)
 exact hq
theorem fld_at {M:Model}{e:Addr}{o:Obj}{vs:Array Value}{i:Nat}{v:Value}{Q:Value→Shared→Prop}(ho:h.get? e=some o)(hd:o.data = .fields vs)(hi:vs[i]? = some v)(hq:Q v ⟨h,g,d,t,os⟩):wpAny M A (field (.ref e) i) Q E ⟨h,g,d,t,os⟩:=wpAny_field ho hd hi hq
theorem sfl_at {M:Model}{e:Addr}{o:Obj}{vs:Array Value}{i:Nat}{v:Value}{Q:Unit→Shared→Prop}(ho:h.get? e=some o)(hd:o.data = .fields vs)(hi:i<vs.size)(hq:Q () ⟨h.update e (Obj.mapFields (·.setIfInBounds i v)),g,d,t,os⟩):wpAny M A (setField (.ref e) i v) Q E ⟨h,g,d,t,os⟩:=wpAny_setField (s:=⟨h,g,d,t,os⟩) ho hd hi hq
theorem xs_run {mw x t0:Addr}{a:Str}{tk:Tok}{oe:Obj}{vs:Array Value}{Q:Value→Shared→Prop}(hmw:h.get? mw=some { cls:=.type "method-wrapper",data:=.fields #[.builtin "ValueError.__init__",.ref x] })
  {C:Addr}{init:Option Value}(xa:XAt h C init) (hc:oe.cls = .ref C) (hx:h.get? x=some oe) (hd:oe.data = .fields vs) (h0:vs[0]? = some (.ref t0))
  (hq:∀h' T,h.objs.size≤T→h'.get? x=some (oe.mapFields (·.setIfInBounds 0 (.ref T)))→(∀b o,b≠x→h.get? b=some o→h'.get? b=some o)→Q .none ⟨h',g,d,t,os⟩) :
  wpAny (model prog w) A (call (.ref mw) [.str a tk]) Q E ⟨h,g,d,t,os⟩:=by
 refine wpAny_call (codeAny_of_tree ?_)
 show wpAny _ _ (callAny (.ref mw) _) _ _ _
 unfold callAny
 refine wpAny_bind (wpAny_load hmw ?_)
 dsimp only
 rw[if_pos (by decide)]
 simp only[show (#[Value.builtin "ValueError.__init__",Value.ref x]:Array Value)[0]? = some (.builtin "ValueError.__init__")from rfl,show (#[Value.builtin "ValueError.__init__",Value.ref x]:Array Value)[1]? = some (.ref x)from rfl]
 rw[if_pos (by decide)]
 obtain⟨nm,qn,N,bs,bm,sn,sub,ab,col,dd,k0,k1,k2,k3,k5,mN,hC,_,_,_⟩:=xa.out
 refine wpAny_bind (check_vi hC hx hc ?_)
 refine wpAny_pure ?_
 refine⟨Code.quiet_builtin _ (by decide +kernel),codeAny_builtin PySem.F.excBase_ValueError.initEntry ?_⟩
 have h1:=Heap.get?_push_of_some { cls:=Value.type "tuple",data:=Data.seq #[Value.str a tk] } hx
 have z0:0<vs.size:=(Array.getElem?_eq_some_iff.mp h0).1
 unfold Builtin.«BaseException.__init__» Builtin.BaseException.bexcPut
 repeat (first | (with_reducible refine fld_at h1 hd h0 ?_) | (with_reducible refine sfl_at h1 hd z0 ?_) |wp_step)
 exact hq _ h.objs.size (Nat.le_refl _) (Heap.get?_update_self _ h1 (Obj.isFreed_of_fields (Obj.data_mapFields hd _))) fun b o nb q=>(Heap.get?_update_other _ _ (Ne.symm nb)).trans (Heap.get?_push_of_some _ q)
end
open Builtin Builtin.ObjectAttr
section
variable {prog:Program}{w:World}{A:Around}{E:Value→Shared→Prop}{h:Heap}{g:Array GenState}{d:Drawn}{t:Nat}{os:OsState}
variable {x C LE:Addr}{o:Obj}{name:Str}{v:Value}{vs:Array Value}
structure StoreAt (M:Model) (h:Heap) (C LE:Addr) (name:Str):Prop where
 mro:Looks M h (mroOf (.ref C)) (.ref C :: .ref LE :: bmV)
 no:Looks M h (typeLookup (.ref C) name) none
 sa:Looks M h (typeLookup (.ref C) "__setattr__") (some (.builtin "object.__setattr__"))
 ob:Looks M h (isSubtype (.ref C) (.type "object")) true
 at_:∃init,XAt h C init
theorem xs_sa {tk:Tok}{Q:Fin→Shared→Prop}(S:StoreAt (model prog w) h C LE name)(hx:h.get? x=some o)(hc:o.cls = .ref C)(hn:o.dict=none)(hd:o.data = .fields vs)
  (hq:∀h' tk' dx,h.objs.size≤dx→h'.get? x=some { o with dict:=some dx }→h'.Ns1 dx (fun y=>if y=name then some v else none)→(∀b u,b≠x→h.get? b=some u→h'.get? b=some u)→Q (.done (.ret .none)) ⟨h',g,d,tk',os⟩) :
  wpAny (model prog w) A (Builtin.«object.__setattr__» ⟨[.ref x,.str name tk,v],[]⟩) Q E ⟨h,g,d,t,os⟩:=by
 have ps:=PySem.F.store_ValueError.passes (.ref x)
 obtain⟨init,xa⟩:=S.at_
 obtain⟨nm,qn,N,bs,bm,sn,sub,ab,col,dd,k0,k1,k2,k3,k5,mN,hC,_,_,_⟩:=xa.out
 unfold Builtin.«object.__setattr__»
 repeat (first |rw[refuse_eq] | (with_reducible refine wpAny_loadPart_at hx ?_;rw[hc]) | (with_reducible refine Looks.at S.mro ?_;rw[refuseLoop_ref,refuseLoop_ref,ps]) | (with_reducible refine Looks.at S.no ?_) | (with_reducible refine wpAny_loadPart_at hC ?_) |wp_step)
 rw[hn,hd]
 dsimp only
 rw[if_neg (by simp[typeHasDict])]
 have x1:(h.push { cls:=.type "dict",data:=.dict #[] }).get? x=some o:=Heap.get?_push_of_some _ hx
 have nx:x≠h.objs.size:=Nat.ne_of_lt (Heap.lt_size hx)
 have fr:({ cls:=o.cls,dict:=some h.objs.size,data:=o.data,slots:=o.slots }:Obj).isFreed=false:=by
  obtain⟨oc,od,odt,osl⟩:=o
  dsimp only at hd
  subst hd
  rfl
 refine wpAny_bind (wpAny_alloc' (wpAny_bind (wpAny_update' x1 (wpAny_pure ?_))))
 have x2:=Heap.get?_update_self (fun o=>{ cls:=o.cls,dict:=some h.objs.size,data:=o.data,slots:=o.slots }) x1 fr
 have d2:((h.push { cls:=.type "dict",data:=.dict #[] }).update x fun o=>{ cls:=o.cls,dict:=some h.objs.size,data:=o.data,slots:=o.slots }).get? h.objs.size=some { cls:=.type "dict",data:=.dict #[] } :=
  (Heap.get?_update_other _ _ nx).trans (Heap.get?_push_at rfl rfl)
 generalize hg:((h.push { cls:=.type "dict",data:=.dict #[] }).update x fun o=>{ cls:=o.cls,dict:=some h.objs.size,data:=o.data,slots:=o.slots })=h2 at x2 d2 ⊢
 have old:∀b u,b≠x→h.get? b=some u→h2.get? b=some u:=fun b u nb q=>by
  rw[← hg]
  exact(Heap.get?_update_other _ _ (Ne.symm nb)).trans (Heap.get?_push_of_some _ q)
 have n2:h2.Ns h.objs.size (fun _=>none):=⟨_,#[],_,d2,rfl,fun e z=>absurd z (by simp),fun _=>rfl⟩
 show wpAny _ _ (storeInDict h.objs.size (.str name tk) name v) _ _ _
 unfold storeInDict newKeyGuard
 refine wpAny_bind (wpAny_pure (wpAny_bind (wpAny_nsSet1 (Heap.Ns1.of_empty n2) fun h3 n3 s3=>?_)))
 obtain⟨oD,eD,pD,q1,q2,q3⟩:=n3.count (Within.cons name v Within.nil)
 refine wpAny_bind (wpAny_lookBehind q1 (by rw[q2];exact pastItsLine_dict (Nat.le_trans q3 (by rw[List.length_cons,List.length_nil,sizeLine_eq];omega))) ?_)
 wp_walk
 exact hq h3 _ h.objs.size (Nat.le_refl _) ((s3.2 x nx).trans x2) n3 fun b u nb q=>(s3.2 b (Nat.ne_of_lt (Heap.lt_size q))).trans (old b u nb q)
theorem xs_chk {M:Model}{n:Value}{Q:Unit→Shared→Prop}(ob:Looks M h (isSubtype (.ref C) (.type "object")) true)(hx:h.get? x=some o)(hc:o.cls = .ref C)(hq:Q () ⟨h,g,d,t,os⟩) :
  wpAny M A (checkBuiltinCall "object.__setattr__" ⟨[.ref x,n,v],[]⟩) Q E ⟨h,g,d,t,os⟩:=by
 have SF:=PySem.F.store_ValueError
 simp only[checkBuiltinCall,SF.kind,SF.split]
 refine wpAny_bind ?_
 unfold isInstance
 repeat (first | (with_reducible refine wpAny_loadPart_at hx ?_;rw[hc]) | (with_reducible refine Looks.at ob ?_) |wp_step)
 exact hq
theorem xs_set {Q:Unit→Shared→Prop}(S:StoreAt (model prog w) h C LE name)(hx:h.get? x=some o)(hc:o.cls = .ref C)(hn:o.dict=none)(hd:o.data = .fields vs)
  (hq:∀h' tk' dx,h.objs.size≤dx→h'.get? x=some { o with dict:=some dx }→h'.Ns1 dx (fun y=>if y=name then some v else none)→(∀b u,b≠x→h.get? b=some u→h'.get? b=some u)→Q () ⟨h',g,d,tk',os⟩) :
  wpAny (model prog w) A (setAttr (.ref x) name v) Q E ⟨h,g,d,t,os⟩:=by
 have SF:=PySem.F.store_ValueError
 have bd:=SF.slot.bind (.ref x)
 unfold setAttr callSpecial? specialOf
 repeat (any_goals (first |assumption | (with_reducible refine wpAny_loadPart_at hx ?_;rw[hc]) | (with_reducible refine Looks.at S.sa ?_) |wp_step))
 refine codeAny_call_builtin SF.slot.plain SF.entry (xs_chk (S.ob) hx hc ?_)
 refine xs_sa (t:=t+1) S hx hc hn hd fun h' tk' dx z1 z2 z3 z4=>?_
 repeat (any_goals (first |assumption |wp_step))
 exact hq h' tk' dx z1 z2 z3 z4
end
structure XK1 (K:Frag) (C LE:Addr) (fld:Str):Prop where
 mro:(clsIn K C).map (·.mro)=some (.ref C :: .ref LE :: bmV)
 no:findIn K (.ref C) fld=some none
 sa:findIn K (.ref C) "__setattr__" = some (some (.builtin "object.__setattr__"))
 ini:alongIn K "__init__" (.ref LE :: bmV)=some (some (.builtin "ValueError.__init__"))
 opq:nsIn K cStatics "thirdparty.any" = some none
theorem XK1.subs {K:Frag}{C LE:Addr}{fld:Str}{M:Model}{h:Heap}{b:Value}(x:XK1 K C LE fld)(X:K.In h)(hb:(Value.ref C :: .ref LE :: bmV).contains b=true):Looks M h (isSubtype (.ref C) b) true:=by
 obtain⟨cd,e,z⟩:=Option.map_eq_some_iff.mp x.mro
 refine looks_mroIn X ?_
 unfold mroIn
 rw[e]
 show (if cd.mro.isEmpty=true then none else some (cd.mro.contains b))=some true
 rw[z,hb];rfl
theorem XK1.mroL {K:Frag}{C LE:Addr}{fld:Str}{M:Model}{h:Heap}(x:XK1 K C LE fld)(X:K.In h):Looks M h (mroOf (.ref C)) (.ref C :: .ref LE :: bmV):=by
 obtain⟨cd,e,z⟩:=Option.map_eq_some_iff.mp x.mro
 rw[← z]
 exact(looks_clsIn X e).andThen .now
theorem XK1.store {K:Frag}{C LE:Addr}{fld:Str}{M:Model}{h:Heap}{init:Option Value}(x:XK1 K C LE fld)(X:K.In h)(q:xcIn K C init=true):StoreAt M h C LE fld :=
 ⟨x.mroL X,looks_findIn X x.no,looks_findIn X x.sa,x.subs X (by simp[bmV]),init,xc_at X q⟩
section
variable {prog:Program}{w:World}{A:Around}{E:Value→Shared→Prop}{s:Shared}
theorem callWith_mw {pos:Pos}{env:Env}{mw:Addr}{fn x:Value}{msg:Str}{kd:Nat}{p4:Pos}{Q:Value→Shared→Prop}(hmw:s.heap.get? mw=some { cls:=.type "method-wrapper",data:=.fields #[fn,x] })
  (k:∀tk,wpAny (model prog w) A (call (.ref mw) [.str msg tk]) Q E { s with toks:=s.toks+1 }) :
  wpAny (model prog w) A (callWith pos (.ref mw) [] (backTo pos (starEach [.Constant (.str msg) kd p4] env)) []) Q E s:=by
 unfold callWith
 refine wpAny_bind (wpAny_holding (wpAny_mono (Q:=fun (a:Args) s₁=>∃tk,a = ⟨[.str msg tk],[]⟩∧s₁ = { s with toks:=s.toks+1 }) ?_ (fun a s₁ ⟨tk,ha,hs⟩=>wpAny_bind (wpAny_standAt ?_)) fun _ _ z=>z))
 ·show wpAny (model prog w) A (evalArgs (.ref mw) true ((false,eval (.Constant (.str msg) kd p4) env) :: []) []) _ _ _
  refine Calls.evalArgs_plain (Calls.spliced_cons (Calls.Constant_str (k:=kd) (pos:=p4) ?_))
  exact Calls.spliced_nil ⟨_,rfl,rfl⟩
 ·subst ha hs
  simp only[stars_any (es:=[.Constant (.str msg) kd p4]) rfl,List.any_nil,Bool.or_false]
  refine wpAny_bind (m:=keeperOf (.ref mw)) ?_
  unfold keeperOf
  refine wpAny_bind (wpAny_load hmw ?_)
  dsimp only
  rw[if_pos (by decide)]
  refine wpAny_pure ?_
  rw[if_pos (by decide)]
  exact wpAny_bind (wpAny_mono (k tk) (fun r s₂ z=>wpAny_bind (wpAny_holding (wpAny_point (wpAny_pure z)))) fun _ _ z=>z)
end
structure ISc (sc:Scope) (par:Str):Prop where
 su:sc.names.lookup ("super":Str)=some .globalImplicit
 cl:sc.names.lookup ("__class__":Str)=some .free
 se:sc.names.lookup ("self":Str)=some .local
 pa:sc.names.lookup par=some .local
 nc:∀x∈sc.names,x.2 ≠ .cell
 co:sc.isCoroutine=false
 ge:sc.isGenerator=false
 ki:sc.kind = .function
 ns:(("self":Str) == par)=false
 db:(par == ("__debug__":Str))=false
section
variable {prog:Program}{w:World}{A:Around}{R:Result→Shared→Prop}{h:Heap}{g:Array GenState}{d:Drawn}{t:Nat}{os:OsState}
variable {K:Frag}{mg:Str→Option Value}{base:Heap}{f C LE e cda cc:Addr}{fld par nm qual msg file:Str}{ps:Arguments}{body:List Stmt}{sc:Scope}{kV doc pm ct oc ccl cl u:Value}{an od cdd cld:Option Addr}{osl ccs csl:Array (Option Value)}{cvs vs:Array Value}{tf:Tok}{init:Option Value}{oe:Obj}{t0:Addr}{ar:Arg}
 {a1 a2 a3 a4 a5 a6 b1 b2 b3 b4:Pos}{kd:Nat}{pl:Env→Sem Bool}
theorem xs_init (B:Mod K mg base)(kb:∀b o,base.get? b=some o→h.get? b=some o)(nb:base.get? e=none)(x1:XK1 K C LE fld)(q:xcIn K C init=true)(hroom:A.depth<recursionLimit)
  (lk:K.lookup f=some ⟨oc,od,.func (ksFn nm qual ps body sc .none kV doc pm an (.ref cda) ct cc),osl⟩) (hcd:codeIn K (.ref cda) qual=true) (hcode:K.lookup cda=some ⟨ccl,cdd,.fields cvs,ccs⟩) (hvs:cvs[2]? = some (.str file tf)) (hfile:((prog.main.file:Str) == file)=true)
  (hcell:K.lookup cc=some ⟨cl,cld,.cell (some (.ref C)),csl⟩) (hsu:mg "super" = none) (htop:(prog.main.scope.names.lookup ("super":Str)).isSome=false) (hboot:bootBuiltins "super" = some (.type "super"))
  (S:ISc sc par) (hp:(ps.posonlyargs ++ ps.args).head? = some ar) (har:ar.arg = "self") (hbind:bindArgs (ksFn nm qual ps body sc .none kV doc pm an (.ref cda) ct cc) ⟨[.ref e,u],[]⟩ = pure [(("self":Str),.ref e),(par,u)])
  (hb:body = [.Expr (.Call (.Attribute (.Call (.Name "super" a1) [] [] a2) "__init__" a3) [.Constant (.str msg) kd a4] [] a5) a6,.Assign [.Attribute (.Name "self" b1) fld b2] (.Name par b3) b4])
  (hev:∀env,eval (.Call (.Attribute (.Call (.Name "super" a1) [] [] a2) "__init__" a3) [.Constant (.str msg) kd a4] [] a5) env=(do
   let ov ← attributeBase (.Call (.Name "super" a1) [] [] a2) "__init__" env (eval (.Call (.Name "super" a1) [] [] a2) env)
   standAt a3.atName
   let (f,first) ← holding [ov] (getMethod ov "__init__" (pl env))
   callWith a5 f first (backTo a5 (starEach [.Constant (.str msg) kd a4] env)) []))
  (he:h.get? e=some oe) (hec:oe.cls = .ref C) (hed:oe.dict=none) (hef:oe.data = .fields vs) (h0:vs[0]? = some (.ref t0))
  (hq:∀h' t' dx T,h'.get? e=some { cls:=.ref C,dict:=some dx,data:=.fields (vs.setIfInBounds 0 (.ref T)),slots:=oe.slots }→h.objs.size≤dx→h'.Ns1 dx (fun y=>if y=fld then some u else none)→(∀b o,b≠e→h.get? b=some o→h'.get? b=some o)→R (.ok (.ret .none)) ⟨h',g,d,t',os⟩) :
  codeAny (model prog w) A (.call (.ref f) ⟨[.ref e,u],[]⟩) R ⟨h,g,d,t,os⟩:=by
 have X:K.In h:=B.kin.keeps kb
 refine ks_codeAny_call_defAt (s:=⟨h,g,d,t,os⟩) (binds:=[(("self":Str),.ref e),(par,u)]) hroom (X _ _ lk) rfl (B.nolimit.keeps kb) (codeRec_of X hcd) rfl (.of_eq hbind) S.nc (fun y hy=>?_) (fun h₀ hn k0=>?_) S.co S.ge S.ki
 ·simp only[List.mem_cons,List.mem_nil_iff,or_false]at hy
  rcases hy with rfl |rfl
  ·exact S.se
  ·exact S.pa
 have kb0:∀b o,base.get? b=some o→h₀.get? b=some o:=fun b o z=>k0 _ _ (kb _ _ z)
 have X0:K.In h₀:=B.kin.keeps kb0
 have e0:=k0 _ _ he
 have ms:(fun x=>([("self",.ref e),(par,u)]:List (Str×Value)).reverse.lookup x) ("self":Str)=some (.ref e):=by
  show ([(par,u),("self",.ref e)]:List (Str×Value)).lookup ("self":Str)=_
  rw[List.lookup_cons,S.ns];rfl
 have mp:(fun x=>([("self",.ref e),(par,u)]:List (Str×Value)).reverse.lookup x) par=some u:=by
  show ([(par,u),("self",.ref e)]:List (Str×Value)).lookup par=_
  rw[List.lookup_cons,beq_self_eq_true]
 obtain⟨mb,hb1,hb2⟩:=B.blt
 obtain⟨nmC,qnC,NC,bsC,bmC,snC,subC,abC,colC,ddC,k0C,k1C,k2C,k3C,k5C,mNC,hC,_,_,_⟩:=(xc_at X0 q).out
 have nfe:∀c,oe.data ≠ .cls c:=fun c z=>by rw[hef]at z;cases z
 have neC:e≠C:=fun z=>by
  subst z
  rw[e0]at hC;cases hC
  cases hef
 subst hb
 dsimp only
 generalize hE:(fun (e:Value) (s':Shared)=>wpAny (model prog w) _ (leaving _ e) (fun _ s''=>R (Except.error e) s'') (fun e' s''=>R (Except.error e') s'') s')=EX
 refine ks_wpAt_execs_cons ?_
 refine ks_wpAt_Expr_any ?_ (by show (sc.kind == .module && _)=false;rw[S.ki];rfl) rfl
 refine ks_wpAt_MethodCall ?_ (hev _)
 refine ks_wpAt_super_base (env:=ksEnv qual sc h.objs.size f (.ref cda) cc) (file:=file) (tf:=tf) S.su S.cl (by decide +kernel) rfl (X0 _ _ lk) rfl hp rfl (X0 _ _ hcode) rfl hvs hfile htop ?_
 refine ks_loadName_global S.ki S.su (Calls.loadGlobal_builtin (B.glob.keeps kb0) hsu (hb1.keeps kb0) ((hb2 _ (by decide +kernel)).trans hboot) ⟨rfl,?_⟩)
 refine wpAny_loadName_free S.ki S.cl rfl ⟨_,X0 _ _ hcell,rfl⟩ ?_
 rw[har]
 refine wpAny_loadName_local S.ki S.se hn ms ?_
 refine ks_wpAny_isType_cls hC rfl ⟨rfl,?_⟩
 refine ks_wpAny_call_super hC rfl e0 hec nfe (x1.subs X0 (by simp)) (fun h1 hso k1=>?_)
 have kb1:∀b o,base.get? b=some o→h1.get? b=some o:=fun b o z=>k1 _ _ (kb0 _ _ z)
 have X1:K.In h1:=B.kin.keeps kb1
 have e1:=k1 _ _ e0
 have inst:Looks (model prog w) h1 (isInstance (.ref e) (.type "ValueError")) true:=by
  unfold isInstance
  refine(looks_cls e1).andThen ?_
  rw[hec]
  exact x1.subs X1 (by simp[bmV])
 refine xs_getm (l:=.ref LE :: bmV) hso (looks_opaque X1 x1.opq) (x1.mroL X1) (by simp[List.dropWhile]) X1 x1.ini neC inst ?_
 generalize hmo:({ cls:=.type "method-wrapper",data:=.fields #[.builtin "ValueError.__init__",.ref e] }:Obj)=mo
 have m2:(h1.push mo).get? h1.objs.size=some mo:=Heap.get?_push_size _ (by rw[← hmo];rfl)
 have k2:∀b o,h.get? b=some o→(h1.push mo).get? b=some o:=fun b o z=>Heap.get?_push_of_some _ (k1 _ _ (k0 _ _ z))
 have e2:=k2 _ _ he
 have X2:K.In (h1.push mo):=B.kin.keeps fun b o z=>Heap.get?_push_of_some _ (kb1 _ _ z)
 refine callWith_mw (mw:=h1.objs.size) (fn:=.builtin "ValueError.__init__") (x:=.ref e) (by rw[hmo];exact m2) fun tk=>?_
 refine xs_run (by rw[hmo];exact m2) (xc_at X2 q) hec e2 hef h0 fun h3 T zT z1 z2=>?_
 have kb3:∀b o,base.get? b=some o→h3.get? b=some o:=fun b o z=>z2 _ _ (fun y=>by rw[y,nb]at z;cases z) (Heap.get?_push_of_some _ (kb1 _ _ z))
 have X3:K.In h3:=B.kin.keeps kb3
 have hn3:h3.Ns h.objs.size (fun x=>([("self",.ref e),(par,u)]:List (Str×Value)).reverse.lookup x):=by
  obtain⟨o,es,ep,ho,r⟩:=hn
  refine⟨o,es,ep,z2 _ _ (fun y=>?_) (Heap.get?_push_of_some _ (k1 _ _ ho)),r⟩
  have z:=Heap.lt_size he
  rw[← y]at z
  exact absurd z (Nat.lt_irrefl _)
 show PySem.wpAt _ _ _ (execs [.Assign [.Attribute (.Name "self" b1) fld b2] (.Name par b3) b4] _) _ _ _
 refine ks_wpAt_execs_cons (ks_wpAt_Assign_Attr (wpAt_of_wpAny (wpAny_Name (wpAny_loadName_local S.ki S.pa hn3 mp ?_) S.db)) rfl)
 refine wpAny_Name (wpAny_loadName_local S.ki S.se hn3 ms ?_) (by decide +kernel)
 have dm:=Obj.data_mapFields hef (·.setIfInBounds 0 (Value.ref T))
 refine xs_set (x1.store X3 q) z1 ((Obj.cls_mapFields _ _).trans hec) ((dict_mapF _ _).trans hed) dm fun h4 t4 dx y1 y2 y3 y4=>?_
 refine wpAt_of_wpAny (wpAny_execs_nil ?_)
 have y2':h4.get? e=some { cls:=.ref C,dict:=some dx,data:=.fields (vs.setIfInBounds 0 (.ref T)),slots:=oe.slots }:=by
  rw[y2,Obj.cls_mapFields,hec,dm]
  obtain⟨oc',od',odt',osl'⟩:=oe
  cases odt' <;> rfl
 exact hq h4 t4 dx T y2' (Nat.le_trans (Nat.le_of_lt hn3.lt) y1) y3 fun b o nb' z=>y4 _ _ nb' (z2 _ _ nb' (k2 _ _ z))
end
section
variable {prog:Program}{w:World}{A:Around}{E:Value→Shared→Prop}{h:Heap}{g:Array GenState}{d:Drawn}{t:Nat}{os:OsState}{C fI:Addr}{oI:Obj}{u:Value}
theorem xs_tcall {Q:Fin→Shared→Prop}(xa:XAt h C (some (.ref fI)))(hf:h.get? fI=some oI)(hfc:oI.cls = .type "function")
  (hq:∀h' e,Heap.MadeExcOf h h' e (.ref C) [u]→wpAny (model prog w) A (call (.ref fI) [.ref e,u]) (fun r s'=>r = .none∧Q (.done (.ret (.ref e))) s') E ⟨h',g,d,t,os⟩) :
  wpAny (model prog w) A (Builtin.«type.__call__» ⟨[.ref C,u],[]⟩) Q E ⟨h,g,d,t,os⟩:=by
 obtain⟨nm,qn,N,bs,bm,sn,sub,ab,col,dd,k0,k1,k2,k3,k5,mN,hC,hN,hi,T⟩:=xa.out
 have F:=PySem.F.excBase_ValueError
 repeat (first |with_reducible refine wpAny_loadPart_at hC ?_ |with_reducible refine wpAny_madeBy_exc hC ?_ |wp_step)
 refine codeAny_call_builtin_code (Code.quiet_builtin _ F.quiet) (wpAny_check_new_subU F (by decide +kernel) T hC ?_)
 refine codeAny_exc_new_subU (rest:=[u]) F (by decide +kernel) F T hC ?_ (by show 1≤sizeLine;decide)
 show wpAny _ _ _ _ _ _
 generalize hh:(h.push { cls:=.type "tuple",data:=.seq [u].toArray }).push { cls:=.ref C,data:=.fields #[.ref h.objs.size,.none,.none,.none,.bool false,.none] } = h2
 have up:∀b o,h.get? b=some o→h2.get? b=some o:=fun b o z=>by rw[← hh];exact Heap.get?_push_of_some _ (Heap.get?_push_of_some _ z)
 have ge:h2.get? (h.objs.size+1)=some { cls:=.ref C,data:=.fields #[.ref h.objs.size,.none,.none,.none,.bool false,.none] }:=by rw[← hh];heap_get
 have gt:h2.get? h.objs.size=some { cls:=.type "tuple",data:=.seq [u].toArray }:=by rw[← hh];exact Heap.get?_push_of_some _ (Heap.get?_push_at rfl rfl)
 have cC:(Value.ref C :: bm).contains (.ref C)=true:=by simp
 have C2:=up _ _ hC
 unfold isInstance
 repeat (first |with_reducible refine wpAny_loadPart_at ge ?_ | (with_reducible refine wpAny_isSubtype_exc C2 ?_;rw[cC]) |wp_step)
 show wpAny _ _ (typeLookup (.ref C) _) _ _ _
 refine wpAny_typeLookup_tail C2 (hN.keeps up) (T.keeps up) F.mroIs F.init.lookup ?_
 rw[hi]
 refine wpAny_holding (wpAny_bind ?_)
 unfold bindSpecial
 refine wpAny_bind (wpAny_typeOf (T:="function") ⟨_,up _ _ hf,hfc⟩ ?_)
 rw[if_pos (by decide)]
 refine wpAny_pure (wpAny_bind (wpAny_mono (hq h2 (h.objs.size+1) ⟨up,Heap.get?_none_of_le (Nat.le_succ _),h.objs.size,ge,Heap.get?_none_of_le (Nat.le_refl _),gt⟩) (fun r s' z=>?_) fun _ _ z=>z))
 obtain⟨rfl,z⟩:=z
 wp_walk
 exact z
theorem xs_call {Q:Value→Shared→Prop}(xa:XAt h C (some (.ref fI)))(hf:h.get? fI=some oI)(hfc:oI.cls = .type "function")
  (hq:∀h' e,Heap.MadeExcOf h h' e (.ref C) [u]→wpAny (model prog w) (A.under (.builtin "type.__call__" ⟨[.ref C,u],[]⟩)) (call (.ref fI) [.ref e,u]) (fun r s'=>r = .none∧Q (.ref e) s') E ⟨h',g,d,t,os⟩) :
  wpAny (model prog w) A (call (.ref C) [u]) Q E ⟨h,g,d,t,os⟩:=by
 obtain⟨nm,qn,N,bs,bm,sn,sub,ab,col,dd,k0,k1,k2,k3,k5,mN,hC,_,_,_⟩:=xa.out
 have f1:=tc_lookup
 have f2:=tc_bind (.ref C)
 have ty:(⟨h,g,d,t,os⟩:Shared).TypeIs (.ref C) "type":=⟨_,hC,rfl⟩
 refine wpAny_call (codeAny_of_tree ?_)
 show wpAny _ _ (callAny (.ref C) _) _ _ _
 repeat (any_goals (first |assumption |with_reducible refine wpAny_loadPart_at hC ?_ |wp_step))
 refine⟨rfl,?_⟩
 exact codeAny_call_builtin_at (Code.quiet_builtin _ (by decide +kernel)) entry_typeCall (wpAny_check_type_call_sub hC (xs_tcall xa hf hfc fun h' e me=>hq h' e me))
end
structure XIni (prog:Program) (K:Frag) (C LE fI:Addr) (fld:Str):Prop where
 x1:XK1 K C LE fld
 xc:xcIn K C (some (.ref fI))=true
 kp:keepIn K (.ref C)=true
 su:nsIn K mainGlobals "super" = some none
 top:(prog.main.scope.names.lookup ("super":Str)).isSome=false
 ex:∃(nm qual par msg file:Str) (ps:Arguments) (body:List Stmt) (sc:Scope) (kV doc pm ct ccl cl:Value) (an od cdd cld:Option Addr) (osl ccs csl:Array (Option Value)) (cvs:Array Value) (tf:Tok) (ar:Arg) (cda cc:Addr)
  (a1 a2 a3 a4 a5 a6 b1 b2 b3 b4:Pos) (kd:Nat) (pl:Env→Sem Bool),
  K.lookup fI=some ⟨.type "function",od,.func (ksFn nm qual ps body sc .none kV doc pm an (.ref cda) ct cc),osl⟩∧codeIn K (.ref cda) qual=true∧K.lookup cda=some ⟨ccl,cdd,.fields cvs,ccs⟩∧cvs[2]? = some (.str file tf)∧((prog.main.file:Str) == file)=true ∧
  K.lookup cc=some ⟨cl,cld,.cell (some (.ref C)),csl⟩∧ISc sc par∧(ps.posonlyargs ++ ps.args).head? = some ar∧ar.arg = "self"∧(∀e u:Value,bindArgs (ksFn nm qual ps body sc .none kV doc pm an (.ref cda) ct cc) ⟨[e,u],[]⟩ = pure [(("self":Str),e),(par,u)]) ∧
  body = [.Expr (.Call (.Attribute (.Call (.Name "super" a1) [] [] a2) "__init__" a3) [.Constant (.str msg) kd a4] [] a5) a6,.Assign [.Attribute (.Name "self" b1) fld b2] (.Name par b3) b4] ∧
  ∀env,eval (.Call (.Attribute (.Call (.Name "super" a1) [] [] a2) "__init__" a3) [.Constant (.str msg) kd a4] [] a5) env=(do
   let ov ← attributeBase (.Call (.Name "super" a1) [] [] a2) "__init__" env (eval (.Call (.Name "super" a1) [] [] a2) env)
   standAt a3.atName
   let (f,first) ← holding [ov] (getMethod ov "__init__" (pl env))
   callWith a5 f first (backTo a5 (starEach [.Constant (.str msg) kd a4] env)) [])
noncomputable def tRaise1 (C:Addr)(fld:Str)(XR:St→XK)(t:TA):TS:=fun _ σ H=>t σ H fun vs H1=>∃v,vs = [v]∧∀dx,H1 dx=none→XR σ (.ref C) (some dx) (upd H1 dx (.xd [(fld,v)]))
section
variable {X:Cx}{C LE fI:Addr}{fld x:Str}{XR:St→XK}{np cpos pos:Pos}{e:Expr}{t:TA}
theorem qs_raise1 (hx:Px X XR)(hc:X.calm=true)(hr:Room 2 X.A)(hg:Gl X x)(hm:X.mg x=some (.ref C))(Z:XIni X.prog X.K C LE fI fld)(ha:PAs X [e] t)(hst:notStar e=true)(hdb:(x == ("__debug__":Str))=false) :
  PSw X (.Raise (some (.Call (.Name x np) [e] [] cpos)) none pos) (tRaise1 C fld XR t):=by
 refine⟨fun pins s σ H D I h=>?_⟩
 rw[arm_exec_Raise]
 simp only[evalOpt,Option.map]
 refine wpAny_bind (wpAny_standAt (raise_made (C:=C) (init:=some (.ref fI)) (I.ok.hd hc) ?_))
 refine wpAny_bind (wpAny_mono (Q:=fun v s₁=>∃e oe vs,v = .ref e∧XAt s₁.heap C (some (.ref fI))∧s₁.heap.get? e=some oe∧oe.cls = .ref C∧oe.data = .fields vs∧vs[1]? = some .none∧X.xe (.ref e) s₁) ?_ (fun v s₃ h₃=>wpAny_bind (wpAny_standAt (wpAny_pure h₃))) fun _ _ z=>z)
 refine wpAny_Call_Name_kw (ld_glob I hg hm ?_ hdb)
 refine callWith_K (h₀:=X.base) I.ok.mod.kin Z.kp (thn (ha.run cpos pins s σ H _ I h) fun us s1 ⟨vs,H1,I1,r,v,hv,q⟩=>⟨I1.kIn,?_⟩) (star_ne hst) rfl
 subst hv
 obtain⟨u,rfl,rv⟩:∃u,us = [u]∧RelV v u:=by
  cases r with
  | cons a b=>cases b;exact⟨_,rfl,a⟩
 obtain⟨nm,qual,par,msg,file,ps,body,sc,kV,doc,pm,ct,ccl,cl,an,od,cdd,cld,osl,ccs,csl,cvs,tf,ar,cda,cc,a1,a2,a3,a4,a5,a6,b1,b2,b3,b4,kd,pl,z1,z2,z3,z4,z5,z6,z7,z8,z9,z10,z11,z12⟩:=Z.ex
 obtain⟨hh,g,d,t1,os⟩:=s1
 have hk:∀b o,X.base.get? b=some o→hh.get? b=some o:=I1.bk
 refine xs_call (xc_at I1.kIn Z.xc) (I1.kIn _ _ z1) rfl fun h1 e1 me=>?_
 obtain⟨tp,q1,q2,q3⟩:=me.there
 have nb:X.base.get? e1=none:=by
  cases zz:X.base.get? e1 with
  | none=>rfl
  | some o=>have:=hk _ _ zz;rw[me.new]at this;cases this
 have hsu:X.mg "super" = none:=mg_none_of I1.ok.mod.kin I1.ok.mod.glob Z.su
 refine wpAny_call (codeAny_mono (R:=fun r s'=>r = .ok (.ret .none)∧∃e oe vs,Value.ref e1 = .ref e∧XAt s'.heap C (some (.ref fI))∧s'.heap.get? e=some oe∧oe.cls = .ref C∧oe.data = .fields vs∧vs[1]? = some .none∧X.xe (.ref e) s') (xs_init (base:=X.base) (par:=par) (fld:=fld) (LE:=LE) (C:=C) I1.ok.mod (fun b o z=>me.keeps _ _ (hk _ _ z)) nb Z.x1 Z.xc (hr.make C [u] []).depth z1 z2 z3 z4 z5 z6 hsu Z.top (by decide +kernel) z7 z8 z9 (z10 _ _) z11 z12 q1 rfl rfl rfl rfl fun h2 t2 dx T y1 y2 y3 y4=>⟨rfl,e1,_,_,rfl,?_,y1,rfl,rfl,rfl,?_⟩) ?_)
 ·exact(xc_at I1.kIn Z.xc).keeps fun b o z=>y4 _ _ (fun y=>by rw[y]at z;rw[me.new]at z;cases z) (me.keeps _ _ z)
 ·have kk:∀b o,hh.get? b=some o→h2.get? b=some o:=fun b o z=>y4 _ _ (fun y=>by rw[y,me.new]at z;cases z) (me.keeps _ _ z)
  have d1:h1.get? dx=none:=Heap.get?_none_of_le y2
  have d0:hh.get? dx=none:=by
   cases zz:hh.get? dx with
   | none=>rfl
   | some o=>have:=me.keeps _ _ zz;rw[d1]at this;cases this
  have Hd:H1 dx=none:=I1.hok.none d0
  have He:H1 e1=none:=I1.hok.none me.new
  have ed:e1≠dx:=fun y=>by rw[← y,q1]at d1;cases d1
  have ne:∀b o,H1 b=some o→b≠dx:=fun b o z y=>by rw[y,Hd]at z;cases z
  have hun:Un (frs X.stack) [] H1 (upd H1 dx (.xd [(fld,v)])) hh h2:=by
   refine⟨fun b o z _ _ _=>kk b o z,fun b o z _ _ _=>⟨o.slots,kk b o z⟩,fun b o z n _=>?_,fun b o z _=>⟨o,kk b o z⟩,fun b xs z=>?_,fun b o xs z=>?_,fun b ps z=>⟨#[],?_⟩⟩
   ·rw[upd_ne (fun y=>by rw[y,d0]at z;cases z)];exact n
   ·rw[upd_ne (ne _ _ z)];exact z
   ·rw[upd_ne (ne _ _ z)];exact z
   ·rw[upd_ne (ne _ _ z),z];simp
  have hho:HOk X.prog X.w (upd H1 dx (.xd [(fld,v)])) h2:=fun b o z=>by
   by_cases hb:b=dx
   ·subst hb
    rw[upd_same]at z
    cases z
    refine⟨_,y3,fun f=>?_⟩
    show RelO (([(fld,v)]:List (Str×V)).lookup f) _
    rw[List.lookup_cons]
    by_cases hf:f=fld
    ·subst hf;simp only[beq_self_eq_true,if_true];exact rv
    ·have:(f == fld)=false:=by simpa using hf
     rw[this,if_neg hf];exact trivial
   ·rw[upd_ne hb]at z
    exact(I1.hok b o z).stay (fun c w' _ y=>kk c w' y) (fun c y=>by rw[upd_ne (ne _ _ y)];exact y) fun c xs y=>by rw[upd_ne (ne _ _ y)];exact y
  exact hx pins σ H1 ⟨hh,g,d,t1,os⟩ (.ref e1) ⟨h2,g,d,t2,os⟩ I1 ⟨e1,.ref C,some dx,_,rfl,rfl,I1.bare,hun,hho,⟨me.new,by rw[upd_ne ed];exact He⟩,⟨_,_,y1,rfl,rfl,rfl,by simp,.inl ⟨rfl,rfl⟩⟩,q dx Hd⟩
 ·rintro _ s' ⟨rfl,z⟩
  exact⟨rfl,z⟩
end
section
variable {prog:Program}{w:World}{A:Around}{E:Value→Shared→Prop}{h:Heap}{g:Array GenState}{d:Drawn}{t:Nat}{os:OsState}{a C LE dx:Addr}{o:Obj}{vs:Array Value}{name:Str}{v:Value}{mA:Str→Option Value}
theorem ld_at {M:Model}{Q:Obj→Shared→Prop}(ho:h.get? a=some o)(hq:Q o ⟨h,g,d,t,os⟩):wpAny M A (load a) Q E ⟨h,g,d,t,os⟩:=wpAny_load ho hq
theorem nsg_at {M:Model}{Q:Option Value→Shared→Prop}(hn:h.Ns1 dx mA)(hm:mA name=some v)(hq:Q (some v) ⟨h,g,d,t,os⟩):wpAny M A (nsGet dx name) Q E ⟨h,g,d,t,os⟩:=wpAny_nsGet hn.ns (by rw[hm];exact hq)
theorem xa_entry {init:Option Value}{tk:Tok}{Q:Fin→Shared→Prop}(xa:XAt h C init)(no:Looks (model prog w) h (typeLookup (.ref C) name) none)(hx:h.get? a=some o)(hc:o.cls = .ref C)(hd:o.data = .fields vs)(hdx:o.dict=some dx)(hn:h.Ns1 dx mA)(hm:mA name=some v)
  (hq:Q (.done (.ret v)) ⟨h,g,d,t,os⟩):wpAny (model prog w) A (Builtin.«object.__getattribute__» ⟨[.ref a,.str name tk],[]⟩) Q E ⟨h,g,d,t,os⟩:=by
 obtain⟨oc,od,odt,osl⟩:=o
 dsimp only at hc hd hdx
 subst hc hd hdx
 obtain⟨nm,qn,N,bs,bm,sn,sub,ab,col,dd,k0,k1,k2,k3,k5,mN,hC,_,_,_⟩:=xa.out
 repeat (any_goals (first |assumption | (with_reducible refine wpAny_loadPart_at hx ?_) | (with_reducible refine ld_at hC ?_) | (with_reducible refine nsg_at hn hm ?_) | (with_reducible refine Looks.at no ?_) |wp_step))
structure GetAt (M:Model) (h:Heap) (C:Addr):Prop where
 ga:Looks M h (typeLookup (.ref C) "__getattribute__") (some (.builtin "BaseException.__getattribute__"))
 gn:Looks M h (typeLookup (.ref C) "__getattr__") none
 be:Looks M h (isSubtype (.ref C) (.type "BaseException")) true
 ob:Looks M h (isSubtype (.ref C) (.type "object")) true
 kc:Looks M h (typeLookup (.ref C) "__class__") (some (.builtin "object.__class__"))
theorem xa_chk {M:Model}{n:Value}{Q:Unit→Shared→Prop}(G:GetAt M h C)(hx:h.get? a=some o)(hc:o.cls = .ref C)(hq:Q () ⟨h,g,d,t,os⟩):wpAny M A (checkBuiltinCall "BaseException.__getattribute__" ⟨[.ref a,n],[]⟩) Q E ⟨h,g,d,t,os⟩:=by
 have kd:builtinKind "BaseException.__getattribute__" = some .slot:=by decide +kernel
 have sp:splitId "BaseException.__getattribute__" = some ("BaseException","__getattribute__"):=by decide +kernel
 have be:=G.be
 simp only[checkBuiltinCall,kd,sp]
 refine wpAny_bind ?_
 unfold isInstance
 repeat (first | (with_reducible refine wpAny_loadPart_at hx ?_;rw[hc]) | (with_reducible refine Looks.at be ?_) |wp_step)
 exact hq
theorem xa_by {tk:Tok}{fill expr:Bool}{Q:Value→Shared→Prop}(hv:handedOut v=pure v)(G:GetAt (model prog w) h C)(hx:h.get? a=some o)(hc:o.cls = .ref C)
  (hq:∀A',codeAny (model prog w) A' (.call (.builtin "BaseException.__getattribute__") ⟨[.ref a,.str name tk],[]⟩) (fun r s'=>r = .ok (.ret v)∧Q v s') ⟨h,g,d,t,os⟩) :
  wpAny (model prog w) A (getAttrBy (.ref a) (.str name tk) fill expr) Q E ⟨h,g,d,t,os⟩:=by
 have FB:=PySem.F.attr_ValueError
 have f3:=FB.ga.bind (.ref a)
 have z0:(expr && onTheHeap (Value.builtin "BaseException.__getattribute__"))=false:=by cases expr <;> rfl
 have z2:(Value.builtin "BaseException.__getattribute__" == Value.builtin "object.__getattribute__")=false:=by decide +kernel
 have z1:(onTheHeap (Value.ref C) && Value.builtin "BaseException.__getattribute__" == Value.builtin "object.__getattribute__")=false:=by rw[z2];rfl
 have ga:=G.ga
 have gn:=G.gn
 repeat (any_goals (first |assumption | (with_reducible refine wpAny_loadPart_at hx ?_;rw[hc]) | (with_reducible refine Looks.at ga ?_) | (with_reducible refine Looks.at gn ?_) |wp_step))
 refine codeAny_mono (hq _) fun r s' ⟨z,q⟩=>?_
 subst z
 show wpAny _ _ (handedOut v) _ _ _
 rw[hv]
 exact wpAny_pure q
theorem xa_fld {init:Option Value}{expr:Bool}{Q:Value→Shared→Prop}(hv:handedOut v=pure v)(G:GetAt (model prog w) h C)(xa:XAt h C init)(no:Looks (model prog w) h (typeLookup (.ref C) name) none)(hx:h.get? a=some o)(hc:o.cls = .ref C)(hd:o.data = .fields vs)(hdx:o.dict=some dx)(hn:h.Ns1 dx mA)(hm:mA name=some v)
  (hq:Q v ⟨h,g,d,t+1,os⟩):wpAny (model prog w) A (getAttr (.ref a) name expr) Q E ⟨h,g,d,t,os⟩:=by
 unfold getAttr
 refine wpAny_bind (wpAny_mkText ?_)
 refine xa_by (v:=v) hv G hx hc fun A'=>?_
 exact codeAny_call_builtin PySem.F.attr_ValueError.ga.plain PySem.F.entry_bexc_ga (xa_chk G hx hc (xa_entry xa no hx hc hd hdx hn hm ⟨rfl,hq⟩))
theorem xa_ce {tk:Tok}{Q:Fin→Shared→Prop}(G:GetAt (model prog w) h C)(hx:h.get? a=some o)(hc:o.cls = .ref C)(hd:o.data = .fields vs)
  (hq:Q (.done (.ret (.ref C))) ⟨h,g,d,t,os⟩):wpAny (model prog w) A (Builtin.«object.__getattribute__» ⟨[.ref a,.str "__class__" tk],[]⟩) Q E ⟨h,g,d,t,os⟩:=by
 have ty:(⟨h,g,d,t,os⟩:Shared).TypeIs (.builtin "object.__class__") "getset_descriptor":=PySem.F.typeOf_object_class
 have f5:=PySem.F.typeOf_object_class
 have f6:=PySem.F.slot_gs_get.lookup
 have f7:=PySem.F.slot_gs_set.lookup
 have kc:=G.kc
 repeat (any_goals (first |assumption | (with_reducible refine wpAny_loadPart_at hx ?_;rw[hc]) | (with_reducible refine Looks.at kc ?_) |wp_step))
 have ow:(".".intercalate ("object.__class__".cutAt '.').dropLast) = "object":=by kernel_rfl
 have ob:=G.ob
 rw[← ow]at ob
 refine codeAny_call_builtin PySem.F.slot_gs_get.plain PySem.F.entry_gs_get (PySem.F.slot_gs_get.check _ _ _ _ _ _ _ _ ty (PySem.F.args_gs_get _ _ _) ?_)
 repeat (any_goals (first |assumption | (with_reducible refine wpAny_loadPart_at hx ?_;rw[hc]) | (with_reducible refine Looks.at ob ?_) |wp_step))
 refine⟨Code.quiet_builtin _ (by decide +kernel),codeAny_builtin PySem.F.entry_object_class ?_⟩
 unfold Builtin.«object.__class__»
 repeat (any_goals (first |assumption | (with_reducible refine wpAny_loadPart_at hx ?_;rw[hc]) |wp_step))
theorem xa_cls {Q:Option Value→Shared→Prop}(G:GetAt (model prog w) h C)(hx:h.get? a=some o)(hc:o.cls = .ref C)(hd:o.data = .fields vs)(hq:Q (some (.ref C)) ⟨h,g,d,t+1,os⟩) :
  wpAny (model prog w) A (getAttr? (.ref a) "__class__") Q E ⟨h,g,d,t,os⟩:=by
 unfold getAttr? getAttrBy?
 refine wpAny_bind (wpAny_mkText (wpAny_bind (wpAny_attempt ?_)))
 refine xa_by (v:=.ref C) rfl G hx hc fun A'=>?_
 exact codeAny_call_builtin PySem.F.attr_ValueError.ga.plain PySem.F.entry_bexc_ga (xa_chk G hx hc (xa_ce G hx hc hd ⟨rfl,wpAny_pure hq⟩))
end
structure XG (K:Frag) (C:Addr):Prop where
 cl:∃cd,clsIn K C=some cd
 ga:findIn K (.ref C) "__getattribute__" = some (some (.builtin "BaseException.__getattribute__"))
 gn:findIn K (.ref C) "__getattr__" = some none
 kc:findIn K (.ref C) "__class__" = some (some (.builtin "object.__class__"))
 be:mroIn K C (.type "BaseException")=some true
 ob:mroIn K C (.type "object")=some true
theorem XG.at_ {K:Frag}{C:Addr}{M:Model}{h:Heap}(x:XG K C)(X:K.In h):GetAt M h C:=⟨looks_findIn X x.ga,looks_findIn X x.gn,looks_mroIn X x.be,looks_mroIn X x.ob,looks_findIn X x.kc⟩
theorem kitx_exc {K:Frag}{a C:Addr}{dx:Option Addr}(x:XG K C):KitX K (.ref a) (.ref C) (ExcIs a (.ref C) dx) where
 ty:=fun M h X ⟨oe,vs,q,c,_⟩=>by rw[← c];exact looks_cls q
 it:=fun M h X _=>by
  obtain⟨cd,e⟩:=x.cl
  unfold clsIn at e
  split at e
  ·rename_i ho
   intro A' Q' E' s' k q
   unfold isType loadHead
   exact wpAny_bind (wpAny_loadPart (k _ _ (X _ _ ho)) (wpAny_pure q))
  ·cases e
 ne:=fun h tp dd its n sl X htp=>by
  obtain⟨cd,e⟩:=x.cl
  refine Bool.eq_false_iff.mpr fun q=>?_
  have z:C=tp:=Value.ref.inj (beq_iff_eq.mp q)
  subst z
  unfold clsIn at e
  split at e
  ·rename_i ho
   have z:=(X _ _ ho).symm.trans htp
   cases z
  ·cases e
 ca:=fun {_ _ _ _ _ s} X ⟨oe,vs,q,c,_,f⟩ k=>by
  obtain⟨h,g,d,t,os⟩:=s
  exact xa_cls (x.at_ X) q c f k
inductive TyX (K:Frag) (H:Hp):V→Value→Prop
 | std {x:V}{T:String}(h:TyS K H x T):TyX K H x (.type T)
 | exc {a C:Addr}{dx:Option Addr}(h:H a=some (.ext (ExcIs a (.ref C) dx))) (g:XG K C):TyX K H (.ref a) (.ref C)
noncomputable def cV:V→Option Value
 | .ty n=>some (.type n)
 | .ref C=>some (.ref C)
 | _=>none
noncomputable def rIsiX (K:Frag):List V→Hp→VK→Prop:=fun xs H Q=>∃x c tv cv b,xs = [x,c]∧TyX K H x tv∧cV c=some cv∧kitOne K tv cv=some b∧Q (.bl b) H
section
variable {X:Cx}
theorem cn_isiX:CallR X (.builtin "isinstance") (rIsiX X.K):=by
 intro pins s σ H xs us Q I r h
 obtain⟨x,c,tv,cv,b,rfl,ty,hc,e,q⟩:=h
 obtain⟨u,w,rfl,ru,rw_⟩:=vals2 r
 obtain rfl:w=cv:=by
  cases c with
  | ty n=>cases hc;exact rw_
  | ref C=>cases hc;exact rw_
  | _=>cases hc
 have fin:∀tk,EP X pins σ Q (.bool b) { s with toks:=tk }:=fun tk=>⟨.bl b,H,I.tok tk,rfl,q⟩
 cases ty with
 | std ty =>
  cases ty with
  | non=>cases ru;exact kia_one kitx_none I.kIn True.intro e (fun z=>nomatch z) fin
  | bl y=>cases ru;exact kia_one kitx_bool I.kIn True.intro e (fun z=>nomatch z) fin
  | int i=>obtain⟨t,rfl⟩:=ru;exact kia_one kitx_int I.kIn True.intro e (fun z=>nomatch z) fin
  | str y=>obtain⟨t,rfl⟩:=ru;exact kia_one kitx_str I.kIn True.intro e (fun z=>nomatch z) fin
  | lst hq =>
   cases ru
   obtain⟨its,_,⟨o,nn,e1,e2,_⟩,_⟩:=I.list hq
   exact kia_one kitx_list I.kIn ⟨o,e1,e2⟩ e (fun z=>nomatch z) fin
  | tup hq =>
   cases ru
   obtain⟨its,_,⟨o,e1,e2,_⟩,_⟩:=I.tuple hq
   exact kia_one kitx_tuple I.kIn ⟨o,e1,e2⟩ e (fun z=>nomatch z) fin
  | @dk a kvs hq =>
   cases ru
   obtain⟨_,_,vs,_,o,es,ep,h1,h2,_⟩:=(show ObjOk X.prog X.w H s.heap a (.dK kvs)from I.hok a _ hq)
   exact kia_one kitx_dict I.kIn ⟨o,h1,h2.1⟩ e (fun z=>nomatch z) fin
 | @exc a C dx hq g =>
  cases ru
  have z:ExcIs a (.ref C) dx s.heap:=(I.hok a _ hq).1
  exact kia_one (kitx_exc g) I.kIn z e (fun z=>nomatch z) fin
noncomputable def tXAt (K:Frag)(ta:TE)(f:Str):TE:=fun σ H Q=>ta σ H fun x H1=>∃a C dx fs v init,x = .ref a∧H1 a=some (.ext (ExcIs a (.ref C) (some dx)))∧XG K C∧xcIn K C init=true∧findIn K (.ref C) f=some none∧H1 dx=some (.xd fs)∧fs.lookup f=some v∧Q v H1
variable {e:Expr}{ta:TE}{f:Str}{pos:Pos}
theorem handed_rel {v:V}{u:Value}(r:RelV v u):handedOut u=pure u:=by
 cases v with
 | non=>cases r;rfl
 | bl b=>cases r;rfl
 | int i=>obtain⟨t,rfl⟩:=r;rfl
 | str x=>obtain⟨t,rfl⟩:=r;rfl
 | byt b=>obtain⟨t,rfl⟩:=r;rfl
 | flt b=>obtain⟨t,rfl⟩:=r;rfl
 | ref a=>cases r;rfl
 | ty n=>cases r;rfl
theorem pe_xat (he:PE X e ta)(hb:attributeBase e f X.env (eval e X.env)=eval e X.env):PE X (.Attribute e f pos) (tXAt X.K ta f):=by
 intro pins s σ H Q I h
 refine attr_of hb (thn (he pins s σ H _ I h) fun u s1 ⟨x,H1,I1,rx,a,C,dx,fs,v,init,ex,ea,g,xc,nf,ed,l,q⟩=>?_)
 subst ex
 obtain rfl:u=Value.ref a:=rx
 obtain⟨oe,vs,q0,q1,q2,q3⟩:=(I1.hok a _ ea).1
 obtain⟨mA,n1,rel⟩:∃mA,s1.heap.Ns1 dx mA∧∀f,RelO (fs.lookup f) (mA f):=I1.hok dx _ ed
 have rf:=rel f
 rw[l]at rf
 cases hm:mA f with
 | none=>rw[hm]at rf;exact rf.elim
 | some uv =>
  rw[hm]at rf
  have rf':RelV v uv:=rf
  obtain⟨hh,gg,d,t,os⟩:=s1
  exact xa_fld (handed_rel rf') (g.at_ I1.kIn) (xc_at I1.kIn xc) (looks_findIn I1.kIn nf) q0 q1 q3 q2 n1 hm ⟨v,H1,I1.tok _,rf',q⟩
end
noncomputable def xgIn (K:Frag)(C:Addr):Bool:=(clsIn K C).isSome && (findIn K (.ref C) "__getattribute__" == some (some (.builtin "BaseException.__getattribute__")) && (findIn K (.ref C) "__getattr__" == some none && (findIn K (.ref C) "__class__" == some (some (.builtin "object.__class__")) && (mroIn K C (.type "BaseException") == some true && mroIn K C (.type "object") == some true))))
theorem xg_of {K:Frag}{C:Addr}(h:xgIn K C=true):XG K C:=by
 unfold xgIn at h
 simp only[Bool.and_eq_true,beq_iff_eq]at h
 obtain⟨a,b,c,d,e,f⟩:=h
 exact⟨Option.isSome_iff_exists.mp a,b,c,d,e,f⟩
noncomputable def xk1In (K:Frag)(C LE:Addr)(fld:Str):Bool:=(clsIn K C).map (·.mro) == some (.ref C :: .ref LE :: bmV) && (findIn K (.ref C) fld == some none && (findIn K (.ref C) "__setattr__" == some (some (.builtin "object.__setattr__")) && (alongIn K "__init__" (.ref LE :: bmV) == some (some (.builtin "ValueError.__init__")) && nsIn K cStatics "thirdparty.any" == some none)))
theorem xk1_of {K:Frag}{C LE:Addr}{fld:Str}(h:xk1In K C LE fld=true):XK1 K C LE fld:=by
 unfold xk1In at h
 simp only[Bool.and_eq_true,beq_iff_eq]at h
 obtain⟨a,b,c,d,e⟩:=h
 exact⟨a,b,c,d,e⟩
structure IBody (st:Stmt) (fld par:Str):Prop where
 sc:ISc (defScope st) par
 se:∃ar,((defArgs st).posonlyargs ++ (defArgs st).args).head? = some ar∧ar.arg = "self"
 bd:∀(nm qual:Str) (kV doc pm:Value) (an:Option Addr) (cda:Value) (ct:Value) (cc:Addr) (e u:Value),bindArgs (ksFn nm qual (defArgs st) (defBody st) (defScope st) .none kV doc pm an cda ct cc) ⟨[e,u],[]⟩ = pure [(("self":Str),e),(par,u)]
 tx:∃(msg:Str) (a1 a2 a3 a4 a5 a6 b1 b2 b3 b4:Pos) (kd:Nat) (pl:Env→Sem Bool),defBody st = [.Expr (.Call (.Attribute (.Call (.Name "super" a1) [] [] a2) "__init__" a3) [.Constant (.str msg) kd a4] [] a5) a6,.Assign [.Attribute (.Name "self" b1) fld b2] (.Name par b3) b4] ∧
  ∀env,eval (.Call (.Attribute (.Call (.Name "super" a1) [] [] a2) "__init__" a3) [.Constant (.str msg) kd a4] [] a5) env=(do
   let ov ← attributeBase (.Call (.Name "super" a1) [] [] a2) "__init__" env (eval (.Call (.Name "super" a1) [] [] a2) env)
   standAt a3.atName
   let (f,first) ← holding [ov] (getMethod ov "__init__" (pl env))
   callWith a5 f first (backTo a5 (starEach [.Constant (.str msg) kd a4] env)) [])
theorem xini_mk {prog:Program}{K:Frag}{C LE fI cda cc:Addr}{fld par nm qual file:Str}{st:Stmt}{kV doc pm ct ccl cl:Value}{an od cdd cld:Option Addr}{osl ccs csl:Array (Option Value)}{cvs:Array Value}{tf:Tok}
  (T:IBody st fld par) (x1:xk1In K C LE fld=true) (xc:xcIn K C (some (.ref fI))=true) (kp:keepIn K (.ref C)=true) (su:nsIn K mainGlobals "super" = some none) (top:(prog.main.scope.names.lookup ("super":Str)).isSome=false)
  (lk:K.lookup fI=some ⟨.type "function",od,.func (ksFn nm qual (defArgs st) (defBody st) (defScope st) .none kV doc pm an (.ref cda) ct cc),osl⟩) (cd:codeIn K (.ref cda) qual=true) (hcode:K.lookup cda=some ⟨ccl,cdd,.fields cvs,ccs⟩) (hvs:cvs[2]? = some (.str file tf)) (hfile:((prog.main.file:Str) == file)=true)
  (hcell:K.lookup cc=some ⟨cl,cld,.cell (some (.ref C)),csl⟩):XIni prog K C LE fI fld:=by
 obtain⟨ar,s1,s2⟩:=T.se
 obtain⟨msg,a1,a2,a3,a4,a5,a6,b1,b2,b3,b4,kd,pl,t1,t2⟩:=T.tx
 exact⟨xk1_of x1,xc,kp,su,top,nm,qual,par,msg,file,_,_,_,kV,doc,pm,ct,ccl,cl,an,od,cdd,cld,osl,ccs,csl,cvs,tf,ar,cda,cc,a1,a2,a3,a4,a5,a6,b1,b2,b3,b4,kd,pl,lk,cd,hcode,hvs,hfile,hcell,T.sc,s1,s2,T.bd nm qual kV doc pm an (.ref cda) ct cc,t1,t2⟩
theorem px0 {X:Cx}:Px X (fun _=>E0):=fun _ _ _ _ _ _ _ h=>by
 obtain⟨a,C,dx,H',_,_,_,_,_,_,_,q⟩:=h
 exact q.elim
section
variable {X:Cx}{b₀:Stmt}{body suite:List Stmt}{c x:Str}{p hp pos:Pos}{B:Addr}{i:Nat}{tb:(St→XK)→TS}{ts:TS}
theorem qs_try (hN:X.N.Nodup)(hi:X.N[i]? = some x)(hx:X.env.scope.names.lookup x=some .local)(hg:Gl X c)(hm:X.mg c=some (.ref B))(hst:X.stack=X.env :: X.outer)(hfr:X.env.frame=some X.env.locals)(hex:X.ex = [])
  (hb:∀(xe':Value→Shared→Prop) (pn':List (Addr×Obj)) (XR:St→XK),Px (X.tr xe' pn') XR→PSsw (X.tr xe' pn') body (tb XR)) (hs:∀e:Addr,PSsw (X.su e) (b₀ :: suite) ts) (hdb:(c == ("__debug__":Str))=false) :
  PSw X (.Try body [.ExceptHandler (some (.Name c p)) (some x) (b₀ :: suite) hp] [] [] pos) (tTry X.K B i tb ts):=⟨ps_try hN hi hx hg hm hst hfr hex (fun xe' pn' XR h=>(hb xe' pn' XR h).run) (fun e=>(hs e).run) hdb⟩
end
section
variable {σ:St}{H:Hp}{D:Ends}{Q:VK}
theorem rd_callX {sp:Sp}{dvs:List V}{XR:St→XK}{t:TA}(h:t σ H fun vs H1=>sp (vs ++ dvs) H1 Q (XR σ)):tCallX sp dvs XR t σ H Q:=h
theorem rd_raise0 {C:Addr}{XR:St→XK}(h:XR σ (.ref C) none H):tRaise0 C XR D σ H:=h
theorem rd_raise1 {C:Addr}{fld:Str}{XR:St→XK}{t:TA}(h:t σ H fun vs H1=>∃v,vs = [v]∧∀dx,H1 dx=none→XR σ (.ref C) (some dx) (upd H1 dx (.xd [(fld,v)]))):tRaise1 C fld XR t D σ H:=h
theorem rd_try {K:Frag}{B:Addr}{i:Nat}{tb:(St→XK)→TS}{ts:TS}
  (h:tb (fun σ' C dx H'=>exmOne K C (.ref B)=some true∧∀a,H' a=none→ts (D.un i) (σ'.set i (some (.ref a))) (upd H' a (.ext (ExcIs a C dx)))) D σ H):tTry K B i tb ts D σ H:=h
theorem rd_unx {i:Nat}(h:D.nx (σ.set i none) H):(D.un i).nx σ H:=h
theorem rd_xat {K:Frag}{ta:TE}{f:Str}(h:ta σ H fun x H1=>∃a C dx fs v init,x = .ref a∧H1 a=some (.ext (ExcIs a (.ref C) (some dx)))∧XG K C∧xcIn K C init=true∧findIn K (.ref C) f=some none∧H1 dx=some (.xd fs)∧fs.lookup f=some v∧Q v H1):tXAt K ta f σ H Q:=h
theorem rd_isiX {K:Frag}{x c:V}{tv cv:Value}{b:Bool}(ty:TyX K H x tv)(hc:cV c=some cv)(e:kitOne K tv cv=some b)(h:Q (.bl b) H):rIsiX K [x,c] H Q:=⟨x,c,tv,cv,b,rfl,ty,hc,e,h⟩
end
structure ISc0 (sc:Scope):Prop where
 su:sc.names.lookup ("super":Str)=some .globalImplicit
 cl:sc.names.lookup ("__class__":Str)=some .free
 se:sc.names.lookup ("self":Str)=some .local
 nc:∀x∈sc.names,x.2 ≠ .cell
 co:sc.isCoroutine=false
 ge:sc.isGenerator=false
 ki:sc.kind = .function
section
variable {prog:Program}{w:World}{A:Around}{R:Result→Shared→Prop}{h:Heap}{g:Array GenState}{d:Drawn}{t:Nat}{os:OsState}
variable {K:Frag}{mg:Str→Option Value}{base:Heap}{f C LE e cda cc:Addr}{fld nm qual msg file:Str}{ps:Arguments}{body:List Stmt}{sc:Scope}{kV doc pm ct oc ccl cl:Value}{an od cdd cld:Option Addr}{osl ccs csl:Array (Option Value)}{cvs vs:Array Value}{tf:Tok}{init:Option Value}{oe:Obj}{t0:Addr}{ar:Arg}
 {a1 a2 a3 a4 a5 a6:Pos}{kd:Nat}{pl:Env→Sem Bool}
theorem xs_init0 (B:Mod K mg base)(kb:∀b o,base.get? b=some o→h.get? b=some o)(nb:base.get? e=none)(x1:XK1 K C LE fld)(q:xcIn K C init=true)(hroom:A.depth<recursionLimit)
  (lk:K.lookup f=some ⟨oc,od,.func (ksFn nm qual ps body sc .none kV doc pm an (.ref cda) ct cc),osl⟩) (hcd:codeIn K (.ref cda) qual=true) (hcode:K.lookup cda=some ⟨ccl,cdd,.fields cvs,ccs⟩) (hvs:cvs[2]? = some (.str file tf)) (hfile:((prog.main.file:Str) == file)=true)
  (hcell:K.lookup cc=some ⟨cl,cld,.cell (some (.ref C)),csl⟩) (hsu:mg "super" = none) (htop:(prog.main.scope.names.lookup ("super":Str)).isSome=false) (hboot:bootBuiltins "super" = some (.type "super"))
  (S:ISc0 sc) (hp:(ps.posonlyargs ++ ps.args).head? = some ar) (har:ar.arg = "self") (hbind:bindArgs (ksFn nm qual ps body sc .none kV doc pm an (.ref cda) ct cc) ⟨[.ref e],[]⟩ = pure [(("self":Str),.ref e)])
  (hb:body = [.Expr (.Call (.Attribute (.Call (.Name "super" a1) [] [] a2) "__init__" a3) [.Constant (.str msg) kd a4] [] a5) a6])
  (hev:∀env,eval (.Call (.Attribute (.Call (.Name "super" a1) [] [] a2) "__init__" a3) [.Constant (.str msg) kd a4] [] a5) env=(do
   let ov ← attributeBase (.Call (.Name "super" a1) [] [] a2) "__init__" env (eval (.Call (.Name "super" a1) [] [] a2) env)
   standAt a3.atName
   let (f,first) ← holding [ov] (getMethod ov "__init__" (pl env))
   callWith a5 f first (backTo a5 (starEach [.Constant (.str msg) kd a4] env)) []))
  (he:h.get? e=some oe) (hec:oe.cls = .ref C) (hed:oe.dict=none) (hef:oe.data = .fields vs) (h0:vs[0]? = some (.ref t0))
  (hq:∀h' t' T,h'.get? e=some { cls:=.ref C,dict:=none,data:=.fields (vs.setIfInBounds 0 (.ref T)),slots:=oe.slots }→(∀b o,b≠e→h.get? b=some o→h'.get? b=some o)→R (.ok (.ret .none)) ⟨h',g,d,t',os⟩) :
  codeAny (model prog w) A (.call (.ref f) ⟨[.ref e],[]⟩) R ⟨h,g,d,t,os⟩:=by
 have X:K.In h:=B.kin.keeps kb
 refine ks_codeAny_call_defAt (s:=⟨h,g,d,t,os⟩) (binds:=[(("self":Str),.ref e)]) hroom (X _ _ lk) rfl (B.nolimit.keeps kb) (codeRec_of X hcd) rfl (.of_eq hbind) S.nc (fun y hy=>?_) (fun h₀ hn k0=>?_) S.co S.ge S.ki
 ·simp only[List.mem_cons,List.mem_nil_iff,or_false]at hy
  subst hy
  exact S.se
 have kb0:∀b o,base.get? b=some o→h₀.get? b=some o:=fun b o z=>k0 _ _ (kb _ _ z)
 have X0:K.In h₀:=B.kin.keeps kb0
 have e0:=k0 _ _ he
 have ms:(fun x=>([("self",.ref e)]:List (Str×Value)).reverse.lookup x) ("self":Str)=some (.ref e):=rfl
 obtain⟨mb,hb1,hb2⟩:=B.blt
 obtain⟨nmC,qnC,NC,bsC,bmC,snC,subC,abC,colC,ddC,k0C,k1C,k2C,k3C,k5C,mNC,hC,_,_,_⟩:=(xc_at X0 q).out
 have nfe:∀c,oe.data ≠ .cls c:=fun c z=>by rw[hef]at z;cases z
 have neC:e≠C:=fun z=>by
  subst z
  rw[e0]at hC;cases hC
  cases hef
 subst hb
 dsimp only
 generalize hE:(fun (e:Value) (s':Shared)=>wpAny (model prog w) _ (leaving _ e) (fun _ s''=>R (Except.error e) s'') (fun e' s''=>R (Except.error e') s'') s')=EX
 refine ks_wpAt_execs_cons ?_
 refine ks_wpAt_Expr_any ?_ (by show (sc.kind == .module && _)=false;rw[S.ki];rfl) rfl
 refine ks_wpAt_MethodCall ?_ (hev _)
 refine ks_wpAt_super_base (env:=ksEnv qual sc h.objs.size f (.ref cda) cc) (file:=file) (tf:=tf) S.su S.cl (by decide +kernel) rfl (X0 _ _ lk) rfl hp rfl (X0 _ _ hcode) rfl hvs hfile htop ?_
 refine ks_loadName_global S.ki S.su (Calls.loadGlobal_builtin (B.glob.keeps kb0) hsu (hb1.keeps kb0) ((hb2 _ (by decide +kernel)).trans hboot) ⟨rfl,?_⟩)
 refine wpAny_loadName_free S.ki S.cl rfl ⟨_,X0 _ _ hcell,rfl⟩ ?_
 rw[har]
 refine wpAny_loadName_local S.ki S.se hn ms ?_
 refine ks_wpAny_isType_cls hC rfl ⟨rfl,?_⟩
 refine ks_wpAny_call_super hC rfl e0 hec nfe (x1.subs X0 (by simp)) (fun h1 hso k1=>?_)
 have kb1:∀b o,base.get? b=some o→h1.get? b=some o:=fun b o z=>k1 _ _ (kb0 _ _ z)
 have X1:K.In h1:=B.kin.keeps kb1
 have e1:=k1 _ _ e0
 have inst:Looks (model prog w) h1 (isInstance (.ref e) (.type "ValueError")) true:=by
  unfold isInstance
  refine(looks_cls e1).andThen ?_
  rw[hec]
  exact x1.subs X1 (by simp[bmV])
 refine xs_getm (l:=.ref LE :: bmV) hso (looks_opaque X1 x1.opq) (x1.mroL X1) (by simp[List.dropWhile]) X1 x1.ini neC inst ?_
 generalize hmo:({ cls:=.type "method-wrapper",data:=.fields #[.builtin "ValueError.__init__",.ref e] }:Obj)=mo
 have m2:(h1.push mo).get? h1.objs.size=some mo:=Heap.get?_push_size _ (by rw[← hmo];rfl)
 have k2:∀b o,h.get? b=some o→(h1.push mo).get? b=some o:=fun b o z=>Heap.get?_push_of_some _ (k1 _ _ (k0 _ _ z))
 have e2:=k2 _ _ he
 have X2:K.In (h1.push mo):=B.kin.keeps fun b o z=>Heap.get?_push_of_some _ (kb1 _ _ z)
 refine callWith_mw (mw:=h1.objs.size) (fn:=.builtin "ValueError.__init__") (x:=.ref e) (by rw[hmo];exact m2) fun tk=>?_
 refine xs_run (by rw[hmo];exact m2) (xc_at X2 q) hec e2 hef h0 fun h3 T zT z1 z2=>?_
 have dm:=Obj.data_mapFields hef (·.setIfInBounds 0 (Value.ref T))
 refine wpAt_of_wpAny (wpAny_execs_nil ?_)
 have y2':h3.get? e=some { cls:=.ref C,dict:=none,data:=.fields (vs.setIfInBounds 0 (.ref T)),slots:=oe.slots }:=by
  rw[z1]
  obtain⟨oc',od',odt',osl'⟩:=oe
  dsimp only at hec hed hef
  subst hec hed hef
  rfl
 exact hq h3 _ T y2' fun b o nb' z=>z2 _ _ nb' (k2 _ _ z)
end
section
variable {prog:Program}{w:World}{A:Around}{E:Value→Shared→Prop}{h:Heap}{g:Array GenState}{d:Drawn}{t:Nat}{os:OsState}{C fI:Addr}{oI:Obj}
theorem xs_tcall0 {Q:Fin→Shared→Prop}(xa:XAt h C (some (.ref fI)))(hf:h.get? fI=some oI)(hfc:oI.cls = .type "function")
  (hq:∀h' e,Heap.MadeExcOf h h' e (.ref C) []→wpAny (model prog w) A (call (.ref fI) [.ref e]) (fun r s'=>r = .none∧Q (.done (.ret (.ref e))) s') E ⟨h',g,d,t,os⟩) :
  wpAny (model prog w) A (Builtin.«type.__call__» ⟨[.ref C],[]⟩) Q E ⟨h,g,d,t,os⟩:=by
 obtain⟨nm,qn,N,bs,bm,sn,sub,ab,col,dd,k0,k1,k2,k3,k5,mN,hC,hN,hi,T⟩:=xa.out
 have F:=PySem.F.excBase_ValueError
 repeat (first |with_reducible refine wpAny_loadPart_at hC ?_ |with_reducible refine wpAny_madeBy_exc hC ?_ |wp_step)
 refine codeAny_call_builtin_code (Code.quiet_builtin _ F.quiet) (wpAny_check_new_subU F (by decide +kernel) T hC ?_)
 refine codeAny_exc_new_subU (rest:=[]) F (by decide +kernel) F T hC ?_ (by show 0≤sizeLine;exact Nat.zero_le _)
 show wpAny _ _ _ _ _ _
 generalize hh:(h.push { cls:=.type "tuple",data:=.seq ([]:List Value).toArray }).push { cls:=.ref C,data:=.fields #[.ref h.objs.size,.none,.none,.none,.bool false,.none] } = h2
 have up:∀b o,h.get? b=some o→h2.get? b=some o:=fun b o z=>by rw[← hh];exact Heap.get?_push_of_some _ (Heap.get?_push_of_some _ z)
 have ge:h2.get? (h.objs.size+1)=some { cls:=.ref C,data:=.fields #[.ref h.objs.size,.none,.none,.none,.bool false,.none] }:=by rw[← hh];heap_get
 have gt:h2.get? h.objs.size=some { cls:=.type "tuple",data:=.seq ([]:List Value).toArray }:=by rw[← hh];exact Heap.get?_push_of_some _ (Heap.get?_push_at rfl rfl)
 have cC:(Value.ref C :: bm).contains (.ref C)=true:=by simp
 have C2:=up _ _ hC
 unfold isInstance
 repeat (first |with_reducible refine wpAny_loadPart_at ge ?_ | (with_reducible refine wpAny_isSubtype_exc C2 ?_;rw[cC]) |wp_step)
 show wpAny _ _ (typeLookup (.ref C) _) _ _ _
 refine wpAny_typeLookup_tail C2 (hN.keeps up) (T.keeps up) F.mroIs F.init.lookup ?_
 rw[hi]
 refine wpAny_holding (wpAny_bind ?_)
 unfold bindSpecial
 refine wpAny_bind (wpAny_typeOf (T:="function") ⟨_,up _ _ hf,hfc⟩ ?_)
 rw[if_pos (by decide)]
 refine wpAny_pure (wpAny_bind (wpAny_mono (hq h2 (h.objs.size+1) ⟨up,Heap.get?_none_of_le (Nat.le_succ _),h.objs.size,ge,Heap.get?_none_of_le (Nat.le_refl _),gt⟩) (fun r s' z=>?_) fun _ _ z=>z))
 obtain⟨rfl,z⟩:=z
 wp_walk
 exact z
theorem xs_call0 {Q:Value→Shared→Prop}(xa:XAt h C (some (.ref fI)))(hf:h.get? fI=some oI)(hfc:oI.cls = .type "function")
  (hq:∀h' e,Heap.MadeExcOf h h' e (.ref C) []→wpAny (model prog w) (A.under (.builtin "type.__call__" ⟨[.ref C],[]⟩)) (call (.ref fI) [.ref e]) (fun r s'=>r = .none∧Q (.ref e) s') E ⟨h',g,d,t,os⟩) :
  wpAny (model prog w) A (call (.ref C) []) Q E ⟨h,g,d,t,os⟩:=by
 obtain⟨nm,qn,N,bs,bm,sn,sub,ab,col,dd,k0,k1,k2,k3,k5,mN,hC,_,_,_⟩:=xa.out
 have f1:=tc_lookup
 have f2:=tc_bind (.ref C)
 have ty:(⟨h,g,d,t,os⟩:Shared).TypeIs (.ref C) "type":=⟨_,hC,rfl⟩
 refine wpAny_call (codeAny_of_tree ?_)
 show wpAny _ _ (callAny (.ref C) _) _ _ _
 repeat (any_goals (first |assumption |with_reducible refine wpAny_loadPart_at hC ?_ |wp_step))
 refine⟨rfl,?_⟩
 exact codeAny_call_builtin_at (Code.quiet_builtin _ (by decide +kernel)) entry_typeCall (wpAny_check_type_call_sub hC (xs_tcall0 xa hf hfc fun h' e me=>hq h' e me))
end
structure XIni0 (prog:Program) (K:Frag) (C LE fI:Addr) (fld:Str):Prop where
 x1:XK1 K C LE fld
 xc:xcIn K C (some (.ref fI))=true
 kp:keepIn K (.ref C)=true
 su:nsIn K mainGlobals "super" = some none
 top:(prog.main.scope.names.lookup ("super":Str)).isSome=false
 ex:∃(nm qual msg file:Str) (ps:Arguments) (body:List Stmt) (sc:Scope) (kV doc pm ct ccl cl:Value) (an od cdd cld:Option Addr) (osl ccs csl:Array (Option Value)) (cvs:Array Value) (tf:Tok) (ar:Arg) (cda cc:Addr)
  (a1 a2 a3 a4 a5 a6:Pos) (kd:Nat) (pl:Env→Sem Bool),
  K.lookup fI=some ⟨.type "function",od,.func (ksFn nm qual ps body sc .none kV doc pm an (.ref cda) ct cc),osl⟩∧codeIn K (.ref cda) qual=true∧K.lookup cda=some ⟨ccl,cdd,.fields cvs,ccs⟩∧cvs[2]? = some (.str file tf)∧((prog.main.file:Str) == file)=true ∧
  K.lookup cc=some ⟨cl,cld,.cell (some (.ref C)),csl⟩∧ISc0 sc∧(ps.posonlyargs ++ ps.args).head? = some ar∧ar.arg = "self"∧(∀e:Value,bindArgs (ksFn nm qual ps body sc .none kV doc pm an (.ref cda) ct cc) ⟨[e],[]⟩ = pure [(("self":Str),e)]) ∧
  body = [.Expr (.Call (.Attribute (.Call (.Name "super" a1) [] [] a2) "__init__" a3) [.Constant (.str msg) kd a4] [] a5) a6] ∧
  ∀env,eval (.Call (.Attribute (.Call (.Name "super" a1) [] [] a2) "__init__" a3) [.Constant (.str msg) kd a4] [] a5) env=(do
   let ov ← attributeBase (.Call (.Name "super" a1) [] [] a2) "__init__" env (eval (.Call (.Name "super" a1) [] [] a2) env)
   standAt a3.atName
   let (f,first) ← holding [ov] (getMethod ov "__init__" (pl env))
   callWith a5 f first (backTo a5 (starEach [.Constant (.str msg) kd a4] env)) [])
section
variable {X:Cx}{C LE fI:Addr}{fld x:Str}{XR:St→XK}{np cpos pos:Pos}
theorem qs_raise0i (hx:Px X XR)(hc:X.calm=true)(hr:Room 2 X.A)(hg:Gl X x)(hm:X.mg x=some (.ref C))(Z:XIni0 X.prog X.K C LE fI fld)(hdb:(x == ("__debug__":Str))=false) :
  PSw X (.Raise (some (.Call (.Name x np) [] [] cpos)) none pos) (tRaise0 C XR):=by
 refine⟨fun pins s σ H D I h=>?_⟩
 rw[arm_exec_Raise]
 simp only[evalOpt,Option.map]
 refine wpAny_bind (wpAny_standAt (raise_made (C:=C) (init:=some (.ref fI)) (I.ok.hd hc) ?_))
 refine wpAny_bind (wpAny_mono (Q:=fun v s₁=>∃e oe vs,v = .ref e∧XAt s₁.heap C (some (.ref fI))∧s₁.heap.get? e=some oe∧oe.cls = .ref C∧oe.data = .fields vs∧vs[1]? = some .none∧X.xe (.ref e) s₁) ?_ (fun v s₃ h₃=>wpAny_bind (wpAny_standAt (wpAny_pure h₃))) fun _ _ z=>z)
 refine wpAny_Call_Name_kw (ld_glob I hg hm ?_ hdb)
 refine PySem.W.callWith_K0 I.kIn Z.kp ?_
 obtain⟨nm,qual,msg,file,ps,body,sc,kV,doc,pm,ct,ccl,cl,an,od,cdd,cld,osl,ccs,csl,cvs,tf,ar,cda,cc,a1,a2,a3,a4,a5,a6,kd,pl,z1,z2,z3,z4,z5,z6,z7,z8,z9,z10,z11,z12⟩:=Z.ex
 obtain⟨hh,g,d,t1,os⟩:=s
 have hk:∀b o,X.base.get? b=some o→hh.get? b=some o:=I.bk
 refine xs_call0 (xc_at I.kIn Z.xc) (I.kIn _ _ z1) rfl fun h1 e1 me=>?_
 obtain⟨tp,q1,q2,q3⟩:=me.there
 have nb:X.base.get? e1=none:=by
  cases zz:X.base.get? e1 with
  | none=>rfl
  | some o=>have:=hk _ _ zz;rw[me.new]at this;cases this
 have hsu:X.mg "super" = none:=mg_none_of I.ok.mod.kin I.ok.mod.glob Z.su
 refine wpAny_call (codeAny_mono (R:=fun r s'=>r = .ok (.ret .none)∧∃e oe vs,Value.ref e1 = .ref e∧XAt s'.heap C (some (.ref fI))∧s'.heap.get? e=some oe∧oe.cls = .ref C∧oe.data = .fields vs∧vs[1]? = some .none∧X.xe (.ref e) s') (xs_init0 (base:=X.base) (fld:=fld) (LE:=LE) (C:=C) I.ok.mod (fun b o z=>me.keeps _ _ (hk _ _ z)) nb Z.x1 Z.xc (hr.make C [] []).depth z1 z2 z3 z4 z5 z6 hsu Z.top (by decide +kernel) z7 z8 z9 (z10 _) z11 z12 q1 rfl rfl rfl rfl fun h2 t2 T y1 y4=>⟨rfl,e1,_,_,rfl,?_,y1,rfl,rfl,rfl,?_⟩) ?_)
 ·exact(xc_at I.kIn Z.xc).keeps fun b o z=>y4 _ _ (fun y=>by rw[y]at z;rw[me.new]at z;cases z) (me.keeps _ _ z)
 ·have kk:∀b o,hh.get? b=some o→h2.get? b=some o:=fun b o z=>y4 _ _ (fun y=>by rw[y,me.new]at z;cases z) (me.keeps _ _ z)
  have hne:H e1=none:=I.hok.none me.new
  exact hx pins σ H ⟨hh,g,d,t1,os⟩ (.ref e1) ⟨h2,g,d,t2,os⟩ I ⟨e1,.ref C,none,H,rfl,rfl,I.bare,Un.kept kk,I.hok.kept kk,⟨me.new,hne⟩,⟨_,_,y1,rfl,rfl,rfl,by simp,.inl ⟨rfl,rfl⟩⟩,h⟩
 ·rintro _ s' ⟨rfl,z⟩
  exact⟨rfl,z⟩
end
structure IBody0 (st:Stmt):Prop where
 sc:ISc0 (defScope st)
 se:∃ar,((defArgs st).posonlyargs ++ (defArgs st).args).head? = some ar∧ar.arg = "self"
 bd:∀(nm qual:Str) (kV doc pm:Value) (an:Option Addr) (cda:Value) (ct:Value) (cc:Addr) (e:Value),bindArgs (ksFn nm qual (defArgs st) (defBody st) (defScope st) .none kV doc pm an cda ct cc) ⟨[e],[]⟩ = pure [(("self":Str),e)]
 tx:∃(msg:Str) (a1 a2 a3 a4 a5 a6:Pos) (kd:Nat) (pl:Env→Sem Bool),defBody st = [.Expr (.Call (.Attribute (.Call (.Name "super" a1) [] [] a2) "__init__" a3) [.Constant (.str msg) kd a4] [] a5) a6] ∧
  ∀env,eval (.Call (.Attribute (.Call (.Name "super" a1) [] [] a2) "__init__" a3) [.Constant (.str msg) kd a4] [] a5) env=(do
   let ov ← attributeBase (.Call (.Name "super" a1) [] [] a2) "__init__" env (eval (.Call (.Name "super" a1) [] [] a2) env)
   standAt a3.atName
   let (f,first) ← holding [ov] (getMethod ov "__init__" (pl env))
   callWith a5 f first (backTo a5 (starEach [.Constant (.str msg) kd a4] env)) [])
theorem xini0_mk {prog:Program}{K:Frag}{C LE fI cda cc:Addr}{fld nm qual file:Str}{st:Stmt}{kV doc pm ct ccl cl:Value}{an od cdd cld:Option Addr}{osl ccs csl:Array (Option Value)}{cvs:Array Value}{tf:Tok}
  (T:IBody0 st) (x1:xk1In K C LE fld=true) (xc:xcIn K C (some (.ref fI))=true) (kp:keepIn K (.ref C)=true) (su:nsIn K mainGlobals "super" = some none) (top:(prog.main.scope.names.lookup ("super":Str)).isSome=false)
  (lk:K.lookup fI=some ⟨.type "function",od,.func (ksFn nm qual (defArgs st) (defBody st) (defScope st) .none kV doc pm an (.ref cda) ct cc),osl⟩) (cd:codeIn K (.ref cda) qual=true) (hcode:K.lookup cda=some ⟨ccl,cdd,.fields cvs,ccs⟩) (hvs:cvs[2]? = some (.str file tf)) (hfile:((prog.main.file:Str) == file)=true)
  (hcell:K.lookup cc=some ⟨cl,cld,.cell (some (.ref C)),csl⟩):XIni0 prog K C LE fI fld:=by
 obtain⟨ar,s1,s2⟩:=T.se
 obtain⟨msg,a1,a2,a3,a4,a5,a6,kd,pl,t1,t2⟩:=T.tx
 exact⟨xk1_of x1,xc,kp,su,top,nm,qual,msg,file,_,_,_,kV,doc,pm,ct,ccl,cl,an,od,cdd,cld,osl,ccs,csl,cvs,tf,ar,cda,cc,a1,a2,a3,a4,a5,a6,kd,pl,lk,cd,hcode,hvs,hfile,hcell,T.sc,s1,s2,T.bd nm qual kV doc pm an (.ref cda) ct cc,t1,t2⟩
end L2
namespace Zt
open PySem PySem.Spec
section
variable {prog:Program}{w:World}{A:Around}{E:Value→Shared→Prop}{s:Shared}
end
end Zt
namespace L2
open PySem PySem.Spec PyProof.Rows
end L2
namespace Mt
open PySem L2
theorem map_tupOnly:∀(hs:List (Int×Int)),tupOnlyAll (hs.map pr)=true
 | []=>rfl
 | p :: r=>by
  rw[List.map_cons]
  simp only[tupOnlyAll,map_tupOnly r,Bool.and_true]
  rfl
theorem map_depth:∀(hs:List (Int×Int)),PyData.depthAll (hs.map pr)≤1
 | []=>Nat.zero_le _
 | p :: r=>by
  rw[List.map_cons]
  simp only[PyData.depthAll]
  exact Nat.max_le.mpr ⟨Nat.le_refl _,map_depth r⟩
end Mt
namespace Zt
open PySem PySem.Spec
theorem srcL (i t:Addr)(hne:t≠i)(its:Array Value):Src i [i,t] (fun k h=>h.IsListIter i t k∧h.IsList t its) (fun k=>its[k]?) where
 mem:=List.mem_cons_self
 stay:=by
  rintro k h h' ⟨⟨o,e,r⟩,⟨o2,e2,r2⟩⟩ hk
  exact⟨⟨o,hk i (by simp) o e,r⟩,⟨o2,hk t (by simp) o2 e2,r2⟩⟩
 obj:=by
  rintro k h ⟨⟨o,e,c,d⟩,_⟩
  exact⟨o,e,fun v z=>by rw[d]at z;cases z⟩
 item:=by
  rintro prog w A E s Q k x ⟨hit,ht⟩ hx hQ
  exact wpAny_nextOf_list_item hit ht hx fun h' z sb=>hQ h' ⟨z,ht.extBut sb.extBut hne⟩ sb
 fin:=by
  rintro prog w A E s Q k hh ⟨hit,ht⟩ hx hE
  exact wpAny_nextOf_list_end hh hit ht hx hE
theorem plainL_is {h:Heap}{a:Addr}{its:Array Value}(x:PySem.PlainL h a its):h.IsList a its:=by
 obtain⟨o,n,e,c,_,d⟩:=x
 exact⟨o,e,c,n,d⟩
noncomputable abbrev gl1 (h:Heap)(l1:Addr):Heap:=h.push { cls:=.type "list_iterator",data:=.fields #[.ref l1,.int 0 0] }
noncomputable abbrev gl2 (h:Heap)(l1 l2:Addr):Heap:=(gl1 h l1).push { cls:=.type "list_iterator",data:=.fields #[.ref l2,.int 0 0] }
noncomputable abbrev gl3 (h:Heap)(l1 l2:Addr):Heap:=(gl2 h l1 l2).push { cls:=.type "tuple",data:=.seq #[.ref h.objs.size,.ref (gl1 h l1).objs.size] }
noncomputable abbrev gl4 (h:Heap)(l1 l2:Addr):Heap:=(gl3 h l1 l2).push { cls:=.type "tuple",data:=.seq #[.none,.none] }
noncomputable abbrev gl5 (h:Heap)(l1 l2:Addr):Heap:=(gl4 h l1 l2).push { cls:=.type "zip",data:=.fields #[.none,.bool false,.bool false,.ref (gl2 h l1 l2).objs.size,.ref (gl3 h l1 l2).objs.size] }
theorem meets_newL (l1 l2:Addr)(xs ys:Array Value) :
  Meets (Builtin.«zip.__new__» ⟨[.type "zip",.ref l1,.ref l2],[]⟩) (fun _ R s=>s.heap.IsList l1 xs∧s.heap.IsList l2 ys ∧
   R (.ok (.ret (.ref (gl4 s.heap l1 l2).objs.size))) { s with heap:=gl5 s.heap l1 l2 }) :=
 .of_wp fun prog w A R s h=>by
  obtain⟨hp,g,d,tk,os⟩:=s;obtain⟨hl1,hl2,h⟩:=h
  have hsub:=sub_zip
  have hL1:Heap.IsList (Shared.heap ⟨hp,g,d,tk,os⟩) l1 xs:=hl1
  have hL2:Heap.IsList (Shared.heap ⟨hp.push { cls:=.type "list_iterator",data:=.fields #[.ref l1,.int 0 0] },g,d,tk,os⟩) l2 ys:=Heap.IsList.push hl2 _
  wp_walk using wpAny_pyIter_list hL1,wpAny_pyIter_list hL2
  exact⟨_,rfl,h⟩
theorem call_zipL {prog:Program}{w:World}{A:Around}{E:Value→Shared→Prop}{s:Shared}{l1 l2:Addr}{xs ys:Array Value}{Q:Value→Shared→Prop}(hl1:s.heap.IsList l1 xs)(hl2:s.heap.IsList l2 ys)
  (h:∀h',IsZip h' (s.heap.objs.size+4) (s.heap.objs.size+2) (s.heap.objs.size+3) .none→IsPair h' (s.heap.objs.size+2) (.ref s.heap.objs.size) (.ref (s.heap.objs.size+1)) →
   IsPair h' (s.heap.objs.size+3) .none .none→h'.IsListIter s.heap.objs.size l1 0→h'.IsListIter (s.heap.objs.size+1) l2 0 →
   (∀c o,s.heap.get? c=some o→h'.get? c=some o)→Q (.ref (s.heap.objs.size+4)) { s with heap:=h' }) :
  wpAny (model prog w) A (call (.type "zip") [.ref l1,.ref l2]) Q E s:=by
 refine callType_new F.called_zip (by decide) (F.typeCall_zip_2 _ _) (F.newCall_zip_2 _ _) (fun obj=>F.args_object_init_3 obj _ _) F.entry_zip_new (meets_newL l1 l2 xs ys) ⟨hl1,hl2,?_⟩
 have z1:(gl1 s.heap l1).objs.size=s.heap.objs.size+1:=Heap.size_push ..
 have z2:(gl2 s.heap l1 l2).objs.size=s.heap.objs.size+2:=by rw[Heap.size_push,z1]
 have z3:(gl3 s.heap l1 l2).objs.size=s.heap.objs.size+3:=by rw[Heap.size_push,z2]
 have z4:(gl4 s.heap l1 l2).objs.size=s.heap.objs.size+4:=by rw[Heap.size_push,z3]
 have q5:(gl5 s.heap l1 l2).get? (gl4 s.heap l1 l2).objs.size=some _:=Heap.get?_push_size _ rfl
 have q4:(gl5 s.heap l1 l2).get? (gl3 s.heap l1 l2).objs.size=some _:=Heap.get?_push_of_some _ (Heap.get?_push_size _ rfl)
 have q3:(gl5 s.heap l1 l2).get? (gl2 s.heap l1 l2).objs.size=some _:=Heap.get?_push_of_some _ (Heap.get?_push_of_some _ (Heap.get?_push_size _ rfl))
 have q2:(gl5 s.heap l1 l2).get? (gl1 s.heap l1).objs.size=some _:=Heap.get?_push_of_some _ (Heap.get?_push_of_some _ (Heap.get?_push_of_some _ (Heap.get?_push_size _ rfl)))
 have q1:(gl5 s.heap l1 l2).get? s.heap.objs.size=some _:=Heap.get?_push_of_some _ (Heap.get?_push_of_some _ (Heap.get?_push_of_some _ (Heap.get?_push_of_some _ (Heap.get?_push_size _ rfl))))
 show _∧_
 rw[z2,z3,z4]at q5;rw[z1,z2]at q3;rw[z3]at q4;rw[z1]at q2;rw[z4]
 exact⟨⟨_,q5,rfl⟩,h _ q5 q3 q4 ⟨_,q1,rfl,rfl⟩ ⟨_,q2,rfl,rfl⟩ fun c o x =>
  Heap.get?_push_of_some _ (Heap.get?_push_of_some _ (Heap.get?_push_of_some _ (Heap.get?_push_of_some _ (Heap.get?_push_of_some _ x))))⟩
end Zt
namespace L2
open PySem PySem.Spec PyProof.Rows
noncomputable def ItzL (K:PySem.W.Frag)(a b:Addr):It :=
  ⟨fun i H=>∃xs ys x y,SqL K H a xs∧SqL K H b ys∧xs[i]? = some x∧ys[i]? = some y,
   fun i H v H'=>∃p x y,H p=none∧(∀xs,SqL K H a xs→xs[i]? = some x)∧(∀ys,SqL K H b ys→ys[i]? = some y)∧v = .ref p∧H'=upd H p (.tup [x,y]),
   fun i H=>∃xs ys,SqL K H a xs∧SqL K H b ys∧(xs.length≤i∨ys.length≤i)⟩
theorem turn_zipL {P:Program}{w:World}{K:PySem.W.Frag}{es:List Expr}{k:Nat}{ps:Pos}{z TI TO i1 i2 a b:Addr}
  (na:a≠i1) (nb:b≠i2) (D:Zt.Apart z TI TO i1 i2 [i1,a] [i2,b]) :
  Turn P w K (.Tuple es k ps) (ItzL K a b) [z,TI,TO,i1,i2] z (fun n h=>IsZip h z TI TO .none∧IsPair h TI (.ref i1) (.ref i2)∧(∃u v,IsPair h TO u v)∧h.IsListIter i1 a n∧h.IsListIter i2 b n) where
 mem:=by simp
 obj:=by
  rintro n h ⟨hz,hTI,⟨u,v,hTO⟩,⟨o1,e1,c1,d1⟩,⟨o2,e2,c2,d2⟩⟩ c hc
  simp only[List.mem_cons,List.not_mem_nil,or_false]at hc
  rcases hc with rfl |rfl |rfl |rfl |rfl
  ·exact⟨_,hz,fun v q=>nomatch q⟩
  ·exact⟨_,hTI,fun v q=>nomatch q⟩
  ·exact⟨_,hTO,fun v q=>nomatch q⟩
  ·exact⟨o1,e1,fun v q=>by rw[d1]at q;cases q⟩
  ·exact⟨o2,e2,fun v q=>by rw[d2]at q;cases q⟩
 keep:=by
  rintro n h h' ⟨hz,hTI,⟨u,v,hTO⟩,⟨o1,e1,r1⟩,⟨o2,e2,r2⟩⟩ kp
  exact⟨kp z (by simp) _ hz,kp TI (by simp) _ hTI,⟨u,v,kp TO (by simp) _ hTO⟩,⟨o1,kp i1 (by simp) _ e1,r1⟩,⟨o2,kp i2 (by simp) _ e2,r2⟩⟩
 item:=by
  intro X hP hw hK hc i pins s σ H E I hf st hg
  subst hP hw hK
  obtain⟨hz,hTI,⟨u,v,hTO⟩,hi1,hi2⟩:=st
  obtain⟨xs,ys,x,y,qx,qy,hx,hy⟩:=hg
  obtain⟨us,rx,px,zx⟩:=I.list qx
  obtain⟨ws,ry,py,zy⟩:=I.list qy
  obtain⟨ux,hux,rux⟩:=rx.get hx
  obtain⟨uy,huy,ruy⟩:=ry.get hy
  refine Zt.py_item (Zt.srcL i1 a na us.toArray) (Zt.srcL i2 b nb ws.toArray) D hz hTI hTO ⟨hi1,Zt.plainL_is px⟩ ⟨hi2,Zt.plainL_is py⟩ (x:=ux) (y:=uy) (by simpa using hux) (by simpa using huy) fun h' z1 t1 s1 s2 t2 kp=>⟨_,rfl,?_⟩
  refine wpAny_letOwnedTupleGo_zip (s:={ s with heap:=h' }) z1 fun h'' z2 sb=>?_
  have kp2:∀c o,c ∉ [z,TI,TO,i1,i2]→s.heap.get? c=some o→h''.get? c=some o:=fun c o hc e=>by
   simp only[List.mem_cons,List.not_mem_nil,or_false,not_or]at hc
   exact sb.extBut _ _ hc.1 (kp c o hc.1 hc.2.2.1 hc.2.2.2.1 hc.2.2.2.2 e)
  have nz:s.heap.objs.size≠z:=Nat.ne_of_gt (Heap.lt_size hz)
  have J:Inv X pins σ H { s with heap:=h'' }:=I.spun (t':=s.toks) hf kp2
  have t3:IsPair h'' s.heap.objs.size ux uy:=sb.extBut _ _ nz t2
  refine⟨.ref s.heap.objs.size,upd H s.heap.objs.size (.tup [x,y]),I.track J (Nat.le_refl _) ⟨by show 2≤sizeLine;decide,[ux,uy],.cons rux (.cons ruy .nil),⟨_,t3,rfl,_,rfl⟩⟩,rfl,⟨_,x,y,I.hok.fresh (Nat.le_refl _),fun zs h=>?_,fun zs h=>?_,rfl,rfl⟩,?_,fun c hc=>?_⟩
  ·rw[I.list_inj h qx];exact hx
  ·rw[I.list_inj h qy];exact hy
  ·exact⟨z2,sb.extBut _ _ D.TIz (kp TI _ D.TIz D.TITO D.TIi1 D.TIi2 hTI),⟨ux,uy,sb.extBut _ _ D.TOz t1⟩,s1.1.extBut sb.extBut D.i1z,s2.1.extBut sb.extBut D.i2z⟩
  ·have e:c≠s.heap.objs.size:=by
    simp only[List.mem_cons,List.not_mem_nil,or_false]at hc
    obtain⟨o1,e1,_⟩:=hi1;obtain⟨o2,e2,_⟩:=hi2
    rcases hc with rfl |rfl |rfl |rfl |rfl
    ·exact Nat.ne_of_lt (Heap.lt_size hz)
    ·exact Nat.ne_of_lt (Heap.lt_size hTI)
    ·exact Nat.ne_of_lt (Heap.lt_size hTO)
    ·exact Nat.ne_of_lt (Heap.lt_size e1)
    ·exact Nat.ne_of_lt (Heap.lt_size e2)
   rw[upd_ne e];exact(hf c hc).1
 done:=by
  intro X hP hw hK hc i pins s σ H E I hf st hg
  subst hP hw hK
  obtain⟨hz,hTI,⟨u,v,hTO⟩,hi1,hi2⟩:=st
  obtain⟨xs,ys,qx,qy,hend⟩:=hg
  obtain⟨us,rx,px,zx⟩:=I.list qx
  obtain⟨ws,ry,py,zy⟩:=I.list qy
  have lx:=rx.length
  have ly:=ry.length
  refine Zt.py_end (I.ok.hd hc) (Zt.srcL i1 a na us.toArray) (Zt.srcL i2 b nb ws.toArray) D hz hTI hTO ⟨hi1,Zt.plainL_is px⟩ ⟨hi2,Zt.plainL_is py⟩ (k1:=i) (k2:=i) (hend.imp (fun h=>by simp;omega) (fun h=>by simp;omega)) fun h' kp=>⟨rfl,?_⟩
  refine I.spun (t':=s.toks) hf fun c o hc e=>?_
  simp only[List.mem_cons,List.not_mem_nil,or_false,not_or]at hc
  exact kp c o hc.1 hc.2.2.1 hc.2.2.2.1 hc.2.2.2.2 e
 self:=by
  rintro A n s Q E ⟨hz,_⟩ h
  exact wpAny_pyIter_zip hz h
noncomputable def iZipL (K:PySem.W.Frag)(ta:TA):TI:=fun σ H R=>ta σ H fun vs H1=>∃a b,vs = [.ref a,.ref b]∧(∃xs,SqL K H1 a xs)∧(∃ys,SqL K H1 b ys)∧R (ItzL K a b) H1
theorem pi_zipL {X:Cx}{es:List Expr}{k:Nat}{ps p pos:Pos}{e1 e2:Expr}{ta:TA}(hg:Gl X "zip")(hm:X.mg "zip" = none)(ha:PA X [e1,e2] ta)
  (hs:starEach [e1,e2] X.env = [(false,eval e1 X.env),(false,eval e2 X.env)]:=by rfl) (hs2:starEach [e2] X.env = [(false,eval e2 X.env)]:=by rfl) (hv:bootBuiltins "zip" = some (.type "zip"):=by decide +kernel) :
  PI X (.Tuple es k ps) (.Call (.Name "zip" p) [e1,e2] [] pos) (iZipL X.K ta):=by
 intro pins s σ H R I h
 refine Call_ (ld_blt I hg hm hv (PyProof.Rows.callWith_type1 (thn (ha pos pins s σ H _ I h) fun us s1 ⟨vs,H1,I1,r1,q1⟩=>?_) (by rw[hs,hs2]) (by rw[hs2];rfl)))
 obtain⟨a,b,e,⟨xs,qx⟩,⟨ys,qy⟩,q⟩:=q1
 subst e
 obtain⟨u,v,rfl,ra,rb⟩:=vals2 r1
 cases ra
 cases rb
 obtain⟨us,rx,px,zx⟩:=I1.list qx
 obtain⟨ws,ry,py,zy⟩:=I1.list qy
 refine Zt.call_zipL (xs:=us.toArray) (ys:=ws.toArray) (Zt.plainL_is px) (Zt.plainL_is py) fun h' hz hTI hTO h1 h2 kp=>?_
 refine wpAny_pyIter_zip (s:={ s1 with heap:=h' }) hz ?_
 have la:a<s1.heap.objs.size:=by obtain⟨o,_,e,_⟩:=px;exact Heap.lt_size e
 have lb:b<s1.heap.objs.size:=by obtain⟨o,_,e,_⟩:=py;exact Heap.lt_size e
 have J:Inv X pins σ H1 { s1 with heap:=h' }:=I1.kept (t':=s1.toks) kp
 refine⟨_,[s1.heap.objs.size+4,s1.heap.objs.size+2,s1.heap.objs.size+3,s1.heap.objs.size,s1.heap.objs.size+1],_,ItzL X.K a b,H1,rfl,J,turn_zipL (a:=a) (b:=b) (Nat.ne_of_lt la) (Nat.ne_of_lt (Nat.lt_succ_of_lt lb)) ?_,⟨hz,hTI,⟨_,_,hTO⟩,h1,h2⟩,fun c hc=>?_,q⟩
 ·generalize s1.heap.objs.size=n at la lb
  constructor <;> (try simp only[List.mem_cons,List.not_mem_nil,or_false,not_or,ne_eq]) <;> (unfold Addr at *;omega)
 ·have le:s1.heap.objs.size≤c:=by
   simp only[List.mem_cons,List.not_mem_nil,or_false]at hc
   rcases hc with rfl |rfl |rfl |rfl |rfl
   ·exact Nat.le_add_right _ _
   ·exact Nat.le_add_right _ _
   ·exact Nat.le_add_right _ _
   ·exact Nat.le_refl _
   ·exact Nat.le_add_right _ _
  exact I1.fpOk le (I1.hok.fresh le)
end L2
namespace L2
open PySem PySem.Spec PyProof.Rows PySem.W
noncomputable def tStar (K:Frag)(te:TE)(t:TA):TA:=fun σ H Q=>te σ H fun v H1=>∃a xs,v = .ref a∧SqT K H1 a xs∧t σ H1 fun vs H2=>Q (xs ++ vs) H2
section
variable {X:Cx}{e:Expr}{es:List Expr}{te:TE}{t:TA}{pos p:Pos}{k i:Nat}{f:Addr}{fd:FuncData}{ps:List Str}{sp:Sp}{dvs:List V}{ds:List Value}{XR:St→XK}{x:Str}
theorem qa_star (ha:PE X e te)(hr:PAs X es t):PAs X (.Starred e p :: es) (tStar X.K te t):=by
 refine⟨fun pos pins s σ H Q I h=>?_⟩
 refine items_star (thn (ha pins s σ H _ I h) fun u s1 ⟨v,H1,I1,r,a,xs,ev,hq,q⟩=>?_)
 subst ev
 obtain rfl:u=Value.ref a:=r
 obtain⟨us,rx,⟨o,e1,e2,n,e3⟩,zx⟩:=I1.tuple hq
 have ty:s1.TypeIs (.ref a) "tuple":=⟨o,e1,e2⟩
 unfold StarOf notIterableAtAll
 refine wpAny_bind (wpAny_specialOf ty PySem.F.slot_tuple_iter.lookup (wpAny_pure ⟨rfl,?_⟩))
 refine wpAny_collect_seq a (.inr rfl) e1 e2 e3 (fun h' hk=>?_) (by have:=rx.length;simpa using (by omega))
 have I2:Inv X pins σ H1 { s1 with heap:=h' }:=I1.kept (t':=s1.toks) hk
 refine thn (hr.run pos pins _ σ H1 _ I2 q) fun ws s3 ⟨vs,H3,I3,r3,q3⟩=>?_
 exact⟨xs ++ vs,H3,I3,by simpa using rx.append r3,q3⟩
variable {tg a b:Expr}{ta:TA}
theorem qi_zipL {es:List Expr}{k:Nat}{ps:Pos}(hg:Gl X "zip")(hm:X.mg "zip" = none)(ha:PAs X [a,b] ta)(h1:notStar a=true)(h2:notStar b=true):PI X (.Tuple es k ps) (.Call (.Name "zip" p) [a,b] [] pos) (iZipL X.K ta) :=
 pi_zipL hg hm ha.run (by rw[star_ne h1,star_ne h2];rfl) (by rw[star_ne h2];rfl) (by decide +kernel)
end
section
variable {σ:St}{H:Hp}{Q:VK}
theorem rd_star {K:Frag}{te:TE}{t:TA}{R:List V→Hp→Prop}(h:te σ H fun v H1=>∃a xs,v = .ref a∧SqT K H1 a xs∧t σ H1 fun vs H2=>R (xs ++ vs) H2):tStar K te t σ H R:=h
theorem rd_izipL {K:Frag}{ta:TA}{R:It→Hp→Prop}(h:ta σ H fun vs H1=>∃a b,vs = [.ref a,.ref b]∧(∃xs,SqL K H1 a xs)∧(∃ys,SqL K H1 b ys)∧R (ItzL K a b) H1):iZipL K ta σ H R:=h
end
theorem comp_byF {J:It}{H1:Hp}{acc:Addr}{σ0:St}{g:TG}{tt:TT}{te:TE}{Q:VK}(n:Nat)(hn:n<sizeLine)(Pv:Nat→List V→St→Hp→Prop)(h0:Pv 0 [] σ0 (upd H1 acc (.lst [])))
  (hgo:∀i vs σc H,i<n→vs.length≤i→H acc=some (.lst vs)→Pv i vs σc H→J.go i H∧∀x H',J.yld i H x H'→∀(R:St→V→Hp→Prop) (S:St→Hp→Prop),
   (∀ σ2 v H4,H4 acc=some (.lst vs)→Pv (i+1) (vs ++ [v]) σ2 (upd H4 acc (.lst (vs ++ [v])))→R σ2 v H4)→(∀ σ2 H4,H4 acc=some (.lst vs)→Pv (i+1) vs σ2 H4→S σ2 H4) →
   g x σc H' fun σ2 H2=>tt σ2 H2 fun b H3=>if b=true then te σ2 H3 (R σ2) else S σ2 H3)
  (hst:∀vs σc H,vs.length≤n→H acc=some (.lst vs)→Pv n vs σc H→J.stop n H∧Q (.ref acc) H):CompW σ0 J H1 acc g tt te Q:=by
 refine⟨fun i m σc H=>m=n - i∧i≤n∧∃vs,vs.length≤i∧H acc=some (.lst vs)∧Pv i vs σc H,⟨n,by simp,Nat.zero_le _,[],Nat.le_refl _,upd_same,h0⟩,?_⟩
 rintro i m σc H ⟨rfl,hi,vs,hl,ha,hp⟩
 by_cases hlt:i<n
 ·obtain⟨g1,g2⟩:=hgo i vs σc H hlt hl ha hp
  refine .inr ⟨g1,fun σ' H'=>i+1≤n∧∃vs,vs.length≤i+1∧H' acc=some (.lst vs)∧Pv (i+1) vs σ' H',fun σ' H' q=>⟨n - (i+1),by omega,rfl,q⟩,fun x H' y=>?_⟩
  exact g2 x H' y (fun σ2 v H4=>∃xs,H4 acc=some (.lst xs)∧xs.length<sizeLine∧(i+1≤n∧∃vs,vs.length≤i+1∧(upd H4 acc (.lst (xs ++ [v]))) acc=some (.lst vs)∧Pv (i+1) vs σ2 (upd H4 acc (.lst (xs ++ [v])))))
   (fun σ2 H4=>i+1≤n∧∃vs,vs.length≤i+1∧H4 acc=some (.lst vs)∧Pv (i+1) vs σ2 H4)
   (fun σ2 v H4 q1 q2=>⟨vs,q1,by omega,hlt,vs ++ [v],by simp;omega,upd_same,q2⟩) fun σ2 H4 q1 q2=>⟨hlt,vs,by omega,q1,q2⟩
 ·have e:i=n:=by omega
  subst e
  exact .inl (hst vs σc H hl ha hp)
end L2
namespace L2
open PySem PySem.Spec PyProof.Rows
noncomputable def gLst (K:PySem.W.Frag)(n:Nat)(t:TGs):TG:=fun v σ H Q=>∃a xs,v = .ref a∧SqL K H a xs∧xs.length=n∧t xs σ H Q
theorem pg_lst {X:Cx}{es:List Expr}{k:Nat}{pos:Pos}{t:TGs}{n:Nat}(hc:X.calm=true)(h:PGs X es t)
  (hn:(assignEach es X.env).length=n) (hst:(assignEach es X.env).findIdx? (·.1)=none):PG X (.Tuple es k pos) (gLst X.K n t):=by
 intro pins s σ H v u Q I r hw
 obtain⟨a,xs,rfl,hq,hl,hw⟩:=hw
 cases r
 obtain⟨its,rv,pl,hz⟩:=I.list hq
 rw[assign_Tuple]
 refine wpAny_bind (wpAny_standAt ?_)
 unfold unpack
 rw[hst]
 have e:(assignEach es X.env).length=its.toArray.size:=by simp[hn,← hl,rv.length]
 rw[e]
 refine wpAny_bind (wpAny_holding (PySem.W.kun_itemsOf (I.ok.hd hc) pl.isList fun h' hx=>?_))
 have I1:Inv X pins σ H { s with heap:=h' }:=I.kept (t':=s.toks) fun b o e=>hx b o (Nat.ne_of_lt (Heap.lt_size e)) e
 exact h pins _ σ H xs _ Q I1 (by simpa using rv) hw
theorem rd_glst {K:PySem.W.Frag}{n:Nat}{t:TGs}{σ:St}{H:Hp}{a:Addr}{xs:List V}{Q:St→Hp→Prop}(hq:SqL K H a xs)(hl:xs.length=n)(h:t xs σ H Q):gLst K n t (.ref a) σ H Q:=⟨a,xs,rfl,hq,hl,h⟩
section
variable {X:Cx}{a e o:Expr}{es:List Expr}{ta t tk:TA}{p pos apos cpos:Pos}
structure PKs (X:Cx) (kws:List Keyword) (t:TA):Prop where
 run:PK X kws t
theorem qk_nil:PKs X [] tNil:=⟨pk_nil⟩
end
section
variable {σ:St}{H:Hp}{Q:VK}{K:PySem.W.Frag}
end
section
variable {X:Cx}{K:PySem.W.Frag}
theorem on_neDK {k:Nat}(h:X.K=K)(hr:Room k X.A):OpR X (compareOp .NotEq) (rNeD K):=h ▸ on_neD hr
end
section
variable {H:Hp}{Q:VK}{K:PySem.W.Frag}{p:Addr}{xs:List V}{x:V}
end
theorem nin_pr {p c r q:Addr}(h:q ∉ [p,c,r]):q ∉ [p,r]:=by
 simp only[List.mem_cons,List.not_mem_nil,or_false,not_or]at h ⊢
 exact⟨h.1,h.2.2⟩
end L2
open PySem L2
namespace Mt
noncomputable def cruleD:List PyData→Bool
 | [a,b]=>withinD 1 7 b && (strEq "held" a || strEq "applied" a)
 | _=>false
noncomputable def ruleD:PyData→Bool
 | .tuple [a]=>strEq "written" a
 | .tuple ds=>cruleD ds
 | _=>false
noncomputable def needD:PyData→Int
 | .tuple [_,.int k]=>k+1
 | _=>1
end Mt
namespace L2
end L2
namespace Mt
noncomputable def lstI (xs:List Int):PyData:=.list (xs.map PyData.int)
noncomputable def LsAll (N:List Addr)(H:Hp):List V→List (List Int)→Prop
 | [],[]=>True
 | v :: vs,xs :: xss=>(∃l,v = .ref l∧l∉N∧H l=some (.lst (xs.map V.int)))∧LsAll N H vs xss
 | _,_=>False
theorem LsAll.drop {N:List Addr}{H:Hp}:∀ {vs:List V}{xss:List (List Int)},LsAll N H vs xss→LsAll [] H vs xss
 | [],[],_=>trivial
 | v :: vs,xs :: xss,⟨⟨l,h1,h2,h3⟩,r⟩=>⟨⟨l,h1,by simp,h3⟩,LsAll.drop r⟩
 | [],_ :: _,h=>h.elim
 | _ :: _,[],h=>h.elim
theorem LsAll.app {N:List Addr}{H:Hp}{ws:List V}{yss:List (List Int)}(h2:LsAll N H ws yss):∀ {vs:List V}{xss:List (List Int)},LsAll N H vs xss→LsAll N H (vs ++ ws) (xss ++ yss)
 | [],[],_=>h2
 | v :: vs,xs :: xss,⟨h,r⟩=>⟨h,LsAll.app h2 r⟩
 | [],_ :: _,h=>h.elim
 | _ :: _,[],h=>h.elim
theorem dtInts {K:PySem.W.Frag}{N:List Addr}{H:Hp}:∀xs:List Int,DtAll K N H (xs.map V.int) (xs.map PyData.int)
 | []=>.nil
 | x :: xs=>.cons (.int x) (dtInts xs)
theorem LsAll.dt {K:PySem.W.Frag}{N:List Addr}{H:Hp}:∀ {vs:List V}{xss:List (List Int)},LsAll N H vs xss→DtAll K N H vs (xss.map lstI)
 | [],[],_=>.nil
 | v :: vs,xs :: xss,⟨⟨l,h1,h2,h3⟩,r⟩=>by
  subst h1
  exact .cons (.lst (SqL.of h3) h2 (dtInts xs)) (LsAll.dt r)
 | [],_ :: _,h=>h.elim
 | _ :: _,[],h=>h.elim
end Mt
namespace L2
mutual
theorem Dt.sub {K:PySem.W.Frag}{N N':List Addr}{H:Hp}(s:∀b∈N',b∈N):∀ {v:V}{d:PyData},Dt K N H v d→Dt K N' H v d
 | _,_,.non=>.non
 | _,_,.bl b=>.bl b
 | _,_,.int i=>.int i
 | _,_,.str x=>.str x
 | _,_,.tup h n r=>.tup h (fun z=>n (s _ z)) (DtAll.sub s r)
 | _,_,.lst h n r=>.lst h (fun z=>n (s _ z)) (DtAll.sub s r)
 | _,_,.dk0 h n=>.dk0 h (fun z=>n (s _ z))
 | _,_,.dk1 h n r=>.dk1 h (fun z=>n (s _ z)) (Dt.sub s r)
theorem DtAll.sub {K:PySem.W.Frag}{N N':List Addr}{H:Hp}(s:∀b∈N',b∈N):∀ {vs:List V}{ds:List PyData},DtAll K N H vs ds→DtAll K N' H vs ds
 | _,_,.nil=>.nil
 | _,_,.cons h r=>.cons (Dt.sub s h) (DtAll.sub s r)
end
end L2
namespace L2
open PySem
noncomputable def RuT (H:Hp)(t:Addr):Prop:=H t=some (.tup [.str "written"])∨∃w k,H t=some (.tup [.str w,.int k])∧(w = "held"∨w = "applied")∧1≤k∧k≤7
noncomputable def RuAll (N:List Addr)(H:Hp)(vs:List V):Prop:=∀v∈vs,∃t,v = .ref t∧t∉N∧RuT H t
theorem RuAll.app {N:List Addr}{H:Hp}{vs ws:List V}(h1:RuAll N H vs)(h2:RuAll N H ws):RuAll N H (vs ++ ws):=fun v hv=>by
 rcases List.mem_append.mp hv with h |h
 ·exact h1 v h
 ·exact h2 v h
theorem RuT.dt {K:PySem.W.Frag}{H:Hp}{t:Addr}(h:RuT H t):∃d,Dt K [] H (.ref t) d∧Mt.ruleD d=true∧1≤Mt.needD d∧Mt.needD d≤8∧∃xs,SqT K H t xs∧(xs ++ [.int 0])[1]? = some (.int (Mt.needD d - 1))∧xs.length≤2:=by
 rcases h with h | ⟨w,k,h,hw,k1,k2⟩
 ·exact⟨.tuple [.str "written"],.tup (SqT.of h) (by simp) (.cons (.str _) .nil),rfl,by decide,by decide,_,SqT.of h,rfl,by simp⟩
 ·refine⟨.tuple [.str w,.int k],.tup (SqT.of h) (by simp) (.cons (.str _) (.cons (.int _) .nil)),?_,by show 1≤k+1;omega,by show k+1≤8;omega,_,SqT.of h,by simp[Mt.needD],by simp⟩
  simp only[Mt.ruleD,Mt.cruleD,Mt.withinD,Mt.strEq]
  rcases hw with rfl |rfl <;> simp[k1,k2]
end L2
namespace L2
open PySem PySem.Spec PyProof.Rows PySem.W
section
variable {X:Cx}
end
section
variable {X:Cx}{e:Expr}{es:List Expr}{t tk:TA}{pos p:Pos}{k:Nat}{f:Addr}{fd:FuncData}{ps ks:List Str}{sp:Sp}{XR:St→XK}{x:Str}{kws:List Keyword}
end
end L2
namespace L2
open PySem
theorem Ext.up3 {p c r:Addr}{H H':Hp}(e:Ext [p,r] H H'):Ext [p,c,r] H H':=e.mono fun b hb=>by
 simp only[List.mem_cons,List.not_mem_nil,or_false]at hb ⊢
 rcases hb with h |h
 ·exact .inl h
 ·exact .inr (.inr h)
end L2
namespace Mt
open PySem
mutual
noncomputable def tupB:PyData→Bool
 | .none=>true
 | .bool _=>true
 | .int _=>true
 | .str _=>true
 | .tuple es=>tupBAll es
 | _=>false
noncomputable def tupBAll:List PyData→Bool
 | []=>true
 | e :: es=>tupB e && tupBAll es
end
end Mt
namespace Mt
end Mt
namespace L2
open PySem PySem.Spec PyProof.Rows
section
variable {X:Cx}{es:List Expr}{t:TA}{pos p:Pos}{K:PySem.W.Frag}{k v a b tg:Expr}{tk tv:TE}{ta:TA}{x:Str}
theorem qi_range2 (hg:Gl X "range")(hm:X.mg "range" = none)(ha:PAs X [a,b] ta)(h1:notStar a=true)(h2:notStar b=true):PI X tg (.Call (.Name "range" p) [a,b] [] pos) (iRng2 ta) :=
 pi_range2 hg hm ha.run (by rw[star_ne h1,star_ne h2];rfl) (by rw[star_ne h2];rfl)
end
section
variable {σ:St}{H:Hp}{Q:VK}{K:PySem.W.Frag}
theorem rd_rng2 {ta:TA}{R:It→Hp→Prop}(h:ta σ H fun vs H1=>∃i j:Int,vs = [.int i,.int j]∧(-(2 ^ 62)≤i∧i<2 ^ 62∧-(2 ^ 62)≤j∧j<2 ^ 62)∧R (Itr i (j - i).toNat) H1):iRng2 ta σ H R:=h
end
end L2
namespace L2
open PySem
end L2
namespace Mt
open PySem
end Mt
namespace Mt
open PySem L2
end Mt
namespace L2
open PySem Mt
theorem RuT.data {K:PySem.W.Frag}{M:List Addr}{H:Hp}{t:Addr}(h:RuT H t):∃(w:Str)(xs:List V)(ds:List PyData),H t=some (.tup (.str w :: xs))∧DtAll K M H (.str w :: xs) (.str w :: ds)∧xs.length≤1∧(∀d∈PyData.str w :: ds,Itm 140 0 d)∧(w = "written"∨w = "held"∨w = "applied"):=by
 have ws:∀w:Str,(w = "written"∨w = "held"∨w = "applied")→Itm 140 0 (.str w):=by
  rintro w (rfl |rfl |rfl) <;> exact itm_str (by unfold cpsOk;decide +kernel) (by decide +kernel)
 rcases h with h | ⟨w,k,h,hw,k1,k2⟩
 ·refine⟨"written",[],[],h,.cons (.str _) .nil,by simp,fun d hd=>?_,.inl rfl⟩
  simp only[List.mem_cons,List.not_mem_nil,or_false]at hd
  subst hd;exact ws _ (.inl rfl)
 ·refine⟨w,[.int k],[.int k],h,.cons (.str _) (.cons (.int _) .nil),by simp,fun d hd=>?_,.inr hw⟩
  simp only[List.mem_cons,List.not_mem_nil,or_false]at hd
  rcases hd with rfl |rfl
  ·exact ws _ (.inr hw)
  ·exact itm_int (by omega)
end L2
namespace L2
open PySem PySem.Spec PyProof.Rows PySem.W
section
variable {X:Cx}{e:Expr}{es:List Expr}{te:TE}{t:TA}{p:Pos}
end
noncomputable def RvAt (h:Heap)(a t:Addr)(i:Int):Prop:=∃o,h.get? a=some o∧o.cls = .type "reversed"∧o.data = .fields #[.ref t,rawInt i]
section
variable {prog:Program}{w:World}{A:Around}{E:Value→Shared→Prop}{s:Shared}
theorem RvAt.typeIs {a t:Addr}{i:Int}(x:RvAt s.heap a t i):s.TypeIs (.ref a) "reversed":=let ⟨o,ho,hc,_⟩:=x; ⟨o,ho,hc⟩
end
section
variable {prog:Program}{w:World}{A:Around}{E:Value→Shared→Prop}{s:Shared}
end
section
variable {prog:Program}{w:World}{A:Around}{E:Value→Shared→Prop}{s:Shared}
end
section
variable {X:Cx}{a:Expr}{ta:TA}{p p2 pos pos2:Pos}
end
section
variable {K:Frag}{σ:St}{H:Hp}{Q:VK}{p:Addr}
end
end L2
namespace L2
open PySem PySem.Spec PyProof.Rows
noncomputable def iZipM (K:PySem.W.Frag)(ta:TA):TI:=fun σ H R=>ta σ H fun vs H1=>∃a b,vs = [.ref a,.ref b]∧(((∃xs,SqT K H1 a xs)∧(∃ys,SqT K H1 b ys)∧R (Itz K a b) H1)∨((∃xs,SqL K H1 a xs)∧(∃ys,SqL K H1 b ys)∧R (ItzL K a b) H1))
theorem pi_zipM {X:Cx}{es:List Expr}{k:Nat}{ps p pos:Pos}{e1 e2:Expr}{ta:TA}(hg:Gl X "zip")(hm:X.mg "zip" = none)(ha:PA X [e1,e2] ta)
  (hs:starEach [e1,e2] X.env = [(false,eval e1 X.env),(false,eval e2 X.env)]:=by rfl) (hs2:starEach [e2] X.env = [(false,eval e2 X.env)]:=by rfl) (hv:bootBuiltins "zip" = some (.type "zip"):=by decide +kernel) :
  PI X (.Tuple es k ps) (.Call (.Name "zip" p) [e1,e2] [] pos) (iZipM X.K ta):=by
 intro pins s σ H R I h
 refine Call_ (ld_blt I hg hm hv (PyProof.Rows.callWith_type1 (thn (ha pos pins s σ H _ I h) fun us s1 ⟨vs,H1,I1,r1,q1⟩=>?_) (by rw[hs,hs2]) (by rw[hs2];rfl)))
 obtain⟨a,b,e,q1⟩:=q1
 subst e
 obtain⟨u,v,rfl,ra,rb⟩:=vals2 r1
 cases ra
 cases rb
 rcases q1 with ⟨⟨xs,qx⟩,⟨ys,qy⟩,q⟩ | ⟨⟨xs,qx⟩,⟨ys,qy⟩,q⟩
 ·skip
  obtain⟨us,rx,px,zx⟩:=I1.tuple qx
  obtain⟨ws,ry,py,zy⟩:=I1.tuple qy
  refine Zt.call_zip (xs:=us.toArray) (ys:=ws.toArray) px py fun h' hz hTI hTO h1 h2 kp=>?_
  refine wpAny_pyIter_zip (s:={ s1 with heap:=h' }) hz ?_
  have la:a<s1.heap.objs.size:=by obtain⟨o,e,_⟩:=px;exact Heap.lt_size e
  have lb:b<s1.heap.objs.size:=by obtain⟨o,e,_⟩:=py;exact Heap.lt_size e
  have J:Inv X pins σ H1 { s1 with heap:=h' }:=I1.kept (t':=s1.toks) kp
  refine⟨_,[s1.heap.objs.size+4,s1.heap.objs.size+2,s1.heap.objs.size+3,s1.heap.objs.size,s1.heap.objs.size+1],_,Itz X.K a b,H1,rfl,J,turn_zip (a:=a) (b:=b) (Nat.ne_of_lt la) (Nat.ne_of_lt (Nat.lt_succ_of_lt lb)) ?_,⟨hz,hTI,⟨_,_,hTO⟩,h1,h2⟩,fun c hc=>?_,q⟩
  ·generalize s1.heap.objs.size=n at la lb
   constructor <;> (try simp only[List.mem_cons,List.not_mem_nil,or_false,not_or,ne_eq]) <;> (unfold Addr at *;omega)
  ·have le:s1.heap.objs.size≤c:=by
    simp only[List.mem_cons,List.not_mem_nil,or_false]at hc
    rcases hc with rfl |rfl |rfl |rfl |rfl
    ·exact Nat.le_add_right _ _
    ·exact Nat.le_add_right _ _
    ·exact Nat.le_add_right _ _
    ·exact Nat.le_refl _
    ·exact Nat.le_add_right _ _
   exact I1.fpOk le (I1.hok.fresh le)
 ·skip
  obtain⟨us,rx,px,zx⟩:=I1.list qx
  obtain⟨ws,ry,py,zy⟩:=I1.list qy
  refine Zt.call_zipL (xs:=us.toArray) (ys:=ws.toArray) (Zt.plainL_is px) (Zt.plainL_is py) fun h' hz hTI hTO h1 h2 kp=>?_
  refine wpAny_pyIter_zip (s:={ s1 with heap:=h' }) hz ?_
  have la:a<s1.heap.objs.size:=by obtain⟨o,_,e,_⟩:=px;exact Heap.lt_size e
  have lb:b<s1.heap.objs.size:=by obtain⟨o,_,e,_⟩:=py;exact Heap.lt_size e
  have J:Inv X pins σ H1 { s1 with heap:=h' }:=I1.kept (t':=s1.toks) kp
  refine⟨_,[s1.heap.objs.size+4,s1.heap.objs.size+2,s1.heap.objs.size+3,s1.heap.objs.size,s1.heap.objs.size+1],_,ItzL X.K a b,H1,rfl,J,turn_zipL (a:=a) (b:=b) (Nat.ne_of_lt la) (Nat.ne_of_lt (Nat.lt_succ_of_lt lb)) ?_,⟨hz,hTI,⟨_,_,hTO⟩,h1,h2⟩,fun c hc=>?_,q⟩
  ·generalize s1.heap.objs.size=n at la lb
   constructor <;> (try simp only[List.mem_cons,List.not_mem_nil,or_false,not_or,ne_eq]) <;> (unfold Addr at *;omega)
  ·have le:s1.heap.objs.size≤c:=by
    simp only[List.mem_cons,List.not_mem_nil,or_false]at hc
    rcases hc with rfl |rfl |rfl |rfl |rfl
    ·exact Nat.le_add_right _ _
    ·exact Nat.le_add_right _ _
    ·exact Nat.le_add_right _ _
    ·exact Nat.le_refl _
    ·exact Nat.le_add_right _ _
   exact I1.fpOk le (I1.hok.fresh le)
theorem qi_zipM {X:Cx}{a b:Expr}{ta:TA}{p pos:Pos}{es:List Expr}{k:Nat}{ps:Pos}(hg:Gl X "zip")(hm:X.mg "zip" = none)(ha:PAs X [a,b] ta)(h1:notStar a=true)(h2:notStar b=true):PI X (.Tuple es k ps) (.Call (.Name "zip" p) [a,b] [] pos) (iZipM X.K ta) :=
 pi_zipM hg hm ha.run (by rw[star_ne h1,star_ne h2];rfl) (by rw[star_ne h2];rfl) (by decide +kernel)
theorem rd_izipM {K:PySem.W.Frag}{ta:TA}{σ:St}{H:Hp}{R:It→Hp→Prop}(h:ta σ H fun vs H1=>∃a b,vs = [.ref a,.ref b]∧(((∃xs,SqT K H1 a xs)∧(∃ys,SqT K H1 b ys)∧R (Itz K a b) H1)∨((∃xs,SqL K H1 a xs)∧(∃ys,SqL K H1 b ys)∧R (ItzL K a b) H1))):iZipM K ta σ H R:=h
end L2
namespace L2
open PySem PySem.Spec PyProof.Rows PySem.W
section
variable {σ:St}{H:Hp}
end
noncomputable def brokL (room en:Int)(ps:List (Int×Int)):List Int:=(ps.filter fun p=>decide (p.2+room<en)).map (·.1)
noncomputable def leftL (room en:Int)(ps:List (Int×Int)):List Int:=(ps.filter fun p=>decide (p.2+room ≥ en)).map (·.2)
section
variable {σ:St}{H:Hp}{Q:VK}{td ty tv:TE}{D:Ends}
end
noncomputable def FK (fs:List (Int×Int)):List (Key×V):=fs.map fun p=>(.inl p.1,.int p.2)
noncomputable def lookI:List (Int×Int)→Int→Option Int
 | [],_=>none
 | p :: r,k=>if p.1=k then some p.2 else lookI r k
end L2
namespace Mt
open PySem L2
noncomputable def lineD (m:Int):PyData→Option (Int×Int×Int)
 | .tuple [.int l,.int h,.int p,.int f,.bool _]=>if (0≤l∧l≤1000000000)∧l % m=h∧(0≤p∧p≤1000000000)∧(0≤f∧f≤1000000) then some (l,p,f) else none
 | _=>none
noncomputable def stepF (m:Int)(fs:List (Int×Int))(d:PyData):Option (List (Int×Int)) :=
 match lineD m d with
 | none=>none
 | some (l,p,f)=>match lookI fs l,lookI fs p with
  | none,some g=>if p<l∧g≤f then some (fs ++ [(l,f)]) else none
  | _,_=>none
noncomputable def runF (m:Int):List (Int×Int)→List PyData→Option (List (Int×Int))
 | fs,[]=>some fs
 | fs,d :: ds=>(stepF m fs d).bind fun gs=>runF m gs ds
noncomputable def firstD:PyData→Bool
 | .tuple [.int a,.int b,.none,.int c,.bool false]=>decide (a=0) && decide (b=0) && decide (c=0)
 | _=>false
noncomputable def rightD (m:Int):PyData→Bool
 | .list (d :: ds)=>firstD d && (runF m [(0,0)] ds).isSome
 | _=>false
section
variable {m:Int}{d0 d1 d2 d3 d4:PyData}
end
end Mt
namespace L2
open PySem PySem.Spec PyProof.Rows
end L2
namespace PySem
noncomputable def PyData.width:PyData→Nat
 | .list ds=>ds.length
 | _=>0
end PySem
namespace Mt
open PySem L2
noncomputable def optD:Option Int→PyData
 | none=>.none
 | some i=>.int i
end Mt
namespace L2
open PySem Mt
noncomputable def OkW (K:PySem.W.Frag)(M:List Addr)(H:Hp)(v:V):Prop:=∃d,Dt K M H v d∧((∃w k,Itm w k d∧w≤200000∧k≤30)∨d = .dict [])∧d.width<500
theorem OkW.ext {K:PySem.W.Frag}{M:List Addr}{H H':Hp}{v:V}(h:OkW K M H v)(e:Ext M H H'):OkW K M H' v:=by
 obtain⟨d,h1,h2⟩:=h
 exact⟨d,h1.ext e,h2⟩
structure BC (K:PySem.W.Frag) (M:List Addr) (H:Hp) (l:Addr) (vs:List V) (D:List PyData):Prop where
 g:H l=some (.lst vs)
 n:l∉M
 d:DtAll K M H vs D
theorem BC.ext {K:PySem.W.Frag}{M:List Addr}{H H':Hp}{l:Addr}{vs:List V}{D:List PyData}(b:BC K M H l vs D)(e:Ext M H H'):BC K M H' l vs D:=⟨e _ _ b.g b.n,b.n,b.d.ext e⟩
section
variable {K:PySem.W.Frag}{st c r:Addr}{m m':Nat}{l:Addr}{vs:List V}{D:List PyData}{t t2:Addr}{xs ys:List V}{ds es:List PyData}{L:List V}{H H':Hp}{v:V}
end
end L2
namespace Mt
open PySem L2
end Mt
namespace L2
open PySem PySem.Spec PyProof.Rows PySem.W
section
variable {X:Cx}{e f o i value:Expr}{es:List Expr}{ta td ty tx tv:TE}{t:TA}{pos pos' p apos cpos tpos:Pos}{CX:CXT}{k:Nat}{fa C:Addr}{fd:FuncData}{ps:List Str}{sp:Sp}{dvs:List V}{ds:List Value}{E:XK}{x m n:Str}
theorem qs_fld (ha:PE X o ta)(hv:PE X value tv)(hs:swapsWith value (some (.Attribute o n pos')) pos.line X.env=pure false):PSw X (.Assign [.Attribute o n pos'] value pos) (sFld X.K ta tv n):=⟨ps_fld ha hv hs⟩
end
section
variable {σ:St}{H:Hp}{Q:VK}{ta td ty tx tv:TE}{t:TA}{D:Ends}{K:Frag}{C p dx:Addr}{fs:List (Str×V)}{n m:Str}{v:V}{sp:Sp}{dvs:List V}{E:XK}
theorem rd_fld (h:ta σ H fun x H1=>∃a C dx fs v,x = .ref a∧H1 a=some (.ins C dx fs)∧Cls K C∧NoAttr K C n∧fs.lookup n=some v∧Q v H1):tFld K ta n σ H Q:=h
theorem rd_sfld (h:tv σ H fun y H1=>ta σ H1 fun x H2=>∃a C dx fs,x = .ref a∧H2 a=some (.ins C dx fs)∧Cls K C∧NoAttr K C n∧fs.length<1000∧D.nx σ (upd H2 a (.ins C dx (putF n y fs)))):sFld K ta tv n D σ H:=h
theorem rd_meth (h:ta σ H fun x H1=>∃a dx fs,x = .ref a∧H1 a=some (.ins C dx fs)∧fs.lookup m=none∧t σ H1 fun vs H2=>sp (x :: (vs ++ dvs)) H2 Q E):tMeth C m sp dvs E ta t σ H Q:=h
end
section
variable {X:Cx}
end
theorem dl_keys:typeLookup (.type "tuple") "keys" = pure none:=by rw[typeLookup_type,builtinLookup_eq_fast];kernel_rfl
set_option maxRecDepth 8000 in
noncomputable def slF (room:Int)(d:Addr):List (Str×V):=putF "places" (.ref d) (putF "room" (.int room) [])
noncomputable def keptL (room en:Int)(qs:List (Int×Int)):List (Int×Int):=qs.filter fun x=>decide (x.2+room ≥ en)
theorem left_kept (room en:Int)(qs:List (Int×Int)):leftL room en qs=(keptL room en qs).map (·.2):=rfl
theorem kept_kept (room en:Int)(qs:List (Int×Int)):keptL room en (keptL room en qs)=keptL room en qs:=by
 unfold keptL;rw[List.filter_filter];simp
theorem brok_kept (room en:Int)(qs:List (Int×Int)):brokL room en (keptL room en qs) = []:=by
 unfold brokL keptL
 rw[List.filter_filter,List.map_eq_nil_iff,List.filter_eq_nil_iff]
 intro x _
 simp
section
variable {C:Addr}{H H':Hp}{st c r sp d lh:Addr}{room en app:Int}{many:Nat}{qs:List (Int×Int)}{hs:List Int}{n n' i:Nat}
end
inductive KOk {α:Type}(n:Nat) (P:α→Prop):KasT α→Prop
 | ret {a:α}(h:P a):KOk n P (.ret a)
 | ask {i j:Nat}{k:Bool→KasT α}(hi:i<n) (hj:j<n) (h:∀b,KOk n P (k b)):KOk n P (.ask i j k)
theorem KOk.bind {α β:Type}{n:Nat}{P:α→Prop}{R:β→Prop}{f:α→KasT β}{t:KasT α}(h:KOk n P t)(hf:∀a,P a→KOk n R (f a)):KOk n R (t.bind f):=by
 induction h with
 | ret h=>exact hf _ h
 | ask hi hj _ ih=>exact .ask hi hj ih
section
variable {n:Nat}(hn:0<n)
include hn
end
section
variable {prog:Program}{w:World}{A:Around}{E:Value→Shared→Prop}{s:Shared}{d it:Addr}{es:Array DictEntry}{ep i:Nat}
end
section
variable {prog:Program}{w:World}{A:Around}{E:Value→Shared→Prop}{s:Shared}
end
section
variable {X:Cx}{CX:CXT}{k:Nat}{f C:Addr}{fd:FuncData}{ps:List Str}{sp:Sp}{E:XK}
theorem run_fnA {A:Around}{pins:List (Addr×Obj)}{σ:St}{H:Hp}{s:Shared}{Q:VK}{us:List Value}{vs:List V}(F:FnOk X.prog X.w X.K X.mg X.base CX k f fd ps sp)(hr:Room k A)(e0:Env0 X.prog X.w X.K X.mg X.base A X.stack s H)(hb:Binds X.K fd ps [])
  (hx:Passes CX X E) (I:Inv X pins σ H s) (r:Vals vs us) (h:sp vs H Q E):wpAny (model X.prog X.w) A (call (.ref f) us) (EP X pins σ Q) X.xe s:=by
 have hl:(us ++ []).length=ps.length:=by rw[List.append_nil,← r.length];exact F.len _ _ _ _ h
 refine wpAny_call (codeAny_mono (F.run A X.stack s H ⟨us,[]⟩ (us ++ []) vs Q E hr e0 (hb s us I.kIn hl) (by rw[List.append_nil];exact r) h) fun r s' hq=>?_)
 cases r with
 | error e=>exact hx pins σ H s e s' I hq
 | ok fl =>
  cases fl with
  | ret u=>exact I.after hq
  | next=>exact hq.elim
  | brk=>exact hq.elim
  | cont=>exact hq.elim
noncomputable def rLenO (C:Addr)(sp:Sp)(E:XK):TR:=fun xs H Q=>∃a dx fs,xs = [.ref a]∧H a=some (.ins C dx fs)∧sp [.ref a] H (fun v H'=>∃n:Int,v = .int n∧0≤n∧n<2 ^ 63∧Q (.int n) H') E
theorem cn_lenO (hm:Meth X.K C "__len__" f)(F:FnOk X.prog X.w X.K X.mg X.base CX k f fd ps sp)(hr:Room (k+1) X.A)(hb:Binds X.K fd ps [])(hx:Passes CX X E):CallR X (.builtin "len") (rLenO C sp E):=by
 intro pins s σ H xs us Q I r h
 obtain⟨a,dx,fs,rfl,ha,q⟩:=h
 obtain⟨u,rfl,ru⟩:=vals1 r
 cases ru
 obtain⟨mA,O,_⟩:=ins_get I.hok ha
 obtain⟨od,In,_⟩:=O.look
 refine Calls.call_function_entry kind_len plain_len entry_len (args_len1 _) ?_
 unfold Builtin.«len»
 refine wpAny_bind (m:=oneArg "len" _) (wpAny_pure (wpAny_bind (m:=callSpecial? (.ref a) (Str.ofString "__len__")) ?_))
 refine special_fn I.kIn In hm.at_ (beq_iff_eq.mp hm.fn) (thn (run_fnA (us:=[.ref a]) (vs:=[.ref a]) F hr.in1 I.env0.in1 hb hx I (.cons rfl .nil) q) ?_)
 rintro u s1 ⟨v,H1,I1,rv,n,rfl,n0,n1,q1⟩
 obtain⟨t,rfl⟩:=rv
 refine wpAny_bind (wpAny_holding (wpAny_pure (wpAny_bind (wpAny_letGo ?_))))
 show wpAny _ _ (if n<0 then _ else _) _ _ s1
 rw[if_neg (by omega)]
 show wpAny _ _ (if n ≥ 2 ^ 63 then _ else _) _ _ s1
 rw[if_neg (by omega)]
 exact wpAny_bind (wpAny_mkInt (wpAny_pure ⟨_,rfl,.int n,H1,I1.tok _,⟨_,rfl⟩,q1⟩))
end
section
variable {prog:Program}{w:World}{A:Around}{E:Value→Shared→Prop}{s:Shared}{K:Frag}{x C:Addr}{ox:Obj}{od:Option Obj}{f:Addr}{b tb:Value}
end
section
variable {X:Cx}{CX:CXT}{k:Nat}{f C:Addr}{fd:FuncData}{ps:List Str}{sp:Sp}{E:XK}
end
noncomputable abbrev Ent:=(Int×Int)×Addr×(Int×Int)
noncomputable def kP (k:Int×Int):List Key:=[.inl k.1,.inl k.2]
noncomputable def bkD (fs:List Ent):List (List Key×V):=fs.map fun q=>(kP q.1,.ref q.2.1)
structure PB (H:Hp) (d:Addr) (fs:List Ent):Prop where
 dc:H d=some (.dT (bkD fs))
 vl:∀q∈fs,H q.2.1=some (.tup [.int q.2.2.1,.int q.2.2.2])
 nd:(fs.map (·.1)).Nodup
noncomputable def lookB:List Ent→Int×Int→Option (Addr×(Int×Int))
 | [],_=>none
 | q :: r,k=>if q.1=k then some q.2 else lookB r k
theorem lookB_none {k:Int×Int}:∀ {fs:List Ent},lookB fs k=none↔k∉fs.map (·.1)
 | []=>by simp[lookB]
 | q :: r=>by
  unfold lookB
  by_cases e:q.1=k
  ·rw[if_pos e];simp[e]
  ·rw[if_neg e,lookB_none];simp[Ne.symm e]
section
variable {X:Cx}
end
section
variable {X:Cx}
noncomputable def tMethX (C:Addr)(m:Str)(sp:Sp)(dvs:List V)(XR:St→XK)(ta:TE)(t:TA):TE:=fun σ H Q=>ta σ H fun x H1=>∃a dx fs,x = .ref a∧H1 a=some (.ins C dx fs)∧fs.lookup m=none∧t σ H1 fun vs H2=>sp (x :: (vs ++ dvs)) H2 Q (XR σ)
theorem qe_methX {e o:Expr}{es:List Expr}{ta:TE}{t:TA}{pos apos:Pos}{k:Nat}{fa C:Addr}{fd:FuncData}{ps:List Str}{sp:Sp}{XR:St→XK}{m:Str}{pl:Sem Bool}(he:PE X o ta)(c:Cls X.K C)(hm:Meth X.K C m fa)(F:FnOk X.prog X.w X.K X.mg X.base (CX1 X.prog X.w) k fa fd ps sp)(hr:Room k X.A)(hb:Binds X.K fd ps [])(hx:Px X XR)(ha:PAs X (e :: es) t)
  (h1:notStar e=true) (h2:noStars es=true)
  (ht:eval (.Call (.Attribute o m apos) (e :: es) [] pos) X.env=(do
   let ov ← eval o X.env
   standAt apos.atName
   let (f,first) ← holding [ov] (getMethod ov m pl)
   callWith pos f first (backTo pos (starEach (e :: es) X.env)) (backToKw pos (keywordEach [] X.env)))) :
  PE X (.Call (.Attribute o m apos) (e :: es) [] pos) (tMethX C m sp [] XR ta t):=by
 intro pins s σ H Q I h
 refine PySem.W.methodCall_KW (pl:=pl) (thn (he pins s σ H _ I h) fun u s1 ⟨x,H1,I1,rx,a,dx,fs,ex,ea,l,q⟩=>?_) ht
 subst ex
 obtain rfl:u=Value.ref a:=rx
 refine getmeth_ok I1 ea c hm l ?_
 refine PySem.W.callWith_K (first:=[.ref a]) (h₀:=X.base) I1.ok.mod.kin hm.kp (thn (ha.run pos pins s1 σ H1 _ I1 q) fun us s2 ⟨vs,H2,I2,r2,q2⟩=>⟨I2.kIn,?_⟩) (star_ne h1) (stars_any h2)
 exact run_fnX (us:=.ref a :: us) (vs:=.ref a :: vs) (dvs:=[]) (ds:=[]) F hr hb .nil hx I2 (.cons rfl r2) (by simpa using q2)
theorem rd_methX {C:Addr}{m:Str}{sp:Sp}{dvs:List V}{XR:St→XK}{ta:TE}{t:TA}{σ:St}{H:Hp}{Q:VK}(h:ta σ H fun x H1=>∃a dx fs,x = .ref a∧H1 a=some (.ins C dx fs)∧fs.lookup m=none∧t σ H1 fun vs H2=>sp (x :: (vs ++ dvs)) H2 Q (XR σ)):tMethX C m sp dvs XR ta t σ H Q:=h
end
theorem for_zipLW {K:PySem.W.Frag}{a b:Addr}{xs ys:List V}{g:TG}{tb:TS}{D:Ends}{σ:St}{H:Hp}(hxy:xs.length=ys.length)(Pv:Nat→St→Hp→Prop)(h0:Pv 0 σ H)(hl:∀i σ H,i≤xs.length→Pv i σ H→SqL K H a xs∧SqL K H b ys)
  (hs:∀i x y p σ H,xs[i]? = some x→ys[i]? = some y→H p=none→Pv i σ H→g (.ref p) σ (upd H p (.tup [x,y])) fun σ2 H2=>tb { D with nx:=Pv (i+1),ct:=Pv (i+1),bk:=D.nx } σ2 H2) (hd:∀ σ H,Pv xs.length σ H→D.nx σ H):ForW (ItzL K a b) g tb D σ H:=by
 refine⟨fun i m σ H=>m=xs.length - i∧i≤xs.length∧Pv i σ H,⟨xs.length,by simp,Nat.zero_le _,h0⟩,?_⟩
 rintro i m σ H ⟨rfl,hi,p⟩
 obtain⟨q1,q2⟩:=hl i σ H hi p
 by_cases hlt:i<xs.length
 ·refine .inr ⟨⟨xs,ys,xs[i],ys[i],q1,q2,by simp[hlt],by simp⟩,Pv (i+1),fun σ' H' p'=>⟨xs.length - (i+1),by omega,rfl,hlt,p'⟩,?_⟩
  rintro x H' ⟨r,x1,y1,hn,hx,hy,rfl,rfl⟩
  exact hs i x1 y1 r σ _ (hx xs q1) (hy ys q2) hn p
 ·have e:i=xs.length:=by omega
  subst e
  exact .inl ⟨⟨xs,ys,q1,q2,.inl (Nat.le_refl _)⟩,hd σ H p⟩
noncomputable abbrev Sv4:=(Int×Int)×(Int×Int)
noncomputable def vw4 (fs:List Ent):List Sv4:=fs.map fun q=>(q.1,q.2.2)
noncomputable def bkF (d:Addr):List (Str×V):=putF "sayings" (.ref d) []
structure BkAt (C:Addr) (H:Hp) (p d:Addr) (fs:List Ent):Prop where
 ob:∃dx,H p=some (.ins C dx (bkF d))
 pb:PB H d fs
theorem PB.other {H:Hp}{d b:Addr}{fs:List Ent}{o:HO}(P:PB H d fs) {kvs:List (List Key×V)}(hb:H b=some (.dT kvs))(n:d≠b):PB (upd H b o) d fs :=
 ⟨by rw[upd_ne n];exact P.dc,fun q hq=>by rw[upd_ne (ne_of (P.vl q hq) hb (by intro z;cases z))];exact P.vl q hq,P.nd⟩
theorem BkAt.other {C:Addr}{H:Hp}{p d b:Addr}{fs:List Ent}{o:HO}(B:BkAt C H p d fs) {kvs:List (List Key×V)}(hb:H b=some (.dT kvs))(n:d≠b):BkAt C (upd H b o) p d fs :=
 ⟨B.ob.imp fun _ e=>by rw[upd_ne (ne_of e hb (by intro z;cases z))];exact e,B.pb.other hb n⟩
noncomputable def putB (fs:List Ent)(k:Int×Int)(z:Addr×(Int×Int)):List Ent:=if (lookB fs k).isSome then fs.map (fun q=>if q.1=k then (q.1,z) else q) else fs ++ [(k,z)]
theorem putB_mem {fs:List Ent}{k:Int×Int}{z:Addr×(Int×Int)}{q:Ent}(h:q∈putB fs k z):q∈fs∨q=(k,z):=by
 unfold putB at h
 split at h
 ·obtain⟨y,hy,rfl⟩:=List.mem_map.mp h
  by_cases e:y.1=k
  ·right;simp[e]
  ·left;simpa [e]using hy
 ·simpa using h
theorem putB_nd {fs:List Ent}(k:Int×Int)(z:Addr×(Int×Int))(nd:(fs.map (·.1)).Nodup):((putB fs k z).map (·.1)).Nodup:=by
 unfold putB
 cases e:lookB fs k with
 | none =>
  simp only[Option.isSome_none,Bool.false_eq_true,if_false]
  rw[List.map_append,List.nodup_append]
  refine⟨nd,by simp,fun a ha b hb=>?_⟩
  simp at hb
  subst hb
  rintro rfl
  exact lookB_none.mp e ha
 | some y =>
  simp only[Option.isSome_some,if_true]
  rw[List.map_map]
  have:(fs.map ((fun q:Ent=>q.1) ∘ fun q=>if q.1=k then (q.1,z) else q))=fs.map (·.1):=by
   apply List.map_congr_left
   intro q _
   by_cases h:q.1=k <;> simp[h]
  rw[this]
  exact nd
theorem PB.put {H:Hp}{d va:Addr}{fs:List Ent}{k e:Int×Int}(P:PB H d fs)(hv:H va=some (.tup [.int e.1,.int e.2])):PB (upd H d (.dT (bkD (putB fs k (va,e))))) d (putB fs k (va,e)) :=
 ⟨upd_same,fun q hq=>by
  have:H q.2.1=some (.tup [.int q.2.2.1,.int q.2.2.2]):=by
   rcases putB_mem hq with h |rfl
   ·exact P.vl q h
   ·exact hv
  rw[upd_ne (ne_of this P.dc (by intro z;cases z))];exact this,putB_nd _ _ P.nd⟩
noncomputable def okS (q:Sv4):Prop:=0≤q.1.1∧q.1.1≤7∧0≤q.1.2∧q.1.2≤1000000000∧0≤q.2.1∧q.2.1≤1000000∧0≤q.2.2∧q.2.2≤q.2.1
noncomputable def sayT (q:Sv4):PyData:=.tuple [.int q.1.1,.int q.1.2,.int q.2.1,.int q.2.2]
noncomputable def SayL (K:PySem.W.Frag)(H:Hp)(ws:List V)(qs:List Sv4):Prop:=Paired (fun w (q:Sv4)=>∃b,w=V.ref b∧SqT K H b [.int q.1.1,.int q.1.2,.int q.2.1,.int q.2.2]) ws qs
theorem dt_tuple {K:PySem.W.Frag}{N:List Addr}{H:Hp}{x:V}{es:List PyData}(h:Dt K N H x (.tuple es)):∃b ys,x = .ref b∧SqT K H b ys∧DtAll K N H ys es:=by
 cases h with
 | tup q n r=>exact⟨_,_,rfl,q,r⟩
theorem sqT_dict {K:PySem.W.Frag}{H H':Hp}{d b:Addr}{ys:List V}{kvs:List (List Key×V)}(x:Ext [d] H H')(hd:H d=some (.dT kvs))(h:SqT K H b ys):SqT K H' b ys:=by
 rcases h with (h | ⟨o,h⟩) |h
 ·exact .inl (.inl (x _ _ h (by simpa using ne_of h hd (by intro z;cases z))))
 ·exact .inl (.inr ⟨o,x _ _ h (by simpa using ne_of h hd (by intro z;cases z))⟩)
 ·exact .inr h
theorem SayL.dt {K:PySem.W.Frag}{H:Hp}:∀ {ws:List V}{qs:List Sv4},SayL K H ws qs→DtAll K [] H ws (qs.map sayT)
 | _,_,.nil=>.nil
 | _,_,.cons ⟨b,e,g⟩ r=>by subst e;exact .cons (.tup g (by simp) (.cons (.int _) (.cons (.int _) (.cons (.int _) (.cons (.int _) .nil))))) (SayL.dt r)
noncomputable def LastOk (H:Hp)(ls:List V):Prop:=∀v∈ls,∃(t:Addr)(q:Sv4),v = .ref t∧H t=some (.tup [.int q.1.1,.int q.1.2,.int q.2.1,.int q.2.2])∧okS q
theorem LastOk.map {H H':Hp}{ls:List V}(h:LastOk H ls)(f:∀t xs,H t=some (.tup xs)→H' t=some (.tup xs)):LastOk H' ls:=fun v hv=>by
 obtain⟨t,q,e,g,ok⟩:=h v hv
 exact⟨t,q,e,f _ _ g,ok⟩
noncomputable def NL (H H':Hp):Prop:=∀b o,H b=some o→(∀xs,o ≠ .lst xs)→H' b=some o
theorem PB.nl {H H':Hp}{d:Addr}{fs:List Ent}(P:PB H d fs)(x:NL H H'):PB H' d fs:=⟨x _ _ P.dc (fun _ z=>by cases z),fun q hq=>x _ _ (P.vl q hq) (fun _ z=>by cases z),P.nd⟩
theorem BkAt.nl {C:Addr}{H H':Hp}{p d:Addr}{fs:List Ent}(B:BkAt C H p d fs)(x:NL H H'):BkAt C H' p d fs:=⟨B.ob.imp fun _ e=>x _ _ e (fun _ z=>by cases z),B.pb.nl x⟩
theorem LastOk.nl {H H':Hp}{ls:List V}(h:LastOk H ls)(x:NL H H'):LastOk H' ls:=h.map fun _ _ g=>x _ _ g (fun _ z=>by cases z)
theorem lst_dict {H H':Hp}{l e:Addr}{ls:List V}{kvs:List (List Key×V)}(h:H l=some (.lst ls))(x:Ext [e] H H')(he:H e=some (.dT kvs)):H' l=some (.lst ls):=x _ _ h (by simpa using ne_of h he (by intro z;cases z))
section
variable {C:Addr}{H H':Hp}{st c r:Addr}{m i:Nat}{p0 d0 e0 p1 d1 e1 la:Addr}{fs0 gs0 fs1 gs1:List Ent}{ls:List V}
end
end L2
namespace Mt
open PySem L2
noncomputable def sayC (d1 d2 d3 d4:PyData):Bool:=withinD 0 7 d1 && withinD 0 1000000000 d2 && withinD 0 1000000 d3 && (match d3 with | .int e=>withinD 0 e d4 |_=>false)
noncomputable def sayD:PyData→Bool
 | .tuple [d1,d2,d3,d4]=>sayC d1 d2 d3 d4
 | _=>false
theorem tup_of {d:PyData}(h:isTupD d=true):∃es,d = .tuple es:=by
 cases d with
 | tuple es=>exact⟨es,rfl⟩
 | _=>cases h
end Mt
namespace L2
open PySem PySem.Spec PyProof.Rows PySem.W
noncomputable def sgn (c:Nat):Str:=⟨#[c]⟩
noncomputable def Its (z:Str):It:=⟨fun i _=>i<z.cps.size,fun i H v H'=>H'=H∧∃c,z.cps[i]? = some c∧v = .str (sgn c),fun i _=>i=z.cps.size⟩
theorem turn_strA {P:Program}{w:World}{K:PySem.W.Frag}{tg:Expr}(z:Str)(t:Tok)(it:Addr):Turn P w K tg (Its z) [it] it (fun i h=>h.IsStrIter it "str_ascii_iterator" z t i) where
 mem:=by simp
 obj:=fun i h st b hb=>by
  have e:b=it:=by simpa using hb
  subst e
  obtain⟨o,e,c,d⟩:=st
  exact⟨o,e,fun v q=>by rw[d]at q;cases q⟩
 keep:=fun i h h' ⟨o,e,r⟩ k=>⟨o,k it (by simp) o e,r⟩
 item:=by
  intro X hP hw hK hc i pins s σ H E I hf st hi
  subst hP hw hK
  have hi:i<z.cps.size:=hi
  obtain⟨f0,f1,f2,f3,f4,f5⟩:=hf it (by simp)
  refine wpAny_pyNext_ascii_item st (c:=z.cps[i]) (by simp[hi]) fun h' st' sb=>?_
  have I1:Inv X pins σ H { s with heap:=h',toks:=s.toks+1 }:=I.turned (t':=s.toks+1) (fun b o hb e=>(sb.2 b hb).trans e) f0 f1 f3 f4 f5
  obtain⟨o,e,c,d⟩:=id st'
  exact⟨_,rfl,go_of (s:={ s with heap:=h',toks:=s.toks+1 }) e c d (by decide) ⟨.str (sgn z.cps[i]),H,I1,⟨_,rfl⟩,⟨rfl,_,by simp[hi],rfl⟩,st',fun b hb=>(hf b hb).1⟩⟩
 done:=by
  intro X hP hw hK hc i pins s σ H E I hf st hi
  subst hP hw hK
  have hi:i=z.cps.size:=hi
  obtain⟨f0,f1,f2,f3,f4,f5⟩:=hf it (by simp)
  exact wpAny_pyNext_ascii_end (I.ok.hd hc) st (by simp[hi]) fun h' eb=>⟨rfl,I.turned (t':=s.toks) (fun b o hb e=>eb b o hb e) f0 f1 f3 f4 f5⟩
 self:=fun _ _ _ _ _ st h=>wpAny_pyIter_striter_ascii st h
theorem turn_strW {P:Program}{w:World}{K:PySem.W.Frag}{tg:Expr}(z:Str)(t:Tok)(it:Addr):Turn P w K tg (Its z) [it] it (fun i h=>h.IsStrIter it "str_iterator" z t i) where
 mem:=by simp
 obj:=fun i h st b hb=>by
  have e:b=it:=by simpa using hb
  subst e
  obtain⟨o,e,c,d⟩:=st
  exact⟨o,e,fun v q=>by rw[d]at q;cases q⟩
 keep:=fun i h h' ⟨o,e,r⟩ k=>⟨o,k it (by simp) o e,r⟩
 item:=by
  intro X hP hw hK hc i pins s σ H E I hf st hi
  subst hP hw hK
  have hi:i<z.cps.size:=hi
  obtain⟨f0,f1,f2,f3,f4,f5⟩:=hf it (by simp)
  refine wpAny_pyNext_wide_item st (c:=z.cps[i]) (by simp[hi]) fun h' st' sb=>?_
  have I1:Inv X pins σ H { s with heap:=h',toks:=s.toks+1 }:=I.turned (t':=s.toks+1) (fun b o hb e=>(sb.2 b hb).trans e) f0 f1 f3 f4 f5
  obtain⟨o,e,c,d⟩:=id st'
  exact⟨_,rfl,go_of (s:={ s with heap:=h',toks:=s.toks+1 }) e c d (by decide) ⟨.str (sgn z.cps[i]),H,I1,⟨_,rfl⟩,⟨rfl,_,by simp[hi],rfl⟩,st',fun b hb=>(hf b hb).1⟩⟩
 done:=by
  intro X hP hw hK hc i pins s σ H E I hf st hi
  subst hP hw hK
  have hi:i=z.cps.size:=hi
  obtain⟨f0,f1,f2,f3,f4,f5⟩:=hf it (by simp)
  exact wpAny_pyNext_wide_end (I.ok.hd hc) st (by simp[hi]) fun h' eb=>⟨rfl,I.turned (t':=s.toks) (fun b o hb e=>eb b o hb e) f0 f1 f3 f4 f5⟩
 self:=fun _ _ _ _ _ st h=>wpAny_pyIter_striter_wide st h
noncomputable def iStr (tl:TE):TI:=fun σ H R=>tl σ H fun x H1=>∃z:Str,x = .str z∧R (Its z) H1
theorem pi_str {X:Cx}{tg l:Expr}{tl:TE}(hl:PE X l tl):PI X tg l (iStr tl):=by
 intro pins s σ H R I h
 refine thn (hl pins s σ H _ I h) fun v s1 ⟨x,H1,I1,r1,q1⟩=>?_
 obtain⟨z,e,q⟩:=q1
 subst e
 obtain⟨t,rfl⟩:=r1
 have fp:∀b ∈ [s1.heap.objs.size],FpOk X pins H1 b:=fun b hb=>by
  have e:b=s1.heap.objs.size:=by simpa using hb
  subst e
  exact I1.fpOk (Nat.le_refl _) (I1.hok.fresh (Nat.le_refl _))
 cases ha:z.cps.all (· < 128)with
 | false =>
  refine wpAny_pyIter_wide ha ?_
  exact⟨s1.heap.objs.size,[s1.heap.objs.size],_,_,H1,rfl,I1.kept (t':=s1.toks) fun b o e=>Heap.get?_push_of_some _ e,turn_strW z t _,⟨_,Heap.get?_push_size _ rfl,rfl,rfl⟩,fp,q⟩
 | true =>
  refine wpAny_pyIter_ascii ha ?_
  exact⟨s1.heap.objs.size,[s1.heap.objs.size],_,_,H1,rfl,I1.kept (t':=s1.toks) fun b o e=>Heap.get?_push_of_some _ e,turn_strA z t _,⟨_,Heap.get?_push_size _ rfl,rfl,rfl⟩,fp,q⟩
theorem rd_istr {tl:TE}{σ:St}{H:Hp}{R:It→Hp→Prop}(h:tl σ H fun x H1=>∃z:Str,x = .str z∧R (Its z) H1):iStr tl σ H R:=h
noncomputable def ltS (a b:Str):Bool:=decide (a.cps.toList<b.cps.toList)
noncomputable def rLeS:R2:=fun x y H Q=>∃i j,x = .str i∧y = .str j∧Q (.bl (!ltS j i)) H
section
variable {X:Cx}
theorem on_leS:OpR X (compareOp .LtE) rLeS:=by
 intro pins s σ H x y v u Q I rx ry h
 obtain⟨i,j,rfl,rfl,q⟩:=h
 obtain⟨t,rfl⟩:=rx
 obtain⟨t',rfl⟩:=ry
 exact P.le_str (fin_bl I q rfl)
end
theorem rd_leS {H:Hp}{Q:VK}{i j:Str}(h:Q (.bl (!ltS j i)) H):rLeS (.str i) (.str j) H Q:=⟨i,j,rfl,rfl,h⟩
noncomputable def lowC (c:Nat):Bool:=decide (97≤c) && decide (c≤122)
theorem ltS_a (c:Nat):ltS (sgn c) "a" = decide (c<97):=by
 show decide ([c] < [97])=_
 apply decide_eq_decide.mpr
 constructor
 ·intro h
  cases h with
  | rel h=>exact h
  | cons h=>cases h
 ·intro h
  exact .rel h
theorem ltS_z (c:Nat):ltS "z" (sgn c)=decide (122<c):=by
 show decide ([122] < [c])=_
 apply decide_eq_decide.mpr
 constructor
 ·intro h
  cases h with
  | rel h=>exact h
  | cons h=>cases h
 ·intro h
  exact .rel h
section
variable {H:Hp}{Q:VK}
theorem rd_lenS {z:Str}(hl:z.length≤sizeLine)(h:Q (.int z.length) H):rLenS [.str z] H Q:=⟨z,rfl,hl,h⟩
noncomputable abbrev SysK (K:PySem.W.Frag):Prop:=(K.lookup sysModules).map (·.cls)=some (.type "dict")
theorem Inv.nosys {X:Cx}{pins:List (Addr×Obj)}{σ:St}{H:Hp}{s:Shared}(hk:SysK X.K)(I:Inv X pins σ H s):H sysModules=none:=by
 cases h:X.K.lookup sysModules with
 | none=>unfold SysK at hk;rw[h]at hk;cases hk
 | some o=>exact(I.bs _ o (I.mod.kin _ _ h)).2
theorem SqT.nosys {K:PySem.W.Frag}{H:Hp}{a:Addr}{xs:List V}(hk:SysK K)(hs:H sysModules=none)(h:SqT K H a xs):a≠sysModules:=by
 rintro rfl
 rcases h with (h | ⟨o,h⟩) | ⟨o,its,n,h,z⟩
 ·rw[hs]at h;cases h
 ·rw[hs]at h;cases h
 ·unfold SysK at hk
  rw[h]at hk
  have e:o.cls = .type "dict":=by simpa using hk
  rw[z.1]at e
  injection e with e
  exact absurd e (by decide)
theorem SqL.nosys {K:PySem.W.Frag}{H:Hp}{a:Addr}{xs:List V}(hk:SysK K)(hs:H sysModules=none)(h:SqL K H a xs):a≠sysModules:=by
 rintro rfl
 rcases h with (h | ⟨o,h⟩) | ⟨o,its,n,h,z⟩
 ·rw[hs]at h;cases h
 ·rw[hs]at h;cases h
 ·unfold SysK at hk
  rw[h]at hk
  have e:o.cls = .type "dict":=by simpa using hk
  rw[z.1]at e
  injection e with e
  exact absurd e (by decide)
section
variable {K:PySem.W.Frag}{N:List Addr}{H:Hp}
theorem nin_sys {a:Addr}(n:a∉N)(h:a≠sysModules):a∉sysModules :: N:=fun z=>by
 rcases List.mem_cons.mp z with z |z
 ·exact h z
 ·exact n z
mutual
theorem Dt.nosys (hk:SysK K)(hs:H sysModules=none):∀ {v:V}{d:PyData},Dt K N H v d→Dt K (sysModules :: N) H v d
 | _,_,.non=>.non
 | _,_,.bl b=>.bl b
 | _,_,.int i=>.int i
 | _,_,.str x=>.str x
 | _,_,.tup h n r=>.tup h (nin_sys n (h.nosys hk hs)) (DtAll.nosys hk hs r)
 | _,_,.lst h n r=>.lst h (nin_sys n (h.nosys hk hs)) (DtAll.nosys hk hs r)
 | _,_,.dk0 h n=>.dk0 h (nin_sys n (fun z=>by subst z;rw[hs]at h;cases h))
 | _,_,.dk1 h n r=>.dk1 h (nin_sys n (fun z=>by subst z;rw[hs]at h;cases h)) (Dt.nosys hk hs r)
theorem DtAll.nosys (hk:SysK K)(hs:H sysModules=none):∀ {vs:List V}{ds:List PyData},DtAll K N H vs ds→DtAll K (sysModules :: N) H vs ds
 | _,_,.nil=>.nil
 | _,_,.cons h r=>.cons (Dt.nosys hk hs h) (DtAll.nosys hk hs r)
end
end
noncomputable def CDivB (i j:Int):Prop:=0<j∧j<18446744073709551616
theorem op_fdivB {X:Cx}:OpR X (binaryOp .FloorDiv) (rI CDivB fun i j=>.int (i / j)):=opI fun i j _ _ _ _ _ hc q=>by
 have h1:(0:Int)<j:=hc.1
 have h2:j<18446744073709551616:=hc.2
 refine floordiv_int (by omega) (by rw[Int.fdiv_eq_ediv_of_nonneg i (by omega)];exact q) (.inl (PyProof.noPylong_of_log2 ?_))
 by_cases h0:j.natAbs=0
 ·rw[h0];decide +kernel
 ·have:j.natAbs.log2<64:=(Nat.log2_lt h0).mpr (by omega)
  omega
end
theorem dt_2 {K:PySem.W.Frag}{N:List Addr}{H:Hp}{ys:List V}{es:List PyData}(h:DtAll K N H ys es)(hl:ys.length=2):∃y1 y2 e1 e2,ys = [y1,y2]∧es = [e1,e2]∧Dt K N H y1 e1∧Dt K N H y2 e2:=by
 cases h with
 | nil=>simp at hl
 | cons h1 h =>
 cases h with
 | nil=>simp at hl
 | cons h2 h =>
 cases h with
 | nil=>exact⟨_,_,_,_,rfl,rfl,h1,h2⟩
 | cons z h=>simp at hl
theorem dt_3 {K:PySem.W.Frag}{N:List Addr}{H:Hp}{ys:List V}{es:List PyData}(h:DtAll K N H ys es)(hl:ys.length=3):∃y1 y2 y3 e1 e2 e3,ys = [y1,y2,y3]∧es = [e1,e2,e3]∧Dt K N H y1 e1∧Dt K N H y2 e2∧Dt K N H y3 e3:=by
 cases h with
 | nil=>simp at hl
 | cons h1 h =>
 cases h with
 | nil=>simp at hl
 | cons h2 h =>
 cases h with
 | nil=>simp at hl
 | cons h3 h =>
 cases h with
 | nil=>exact⟨_,_,_,_,_,_,rfl,rfl,h1,h2,h3⟩
 | cons z h=>simp at hl
end L2
namespace PySem
theorem PyData.wt_mem {d:PyData}:∀ {ds:List PyData},d∈ds→d.weight≤PyData.weightAll ds
 | [],h=>by cases h
 | e :: r,h=>by
  rcases List.mem_cons.mp h with rfl |h
  ·simp only[PyData.weightAll];omega
  ·have:=PyData.wt_mem h
   simp only[PyData.weightAll];omega
theorem PyData.wt_at {i:Nat}{d:PyData}{ds:List PyData}{n:Nat}(h:ds[i]? = some d)(hw:(PyData.tuple ds).weight≤n):d.weight≤n :=
 Nat.le_trans (PyData.wt_mem (List.mem_of_getElem? h)) hw
end PySem
namespace Mt
open PySem L2
noncomputable def keyD:PyData→Bool
 | .str z=>decide (1≤z.length) && decide (z.length≤12) && z.cps.toList.all lowC
 | _=>false
noncomputable def setL:List PyData→Bool
 | [w,k,v]=>strEq "set" w && (keyD k && withinD (-1000000000000000000) 1000000000000000000 v)
 | _=>false
noncomputable def cutL:List PyData→Bool
 | [w,k]=>strEq "cut" w && keyD k
 | _=>false
noncomputable def rowD:PyData→Bool
 | .tuple ds=>setL ds || cutL ds
 | _=>false
noncomputable def addrL:List PyData→Bool
 | _ :: f :: t :: n :: _ :: _=>withinD 0 7 f && (withinD 0 7 t && (numD n && (match n with | .int i=>decide (1≤i) |_=>false)))
 | _=>false
noncomputable def wantL:List PyData→Bool
 | [w,f,_,_,l,e,a,.tuple ss]=>strEq "want" w && (sayC f l e a && ss.all sayD)
 | _=>false
noncomputable def rowsL:List PyData→Bool
 | [w,_,_,_,h,p,.tuple rs]=>strEq "rows" w && (histD h && (withinD 0 1000000 p && rs.all rowD))
 | _=>false
noncomputable def goneL:List PyData→Bool
 | [w,_,_,_,p]=>strEq "gone" w && withinD 0 1000000 p
 | _=>false
noncomputable def letD:PyData→Bool
 | .tuple ds=>addrL ds && (wantL ds || (rowsL ds || goneL ds))
 | _=>false
theorem keyD_s (z:Str):keyD (.str z)=(decide (1≤z.length) && decide (z.length≤12) && z.cps.toList.all lowC):=rfl
theorem rowD_t (ds:List PyData):rowD (.tuple ds)=(setL ds || cutL ds):=rfl
theorem setL_3 (w k v:PyData):setL [w,k,v]=(strEq "set" w && (keyD k && withinD (-1000000000000000000) 1000000000000000000 v)):=rfl
theorem cutL_2 (w k:PyData):cutL [w,k]=(strEq "cut" w && keyD k):=rfl
theorem setL_len {ds:List PyData}(h:ds.length≠3):setL ds=false:=by
 unfold setL;split
 ·simp at h
 ·rfl
theorem cutL_len {ds:List PyData}(h:ds.length≠2):cutL ds=false:=by
 unfold cutL;split
 ·simp at h
 ·rfl
theorem rowD_tup {d:PyData}(h:isTupD d=false):rowD d=false:=by
 cases d with
 | tuple z=>cases h
 | _=>rfl
theorem key_itm {z:Str}(h:keyD (.str z)=true):Itm 140 0 (.str z):=by
 rw[keyD_s,Bool.and_eq_true,Bool.and_eq_true,decide_eq_true_eq,decide_eq_true_eq]at h
 obtain⟨⟨_,h2⟩,h3⟩:=h
 refine itm_str ?_ (by omega)
 unfold cpsOk
 rw[List.all_eq_true]at h3 ⊢
 intro c hc
 have:=h3 c hc
 unfold lowC at this
 simp only[Bool.and_eq_true,decide_eq_true_eq]at this ⊢
 omega
mutual
theorem lv_mono {m n:Nat}(h:m≤n):∀ {d:PyData},d.leavesShort m=true→d.leavesShort n=true
 | .none,_=>rfl
 | .bool _,_=>rfl
 | .int i,q=>by simp only[PyData.leavesShort,decide_eq_true_eq]at q ⊢;omega
 | .str _,q=>q
 | .list _,q=>lv_monoA h q
 | .tuple _,q=>lv_monoA h q
 | .dict _,q=>lv_monoK h q
theorem lv_monoA {m n:Nat}(h:m≤n):∀ {ds:List PyData},PyData.leavesShortAll m ds=true→PyData.leavesShortAll n ds=true
 | [],_=>rfl
 | d :: ds,q=>by
  simp only[PyData.leavesShortAll,Bool.and_eq_true]at q ⊢
  exact⟨lv_mono h q.1,lv_monoA h q.2⟩
theorem lv_monoK {m n:Nat}(h:m≤n):∀ {ds:List (PyData×PyData)},PyData.leavesShortKv m ds=true→PyData.leavesShortKv n ds=true
 | [],_=>rfl
 | (k,v) :: ds,q=>by
  simp only[PyData.leavesShortKv,Bool.and_eq_true]at q ⊢
  exact⟨⟨lv_mono h q.1.1,lv_mono h q.1.2⟩,lv_monoK h q.2⟩
end
structure BigL (w k:Nat) (ds:List PyData):Prop where
 sh:PyData.showableAll ds=true
 lv:PyData.leavesShortAll 60 ds=true
 wt:PyData.weightAll ds≤w
 dp:PyData.depthAll ds≤k
theorem BigL.nil {k:Nat}:BigL 0 k []:=⟨rfl,rfl,Nat.le_refl _,Nat.zero_le _⟩
theorem BigL.mono {w w' k k':Nat}{ds:List PyData}(h:BigL w k ds)(h1:w≤w')(h2:k≤k'):BigL w' k' ds:=⟨h.sh,h.lv,Nat.le_trans h.wt h1,Nat.le_trans h.dp h2⟩
end Mt
namespace PySem.SeqAt
open PySem PySem.MeetsSeq PyProof PyProof.Rows
theorem dict_eq_declines_none (l:Addr)(es:Array DictEntry)(ep:Nat)(dd:Option Addr)(sl:Array (Option Value)) :
  Meets (Builtin.«dict.__eq__» ⟨[.ref l,.none],[]⟩) (fun _ R s=>s.heap.get? l=some { cls:=.type "dict",dict:=dd,data:=.dict es ep,slots:=sl }∧R (.ok (.ret .notImplemented)) s) :=
 .of_wp fun prog w A R s h=>by obtain⟨hp,g,d,tk,os⟩:=s;obtain⟨hl,h⟩:=h;have f1:=F.sub_NoneType_dict;wp_walk using wpAny_loadPart' hl,wpAny_load hl;exact⟨_,rfl,h⟩
theorem dict_eq_declines_bool (l:Addr)(es:Array DictEntry)(ep:Nat)(dd:Option Addr)(sl:Array (Option Value))(b:Bool) :
  Meets (Builtin.«dict.__eq__» ⟨[.ref l,.bool b],[]⟩) (fun _ R s=>s.heap.get? l=some { cls:=.type "dict",dict:=dd,data:=.dict es ep,slots:=sl }∧R (.ok (.ret .notImplemented)) s) :=
 .of_wp fun prog w A R s h=>by obtain⟨hp,g,d,tk,os⟩:=s;obtain⟨hl,h⟩:=h;have f1:=F.sub_bool_dict;wp_walk using wpAny_loadPart' hl,wpAny_load hl;exact⟨_,rfl,h⟩
theorem dict_eq_declines_int (l:Addr)(es:Array DictEntry)(ep:Nat)(dd:Option Addr)(sl:Array (Option Value))(b:Int)(u:Tok) :
  Meets (Builtin.«dict.__eq__» ⟨[.ref l,.int b u],[]⟩) (fun _ R s=>s.heap.get? l=some { cls:=.type "dict",dict:=dd,data:=.dict es ep,slots:=sl }∧R (.ok (.ret .notImplemented)) s) :=
 .of_wp fun prog w A R s h=>by obtain⟨hp,g,d,tk,os⟩:=s;obtain⟨hl,h⟩:=h;have f1:=F.sub_int_dict;wp_walk using wpAny_loadPart' hl,wpAny_load hl;exact⟨_,rfl,h⟩
theorem dict_eq_declines_str (l:Addr)(es:Array DictEntry)(ep:Nat)(dd:Option Addr)(sl:Array (Option Value))(b:Str)(u:Tok) :
  Meets (Builtin.«dict.__eq__» ⟨[.ref l,.str b u],[]⟩) (fun _ R s=>s.heap.get? l=some { cls:=.type "dict",dict:=dd,data:=.dict es ep,slots:=sl }∧R (.ok (.ret .notImplemented)) s) :=
 .of_wp fun prog w A R s h=>by obtain⟨hp,g,d,tk,os⟩:=s;obtain⟨hl,h⟩:=h;have f1:=F.sub_str_dict;wp_walk using wpAny_loadPart' hl,wpAny_load hl;exact⟨_,rfl,h⟩
theorem bool_eq_declines_dict (b:Bool)(l:Addr)(c:Value)(es:Array DictEntry)(ep:Nat)(dd:Option Addr)(sl:Array (Option Value)) :
  Meets (Builtin.«int.__eq__» ⟨[.bool b,.ref l],[]⟩) (fun _ R s=>s.heap.get? l=some { cls:=c,dict:=dd,data:=.dict es ep,slots:=sl }∧R (.ok (.ret .notImplemented)) s) :=
 .of_wp fun prog w A R s h=>by obtain⟨hp,g,d,tk,os⟩:=s;obtain⟨hl,h⟩:=h;wp_walk using wpAny_loadPart' hl,wpAny_load hl;exact⟨_,rfl,h⟩
theorem int_eq_declines_dict (b:Int)(u:Tok)(l:Addr)(c:Value)(es:Array DictEntry)(ep:Nat)(dd:Option Addr)(sl:Array (Option Value)) :
  Meets (Builtin.«int.__eq__» ⟨[.int b u,.ref l],[]⟩) (fun _ R s=>s.heap.get? l=some { cls:=c,dict:=dd,data:=.dict es ep,slots:=sl }∧R (.ok (.ret .notImplemented)) s) :=
 .of_wp fun prog w A R s h=>by obtain⟨hp,g,d,tk,os⟩:=s;obtain⟨hl,h⟩:=h;wp_walk using wpAny_loadPart' hl,wpAny_load hl;exact⟨_,rfl,h⟩
theorem str_eq_declines_dict (b:Str)(u:Tok)(l:Addr)(c:Value)(es:Array DictEntry)(ep:Nat)(dd:Option Addr)(sl:Array (Option Value)) :
  Meets (Builtin.«str.__eq__» ⟨[.str b u,.ref l],[]⟩) (fun _ R s=>s.heap.get? l=some { cls:=c,dict:=dd,data:=.dict es ep,slots:=sl }∧R (.ok (.ret .notImplemented)) s) :=
 .of_wp fun prog w A R s h=>by obtain⟨hp,g,d,tk,os⟩:=s;obtain⟨hl,h⟩:=h;wp_walk using wpAny_loadPart' hl,wpAny_load hl;exact⟨_,rfl,h⟩
theorem dict_eq_declines_list (l m:Addr)(es:Array DictEntry)(ep:Nat)(dd:Option Addr)(sl:Array (Option Value))(items:Array Value)(n:Nat)(dd2:Option Addr)(sl2:Array (Option Value)) :
  Meets (Builtin.«dict.__eq__» ⟨[.ref l,.ref m],[]⟩) (fun _ R s=>s.heap.get? l=some { cls:=.type "dict",dict:=dd,data:=.dict es ep,slots:=sl }∧s.heap.get? m=some { cls:=.type "list",dict:=dd2,data:=.seq items n,slots:=sl2 }∧R (.ok (.ret .notImplemented)) s) :=
 .of_wp fun prog w A R s h=>by obtain⟨hp,g,d,tk,os⟩:=s;obtain⟨hl,hm,h⟩:=h;have f1:=F.sub_list_dict;wp_walk using wpAny_loadPart' hl,wpAny_load hl,wpAny_loadPart' hm,wpAny_load hm;exact⟨_,rfl,h⟩
theorem list_eq_declines_dict (l m:Addr)(es:Array DictEntry)(ep:Nat)(dd:Option Addr)(sl:Array (Option Value))(items:Array Value)(n:Nat)(dd2:Option Addr)(sl2:Array (Option Value)) :
  Meets (Builtin.«list.__eq__» ⟨[.ref m,.ref l],[]⟩) (fun _ R s=>s.heap.get? l=some { cls:=.type "dict",dict:=dd,data:=.dict es ep,slots:=sl }∧s.heap.get? m=some { cls:=.type "list",dict:=dd2,data:=.seq items n,slots:=sl2 }∧R (.ok (.ret .notImplemented)) s) :=
 .of_wp fun prog w A R s h=>by obtain⟨hp,g,d,tk,os⟩:=s;obtain⟨hl,hm,h⟩:=h;have f1:=F.sub_dict_list;wp_walk using wpAny_loadPart' hl,wpAny_load hl,wpAny_loadPart' hm,wpAny_load hm;exact⟨_,rfl,h⟩
theorem dict_eq_declines_tuple (l m:Addr)(es:Array DictEntry)(ep:Nat)(dd:Option Addr)(sl:Array (Option Value))(items:Array Value)(n:Nat)(dd2:Option Addr)(sl2:Array (Option Value)) :
  Meets (Builtin.«dict.__eq__» ⟨[.ref l,.ref m],[]⟩) (fun _ R s=>s.heap.get? l=some { cls:=.type "dict",dict:=dd,data:=.dict es ep,slots:=sl }∧s.heap.get? m=some { cls:=.type "tuple",dict:=dd2,data:=.seq items n,slots:=sl2 }∧R (.ok (.ret .notImplemented)) s) :=
 .of_wp fun prog w A R s h=>by obtain⟨hp,g,d,tk,os⟩:=s;obtain⟨hl,hm,h⟩:=h;have f1:=F.sub_tuple_dict;wp_walk using wpAny_loadPart' hl,wpAny_load hl,wpAny_loadPart' hm,wpAny_load hm;exact⟨_,rfl,h⟩
theorem tuple_eq_declines_dict (l m:Addr)(es:Array DictEntry)(ep:Nat)(dd:Option Addr)(sl:Array (Option Value))(items:Array Value)(n:Nat)(dd2:Option Addr)(sl2:Array (Option Value)) :
  Meets (Builtin.«tuple.__eq__» ⟨[.ref m,.ref l],[]⟩) (fun _ R s=>s.heap.get? l=some { cls:=.type "dict",dict:=dd,data:=.dict es ep,slots:=sl }∧s.heap.get? m=some { cls:=.type "tuple",dict:=dd2,data:=.seq items n,slots:=sl2 }∧R (.ok (.ret .notImplemented)) s) :=
 .of_wp fun prog w A R s h=>by obtain⟨hp,g,d,tk,os⟩:=s;obtain⟨hl,hm,h⟩:=h;have f1:=F.sub_dict_tuple;wp_walk using wpAny_loadPart' hl,wpAny_load hl,wpAny_loadPart' hm,wpAny_load hm;exact⟨_,rfl,h⟩
section
variable {A:Around}{s:Shared}
noncomputable def IsDic (h:Heap)(l:Addr):Prop:=∃o,h.get? l=some o∧o.cls = .type "dict"∧∃es ep,o.data = .dict es ep
theorem RcAt.dict_none {l:Addr}(hl:IsDic s.heap l)(hu:A.units<cLine):RcAt A s (.ref l) (.none) false:=fun prog w E Q h=>by
 obtain⟨⟨cls,dd,data,sl⟩,ho,hc,es,ep,hd⟩:=id hl
 simp only at hc hd
 subst hc hd
 exact rc_eq_decline_or (k:=false) ⟨_,ho,rfl⟩ rfl (by decide) F.sub_NoneType_dict F.slot_dict_eq F.slot_NoneType_eq_refl
  (fun _ hq=>call_meets F.slot_dict_eq ⟨_,ho,rfl⟩ F.entry_dict_eq (F.args_dict_eq_2 _ _) (dict_eq_declines_none l es ep dd sl ) ⟨ho,hq⟩)
  (fun _ hq=>call_gives F.slot_NoneType_eq_refl rfl F.entry_NoneType_eq (F.args_NoneType_eq_2 _ _) (NoneType___eq___none_ref_0 l) hq)
  (fun _ hq=>wpAny_of_eq (rfl:isSame (.ref l) (.none)=pure false) hq) (.inr hu) h
theorem EqAt.dict_none {l:Addr}(hl:IsDic s.heap l)(hu:A.units<cLine):EqAt A s (.ref l) (.none) false:=fun prog w E Q h=>by
 unfold eqBool
 refine wpAny_holding ?_
 refine wpAny_ite_split (fun hab=>absurd (eq_of_beq hab) nofun) (fun _=>?_)
 exact wpAny_bind (RcAt.dict_none  hl hu prog w E _ (wpAny_truthy_bool h))
theorem RcAt.dict_bool {l:Addr}(b:Bool)(hl:IsDic s.heap l)(hu:A.units<cLine):RcAt A s (.ref l) (.bool b) false:=fun prog w E Q h=>by
 obtain⟨⟨cls,dd,data,sl⟩,ho,hc,es,ep,hd⟩:=id hl
 simp only at hc hd
 subst hc hd
 exact rc_eq_decline_or (k:=false) ⟨_,ho,rfl⟩ rfl (by decide) F.sub_bool_dict F.slot_dict_eq F.slot_bool_eq_refl
  (fun _ hq=>call_meets F.slot_dict_eq ⟨_,ho,rfl⟩ F.entry_dict_eq (F.args_dict_eq_2 _ _) (dict_eq_declines_bool l es ep dd sl b) ⟨ho,hq⟩)
  (fun _ hq=>call_meets F.slot_bool_eq_refl rfl F.entry_int_eq (F.args_int_eq_2 _ _) (bool_eq_declines_dict b l (.type "dict") es ep dd sl) ⟨ho,hq⟩)
  (fun _ hq=>wpAny_of_eq (rfl:isSame (.ref l) (.bool b)=pure false) hq) (.inr hu) h
theorem EqAt.dict_bool {l:Addr}(b:Bool)(hl:IsDic s.heap l)(hu:A.units<cLine):EqAt A s (.ref l) (.bool b) false:=fun prog w E Q h=>by
 unfold eqBool
 refine wpAny_holding ?_
 refine wpAny_ite_split (fun hab=>absurd (eq_of_beq hab) nofun) (fun _=>?_)
 exact wpAny_bind (RcAt.dict_bool b hl hu prog w E _ (wpAny_truthy_bool h))
theorem RcAt.dict_int {l:Addr}(b:Int)(u:Tok)(hl:IsDic s.heap l)(hu:A.units<cLine):RcAt A s (.ref l) (.int b u) false:=fun prog w E Q h=>by
 obtain⟨⟨cls,dd,data,sl⟩,ho,hc,es,ep,hd⟩:=id hl
 simp only at hc hd
 subst hc hd
 exact rc_eq_decline_or (k:=false) ⟨_,ho,rfl⟩ (typeIs_int s b u) (by decide) F.sub_int_dict F.slot_dict_eq F.slot_int_eq_refl
  (fun _ hq=>call_meets F.slot_dict_eq ⟨_,ho,rfl⟩ F.entry_dict_eq (F.args_dict_eq_2 _ _) (dict_eq_declines_int l es ep dd sl b u) ⟨ho,hq⟩)
  (fun _ hq=>call_meets F.slot_int_eq_refl (typeIs_int s b u) F.entry_int_eq (F.args_int_eq_2 _ _) (int_eq_declines_dict b u l (.type "dict") es ep dd sl) ⟨ho,hq⟩)
  (fun _ hq=>wpAny_of_eq (rfl:isSame (.ref l) (.int b u)=pure false) hq) (.inr hu) h
theorem EqAt.dict_int {l:Addr}(b:Int)(u:Tok)(hl:IsDic s.heap l)(hu:A.units<cLine):EqAt A s (.ref l) (.int b u) false:=fun prog w E Q h=>by
 unfold eqBool
 refine wpAny_holding ?_
 refine wpAny_ite_split (fun hab=>absurd (eq_of_beq hab) nofun) (fun _=>?_)
 exact wpAny_bind (RcAt.dict_int b u hl hu prog w E _ (wpAny_truthy_bool h))
theorem RcAt.dict_str {l:Addr}(b:Str)(u:Tok)(hl:IsDic s.heap l)(hu:A.units<cLine):RcAt A s (.ref l) (.str b u) false:=fun prog w E Q h=>by
 obtain⟨⟨cls,dd,data,sl⟩,ho,hc,es,ep,hd⟩:=id hl
 simp only at hc hd
 subst hc hd
 exact rc_eq_decline_or (k:=false) ⟨_,ho,rfl⟩ (typeIs_str s b u) (by decide) F.sub_str_dict F.slot_dict_eq F.slot_str_eq_refl
  (fun _ hq=>call_meets F.slot_dict_eq ⟨_,ho,rfl⟩ F.entry_dict_eq (F.args_dict_eq_2 _ _) (dict_eq_declines_str l es ep dd sl b u) ⟨ho,hq⟩)
  (fun _ hq=>call_meets F.slot_str_eq_refl (typeIs_str s b u) F.entry_str_eq (F.args_str_eq_2 _ _) (str_eq_declines_dict b u l (.type "dict") es ep dd sl) ⟨ho,hq⟩)
  (fun _ hq=>wpAny_of_eq (rfl:isSame (.ref l) (.str b u)=pure false) hq) (.inr hu) h
theorem EqAt.dict_str {l:Addr}(b:Str)(u:Tok)(hl:IsDic s.heap l)(hu:A.units<cLine):EqAt A s (.ref l) (.str b u) false:=fun prog w E Q h=>by
 unfold eqBool
 refine wpAny_holding ?_
 refine wpAny_ite_split (fun hab=>absurd (eq_of_beq hab) nofun) (fun _=>?_)
 exact wpAny_bind (RcAt.dict_str b u hl hu prog w E _ (wpAny_truthy_bool h))
theorem RcAt.dict_list {l b:Addr}{items:Array Value}(hl:IsDic s.heap l)(hb:s.heap.IsList b items)(hu:A.units<cLine):RcAt A s (.ref l) (.ref b) false:=fun prog w E Q h=>by
 obtain⟨⟨cls,dd,data,sl⟩,ho,hc,es,ep,hd⟩:=id hl
 obtain⟨⟨cls2,dd2,data2,sl2⟩,ho2,hc2,n2,hd2⟩:=id hb
 simp only at hc hd hc2 hd2
 subst hc hd hc2 hd2
 have hne:b≠l:=fun z=>by
  subst z
  have:=congrArg (fun o=>o.map Obj.cls) (ho.symm.trans ho2)
  simp at this
 exact(rc_eq_decline_or (k:=false) ⟨_,ho,rfl⟩ ⟨_,ho2,rfl⟩ (by decide) F.sub_list_dict F.slot_dict_eq F.slot_list_eq_refl
  (fun _ hq=>call_meets F.slot_dict_eq ⟨_,ho,rfl⟩ F.entry_dict_eq (F.args_dict_eq_2 _ _) (dict_eq_declines_list l b es ep dd sl items n2 dd2 sl2) ⟨ho,ho2,hq⟩)
  (fun _ hq=>call_meets F.slot_list_eq_refl ⟨_,ho2,rfl⟩ F.entry_list_eq (F.args_list_eq_2 _ _) (list_eq_declines_dict l b es ep dd sl items n2 dd2 sl2) ⟨ho,ho2,hq⟩)
  (fun _ hq=>wpAny_isSame_ref_other (Ne.symm hne) ho ho2 (by simp) hq) (.inr hu) h)
theorem EqAt.dict_list {l b:Addr}{items:Array Value}(hl:IsDic s.heap l)(hb:s.heap.IsList b items)(hu:A.units<cLine):EqAt A s (.ref l) (.ref b) false:=by
 obtain⟨o,ho,hc,es,ep,hd⟩:=id hl
 obtain⟨o2,ho2,hc2,n2,hd2⟩:=id hb
 have hne:l≠b:=fun z=>by
  subst z
  rw[ho]at ho2
  injection ho2 with ho2
  subst ho2
  rw[hd]at hd2
  cases hd2
 exact EqAt.of_refs hne (RcAt.dict_list hl hb hu)
theorem RcAt.dict_tuple {l b:Addr}{items:Array Value}(hl:IsDic s.heap l)(hb:s.heap.IsTuple b items)(hu:A.units<cLine):RcAt A s (.ref l) (.ref b) false:=fun prog w E Q h=>by
 obtain⟨⟨cls,dd,data,sl⟩,ho,hc,es,ep,hd⟩:=id hl
 obtain⟨⟨cls2,dd2,data2,sl2⟩,ho2,hc2,n2,hd2⟩:=id hb
 simp only at hc hd hc2 hd2
 subst hc hd hc2 hd2
 have hne:b≠l:=fun z=>by
  subst z
  have:=congrArg (fun o=>o.map Obj.cls) (ho.symm.trans ho2)
  simp at this
 exact(rc_eq_decline_or (k:=false) ⟨_,ho,rfl⟩ ⟨_,ho2,rfl⟩ (by decide) F.sub_tuple_dict F.slot_dict_eq F.slot_tuple_eq_refl
  (fun _ hq=>call_meets F.slot_dict_eq ⟨_,ho,rfl⟩ F.entry_dict_eq (F.args_dict_eq_2 _ _) (dict_eq_declines_tuple l b es ep dd sl items n2 dd2 sl2) ⟨ho,ho2,hq⟩)
  (fun _ hq=>call_meets F.slot_tuple_eq_refl ⟨_,ho2,rfl⟩ F.entry_tuple_eq (F.args_tuple_eq_2 _ _) (tuple_eq_declines_dict l b es ep dd sl items n2 dd2 sl2) ⟨ho,ho2,hq⟩)
  (fun _ hq=>wpAny_isSame_ref_other (Ne.symm hne) ho ho2 (by simp) hq) (.inr hu) h)
theorem EqAt.dict_tuple {l b:Addr}{items:Array Value}(hl:IsDic s.heap l)(hb:s.heap.IsTuple b items)(hu:A.units<cLine):EqAt A s (.ref l) (.ref b) false:=by
 obtain⟨o,ho,hc,es,ep,hd⟩:=id hl
 obtain⟨o2,ho2,hc2,n2,hd2⟩:=id hb
 have hne:l≠b:=fun z=>by
  subst z
  rw[ho]at ho2
  injection ho2 with ho2
  subst ho2
  rw[hd]at hd2
  cases hd2
 exact EqAt.of_refs hne (RcAt.dict_tuple hl hb hu)
end
theorem pick {n m:Nat}{P:Nat→Bool→Prop}(h:∀j,j<n→j<m→∃k,P j k):∃e:Nat→Bool,∀j,j<n→j<m→P j (e j):=by
 classical
 refine⟨fun j=>if hj:j<n∧j<m then Classical.choose (h j hj.1 hj.2) else false,fun j h1 h2=>?_⟩
 have hj:j<n∧j<m:=⟨h1,h2⟩
 show P j (if hj:j<n∧j<m then Classical.choose (h j hj.1 hj.2) else false)
 rw[dif_pos hj]
 exact Classical.choose_spec (h j hj.1 hj.2)
mutual
theorem eqAtX : ∀(da db:PyData)(A:Around)(s:Shared)(a b:Value)(as bs:List Addr),Reads s.heap a da as→Reads s.heap b db bs→db.canLay0=true→A.units+min da.depth db.depth<cLine→∃k,EqAt A s a b k
 | .none,db,A,s,a,b,as,bs,ra,rb,hb,hu=>⟨_,eqAt_reads .none db A s a b as bs ra rb rfl hb hu⟩
 | .bool x,db,A,s,a,b,as,bs,ra,rb,hb,hu=>⟨_,eqAt_reads (.bool x) db A s a b as bs ra rb rfl hb hu⟩
 | .int x,db,A,s,a,b,as,bs,ra,rb,hb,hu=>⟨_,eqAt_reads (.int x) db A s a b as bs ra rb rfl hb hu⟩
 | .str x,db,A,s,_,_,_,_,ra,rb,hb,hu=>by
  cases ra with
  | str _ t =>
   cases rb with
   | none=>exact⟨_,EqAt.str_none x t⟩
   | bool y=>exact⟨_,EqAt.str_bool x t y⟩
   | int y u=>exact⟨_,EqAt.str_int x t y u⟩
   | str y u=>exact⟨_,EqAt.str_str x t y u⟩
   | list k1 k2 k3 k4=>exact⟨_,EqAt.str_list x t ⟨_,k1,k2,_,k3⟩ (room_here hu)⟩
   | tuple k1 k2 k3 k4=>exact⟨_,EqAt.str_tuple x t ⟨_,k1,k2,_,k3⟩ (room_here hu)⟩
   | dict=>exact nomatch hb
 | .dict kvs,db,A,s,_,_,_,_,ra,rb,hb,hu=>by
  cases ra with
  | dict h1 h2 h3 h4 h5 =>
   have hl:=(⟨_,h1,h2,_,_,h3⟩:IsDic s.heap _)
   cases rb with
   | none=>exact⟨_,EqAt.dict_none hl (room_here hu)⟩
   | bool y=>exact⟨_,EqAt.dict_bool y hl (room_here hu)⟩
   | int y u=>exact⟨_,EqAt.dict_int y u hl (room_here hu)⟩
   | str y u=>exact⟨_,EqAt.dict_str y u hl (room_here hu)⟩
   | list k1 k2 k3 k4=>exact⟨_,EqAt.dict_list hl ⟨_,k1,k2,_,k3⟩ (room_here hu)⟩
   | tuple k1 k2 k3 k4=>exact⟨_,EqAt.dict_tuple hl ⟨_,k1,k2,_,k3⟩ (room_here hu)⟩
   | dict=>exact nomatch hb
 | .list xs, db,A,s,_,_,_,_,ra,rb,hb,hu=>by
  cases ra with
  | @list l o vs n _ as₁ h1 h2 h3 h4 =>
   have hl:s.heap.IsList l vs:=⟨_,h1,h2,_,h3⟩
   cases rb with
   | none=>exact⟨_,EqAt.list_none hl (room_here hu)⟩
   | bool y=>exact⟨_,EqAt.list_bool y hl (room_here hu)⟩
   | int y u=>exact⟨_,EqAt.list_int y u hl (room_here hu)⟩
   | str y u=>exact⟨_,EqAt.list_str y u hl (room_here hu)⟩
   | tuple k1 k2 k3 k4=>exact⟨_,EqAt.list_tuple hl ⟨_,k1,k2,_,k3⟩ (room_here hu)⟩
   | dict=>exact nomatch hb
   | @list l' o' vs' n' ys bs₁ k1 k2 k3 k4 =>
    have hl':s.heap.IsList l' vs':=⟨_,k1,k2,_,k3⟩
    by_cases hll:l=l'
    ·subst hll
     exact⟨_,EqAt.same _⟩
    ·by_cases hsz:vs.size=vs'.size
     ·obtain⟨e,he⟩:=pick (n:=vs.size) (m:=vs'.size) (P:=fun j k=>∀(j1:j<vs.size) (j2:j<vs'.size),EqAt A.in1 s vs[j] vs'[j] k) fun j j1 j2=>by
       obtain⟨k,hk⟩:=eqAtXs xs ys A.in1 s vs.toList vs'.toList _ _ h4 k4 hb (room_in hu) j (by simpa using j1) (by simpa using j2)
       exact⟨k,fun _ _=>by simpa using hk⟩
      exact⟨_,EqAt.of_refs hll (RcAt.lists hl hl' hsz (room_here hu) fun j j1 j2=>he j j1 j2 j1 j2)⟩
     ·exact⟨_,EqAt.of_refs hll (RcAt.lists_lengths hl hl' (by simpa using hsz) (room_here hu))⟩
 | .tuple xs,db,A,s,_,_,_,_,ra,rb,hb,hu=>by
  cases ra with
  | @tuple l o vs n _ as₁ h1 h2 h3 h4 =>
   have hl:s.heap.IsTuple l vs:=⟨_,h1,h2,_,h3⟩
   cases rb with
   | none=>exact⟨_,EqAt.tuple_none hl (room_here hu)⟩
   | bool y=>exact⟨_,EqAt.tuple_bool y hl (room_here hu)⟩
   | int y u=>exact⟨_,EqAt.tuple_int y u hl (room_here hu)⟩
   | str y u=>exact⟨_,EqAt.tuple_str y u hl (room_here hu)⟩
   | list k1 k2 k3 k4=>exact⟨_,EqAt.tuple_list hl ⟨_,k1,k2,_,k3⟩ (room_here hu)⟩
   | dict=>exact nomatch hb
   | @tuple l' o' vs' n' ys bs₁ k1 k2 k3 k4 =>
    have hl':s.heap.IsTuple l' vs':=⟨_,k1,k2,_,k3⟩
    by_cases hll:l=l'
    ·subst hll
     exact⟨_,EqAt.same _⟩
    ·obtain⟨e,he⟩:=pick (n:=vs.size) (m:=vs'.size) (P:=fun j k=>∀(j1:j<vs.size) (j2:j<vs'.size),EqAt A.in1 s vs[j] vs'[j] k) fun j j1 j2=>by
      obtain⟨k,hk⟩:=eqAtXs xs ys A.in1 s vs.toList vs'.toList _ _ h4 k4 hb (room_in hu) j (by simpa using j1) (by simpa using j2)
      exact⟨k,fun _ _=>by simpa using hk⟩
     exact⟨_,EqAt.of_refs hll (RcAt.tuples hl hl' (room_here hu) fun j j1 j2=>he j j1 j2 j1 j2)⟩
theorem eqAtXs:∀(xs ys:List PyData)(A:Around)(s:Shared)(vs ws:List Value)(as bs:List Addr),ReadsAll s.heap vs xs as→ReadsAll s.heap ws ys bs→PyData.canLayAll0 ys=true →
  A.units+min (PyData.depthAll xs) (PyData.depthAll ys)<cLine→∀j (h1:j<vs.length) (h2:j<ws.length),∃k,EqAt A s vs[j] ws[j] k
 | [],_,_,_,_,_,_,_,ra,_,_,_,j,h1,_=>by cases ra;exact absurd h1 (Nat.not_lt_zero _)
 | _ :: _,[],_,_,_,_,_,_,_,rb,_,_,j,_,h2=>by cases rb;exact absurd h2 (Nat.not_lt_zero _)
 | x :: xs,y :: ys,A,s,_,_,_,_,ra,rb,hb,hu,j,h1,h2=>by
  have hb':y.canLay0=true∧PyData.canLayAll0 ys=true:=by simpa [PyData.canLayAll0]using hb
  cases ra with
  | cons r rs =>
   cases rb with
   | cons r' rs' =>
    cases j with
    | zero=>exact eqAtX x y A s _ _ _ _ r r' hb'.1 (room_head hu)
    | succ j=>exact eqAtXs xs ys A s _ _ _ _ rs rs' hb'.2 (room_tail hu) j (Nat.lt_of_succ_lt_succ h1) (Nat.lt_of_succ_lt_succ h2)
end
end PySem.SeqAt
namespace L2
open PySem PySem.Spec PyProof.Rows
end L2
namespace L2
open PySem PySem.Spec PyProof.Rows PySem.W
end L2
namespace HT
open PySem PySem.Spec PyProof.Rows PySem.W
section
variable {prog:Program}{w:World}{A:Around}{E:Value→Shared→Prop}{s:Shared}
end
end HT
namespace L2
open PySem PySem.Spec PyProof.Rows PySem.W
end L2
namespace L2
open PySem
structure StOkT (K:PySem.W.Frag) (H H':Hp) (st:Addr):Prop extends StOk K H' st where
 keep:∀(c:Addr) (a:List V),H st=some (.lst (.ref c :: a))→∃b,H' st=some (.lst (.ref c :: b))
instance {K:PySem.W.Frag}{H H':Hp}{st:Addr}:CoeOut (StOkT K H H' st) (StOk K H' st):=⟨StOkT.toStOk⟩
section
variable {K:PySem.W.Frag}{H H1 H2:Hp}{st acc c:Addr}
theorem StOkT.same (h:StOkT K H H1 st)(s:Same H1 H2):StOkT K H H2 st:=⟨h.toStOk.same s,fun c a e=>by obtain⟨b,e⟩:=h.keep c a e;exact⟨b,s _ _ e⟩⟩
theorem StOkT.trans (h:StOkT K H H1 st)(g:StOkT K H1 H2 st):StOkT K H H2 st:=⟨g.toStOk,fun c a e=>by obtain⟨b,e⟩:=h.keep c a e;exact g.keep c b e⟩
theorem StOk.tr0 (h:StOk K H st):StOkT K H H st:=⟨h,fun c a e=>⟨a,e⟩⟩
theorem StOk.cell (h:StOk K H st):∃c a,H st=some (.lst (.ref c :: a))∧c≠st∧H c≠none:=by
 obtain⟨c,cs,p,q,r,h1,h2,h3,_⟩:=h.ex
 exact⟨c,_,h1,h3,by rw[h2];simp⟩
theorem dt_tupN {N:List Addr}{x:V}{es:List PyData}(h:Dt K N H x (.tuple es)):∃b ys,x = .ref b∧b∉N∧SqT K H b ys∧DtAll K N H ys es:=by
 cases h with
 | tup h n r=>exact⟨_,_,rfl,n,h,r⟩
theorem trN {N:List Addr}{H':Hp}(S':StOk K H' st)(x:Ext [st] H H')(h:∀b∈N,H b≠none):∀b∈N,H' b≠none:=fun b hb e=>by
 by_cases z:b=st
 ·subst z;exact S'.ne e rfl
 ·cases q:H b with
  | none=>exact h b hb q
  | some o=>rw[x b o q (by simpa using z)]at e;cases e
end
end L2
namespace Mt
open PySem L2
end Mt
namespace L2
open PySem PySem.Spec PyProof.Rows PySem.W
noncomputable def TK (ns:List Int):List (Key×V):=ns.map fun n=>(.inl n,.bl true)
noncomputable def poF (la da:Addr):List (Str×V):=putF "lost" (.ref da) (putF "letters" (.ref la) [])
variable {K:PySem.W.Frag}{N:List Addr}{C:Addr}{H H':Hp}{p la da:Addr}{vs:List V}{ds:List PyData}{ls:List Int}
end L2
namespace Mt
open PySem L2
mutual
noncomputable def smD:PyData→Bool
 | .none=>true
 | .bool _=>true
 | .int i=>decide (i.natAbs<10 ^ 41)
 | .str x=>decide (x.length≤140)
 | .tuple ds=>decide (ds.length≤2000) && smA ds
 | .list ds=>decide (ds.length≤2000) && smA ds
 | _=>false
noncomputable def smA:List PyData→Bool
 | []=>true
 | d :: r=>smD d && smA r
end
end Mt
namespace L2
open PySem PySem.Spec PyProof.Rows PySem.W
end L2
namespace L2
open PySem
end L2
namespace L2
open PySem PySem.Spec PyProof.Rows PySem.W
open Builtin
end L2
namespace Mt
open PySem
end Mt
namespace L2
open PySem PySem.Spec PyProof.Rows PySem.W
section
variable {X:Cx}{CX:CXT}{k:Nat}{f C:Addr}{fd:FuncData}{ps:List Str}{sp:Sp}{E:XK}
end
end L2
namespace Mt
open PySem L2
mutual
theorem eqv_comm:∀(d e:PyData),d.eqv e=e.eqv d
 | .tuple ds,e=>by
  cases e with
  | tuple es=>rw[PyData.eqv,PyData.eqv];exact eqvAll_comm ds es
  | _=>rw[PyData.eqv,PyData.eqv]
 | .list ds,e=>by
  cases e with
  | list es=>rw[PyData.eqv,PyData.eqv];exact eqvAll_comm ds es
  | _=>rw[PyData.eqv,PyData.eqv]
 | .dict kvs,e=>by cases e <;> rw[PyData.eqv] <;> rw[PyData.eqv]
 | .none,e=>by cases e <;> rw[PyData.eqv] <;> rw[PyData.eqv]
 | .bool b,e=>by cases e <;> rw[PyData.eqv,PyData.eqv] <;> exact Bool.eq_iff_iff.mpr ⟨fun h=>beq_iff_eq.mpr (beq_iff_eq.mp h).symm,fun h=>beq_iff_eq.mpr (beq_iff_eq.mp h).symm⟩
 | .int b,e=>by cases e <;> rw[PyData.eqv,PyData.eqv] <;> exact Bool.eq_iff_iff.mpr ⟨fun h=>beq_iff_eq.mpr (beq_iff_eq.mp h).symm,fun h=>beq_iff_eq.mpr (beq_iff_eq.mp h).symm⟩
 | .str b,e=>by cases e <;> rw[PyData.eqv,PyData.eqv] <;> exact Bool.eq_iff_iff.mpr ⟨fun h=>beq_iff_eq.mpr (beq_iff_eq.mp h).symm,fun h=>beq_iff_eq.mpr (beq_iff_eq.mp h).symm⟩
theorem eqvAll_comm:∀(ds es:List PyData),PyData.eqvAll ds es=PyData.eqvAll es ds
 | [],[]=>rfl
 | [],_ :: _=>by rw[PyData.eqvAll,PyData.eqvAll]
 | _ :: _,[]=>by rw[PyData.eqvAll,PyData.eqvAll]
 | d :: ds,e :: es=>by rw[PyData.eqvAll,PyData.eqvAll,eqv_comm d e,eqvAll_comm ds es]
end
theorem itms_can {w k:Nat}:∀ {ds:List PyData},(∀d∈ds,Itm w k d)→PyData.canLayAll0 ds=true
 | [],_=>by rw[PyData.canLayAll0]
 | d :: r,h=>by rw[PyData.canLayAll0,(h d List.mem_cons_self).cl,itms_can fun e he=>h e (List.mem_cons_of_mem _ he)];rfl
theorem itms_depth {w k:Nat}{ds:List PyData}(h:∀d∈ds,Itm w k d):PyData.depthAll ds≤k:=all_depth h
theorem itms_eqv {w k:Nat}{ds:List PyData}(h:∀d∈ds,Itm w k d):PyData.eqvAll ds ds=true:=by
 have h1:PyData.canLay0 (.list ds)=true:=by rw[PyData.canLay0];exact itms_can h
 have h2:=SeqAt.eqv_refl (.list ds) h1
 rw[PyData.eqv]at h2
 exact h2
end Mt
namespace L2
open PySem PySem.Spec PyProof.Rows PySem.W
variable {K:PySem.W.Frag}{N M:List Addr}{C:Addr}{H H':Hp}{st p la da sl ll:Addr}{ws:List V}{ds:List PyData}{ls:List Int}
variable {K:PySem.W.Frag}{N M:List Addr}{C:Addr}{H H':Hp}{st p la da sl ll:Addr}{ws:List V}{ds:List PyData}{ls:List Int}
theorem StOkT.of (S:StOk K H st)(x:Ext M H H')(hc:∀c a,H st=some (.lst (.ref c :: a))→c∉M)(hs:st∉M):StOkT K H H' st:=by
 obtain⟨c,cs,p,q,r,h1,h2,h3⟩:=S.ex
 exact⟨⟨c,cs,p,q,r,x _ _ h1 hs,x _ _ h2 (hc _ _ h1),h3⟩,fun c a e=>⟨a,x _ _ e hs⟩⟩
noncomputable def tLstK (K:Frag)(t:TA):TE:=fun σ H Q=>t σ H fun xs H1=>xs.length≤sizeLine∧∀p H',H1 p=none→K.lookup p=none→Same H1 H'→H' p=some (.lst xs)→Q (.ref p) H'
theorem kIn_none {K:Frag}{h:Heap}(x:K.In h):K.lookup h.objs.size=none:=by
 cases e:K.lookup h.objs.size with
 | none=>rfl
 | some o =>
  have:=Heap.lt_size (x _ _ e)
  exact absurd this (Nat.lt_irrefl _)
section
variable {X:Cx}{es:List Expr}{t:TA}{pos:Pos}
theorem qe_lstK (h:PAs X es t):PE X (.List es pos) (tLstK X.K t):=by
 intro pins s σ H Q I hq
 refine wpAny_List_spliced (thn (h.run pos pins s σ H _ I hq) fun us s1 ⟨xs,H1,I1,r,z,q⟩=>⟨by rw[← r.length];exact z,?_⟩)
 have hf:H1 s1.heap.objs.size=none:=I1.hok.fresh (Nat.le_refl _)
 exact⟨.ref s1.heap.objs.size,upd H1 s1.heap.objs.size (.lst xs),I1.laid (t':=s1.toks) (fun b u e=>Heap.get?_push_of_some _ e) (Nat.le_refl _) ⟨z,us,0,r,Heap.get?_push_size _ rfl⟩,rfl,q _ _ hf (kIn_none I1.kIn) (Same.upd hf) upd_same⟩
end
theorem rd_lstK {K:Frag}{ta:TA}{σ:St}{H:Hp}{Q:VK}(h:ta σ H fun xs H1=>xs.length≤sizeLine∧∀p H',H1 p=none→K.lookup p=none→Same H1 H'→H' p=some (.lst xs)→Q (.ref p) H'):tLstK K ta σ H Q:=h
noncomputable def nn9 (st la0 da0 sl0 ll0 la1 da1 sl1 ll1:Addr):List Addr:=[st,la0,da0,sl0,ll0,la1,da1,sl1,ll1]
section
variable {K:PySem.W.Frag}{C:Addr}{H H':Hp}{st p0 la0 da0 sl0 ll0 p1 la1 da1 sl1 ll1 lp ln lt:Addr}{n:Nat}{ws0:List V}{ds0:List PyData}{ls0:List Int}{ws1:List V}{ds1:List PyData}{ls1:List Int}
end
noncomputable def Lv (H:Hp)(L:List Addr):Prop:=∀q∈L,H q≠none
theorem Lv.same {H H':Hp}{L:List Addr}(h:Lv H L)(s:Same H H'):Lv H' L:=fun q hq z=>by
 cases e2:H q with
 | none=>exact h q hq e2
 | some u=>rw[s _ _ e2]at z;cases z
theorem nm {L:List Addr}{a b:Addr}(h:a∉L)(m:b∈L):a≠b:=fun z=>h (by rw[z];exact m)
section
variable {K:PySem.W.Frag}{N:List Addr}{C p x la da:Addr}{H H':Hp}{L:List Addr}
theorem post_new (np:H p=none)(nx:H x=none)(nla:upd (upd H x (.own p)) p (.ins C x []) la=none)(nda:upd (upd H x (.own p)) p (.ins C x []) da=none)(kp:∀b o,upd (upd H x (.own p)) p (.ins C x []) b=some o→b≠p→H' b=some o):Same H H'∧H la=none∧H da=none:=by
 have fr:∀ {q:Addr},upd (upd H x (.own p)) p (.ins C x []) q=none→H q=none:=fun {q} z=>by
  cases e:H q with
  | none=>rfl
  | some u=>rw[upd_ne (ne_of_none e np),upd_ne (ne_of_none e nx),e]at z;cases z
 exact⟨fun b o e=>kp b o (by rw[upd_ne (ne_of_none e np),upd_ne (ne_of_none e nx)];exact e) (ne_of_none e np),fr nla,fr nda⟩
end
theorem binds_peek2 {K:Frag}{fd:FuncData}{p1 p2 p3:Str}{v:Value}(h:∀(u0 u1:Value) S,peek K S (bindArgs fd ⟨[u0,u1],[]⟩)=some [(p1,u0),(p2,u1),(p3,v)]):Binds K fd [p1,p2,p3] [v]:=fun s us X hl=>by
 match us,hl with
 | [u0,u1],_=>exact kp_binds X (h u0 u1)
 | [],hl=>simp at hl
 | [_],hl=>simp at hl
 | _ :: _ :: _ :: _,hl=>simp at hl
section
variable {X:Cx}{k:Nat}{f C:Addr}{fd:FuncData}{ps ks:List Str}{sp:Sp}{XR:St→XK}{x:Str}{p pos:Pos}{g:List Value→List Value→List Value}{gV:List V→List V→List V}{kws:List Keyword}{tk:TA}
theorem run_makeKX {pins:List (Addr×Obj)}{σ:St}{H:Hp}{s:Shared}{Q:VK}{us ws:List Value}{vs zs:List V}(M:Mk X.K C f)(F:FnOk X.prog X.w X.K X.mg X.base (CX1 X.prog X.w) k f fd ps sp)(hr:Room (k+1) X.A)(hb:KBinds X.K fd ps ks g gV)
  (hx:Px X XR) (I:Inv X pins σ H s) (r:Vals vs us) (rz:Vals zs ws)
  (h:∀x dx,H x=none→H dx=none→dx≠x→X.K.lookup x=none→sp (gV (.ref x :: vs) zs) (upd (upd H dx (.own x)) x (.ins C dx [])) (fun v H2=>v = .non∧Q (.ref x) H2) (XR σ)) :
  wpAny (model X.prog X.w) X.A (call (.ref C) us (ks.zip ws)) (EP X pins σ Q) X.xe s:=by
 have kn:X.K.lookup (s.heap.objs.size+1)=none:=by
  cases e:X.K.lookup (s.heap.objs.size+1)with
  | none=>rfl
  | some o=>exact absurd (Heap.lt_size (I.kIn _ _ e)) (Nat.not_lt.mpr (Nat.le_succ _))
 have hq:=h (s.heap.objs.size+1) s.heap.objs.size (I.hok.fresh (Nat.le_succ _)) (I.hok.fresh (Nat.le_refl _)) (Nat.ne_of_lt (Nat.lt_succ_self _)) kn
 have I2:=Inv.made (C:=C) I
 have r2:Vals (gV (V.ref (s.heap.objs.size+1) :: vs) zs) (g (Value.ref (s.heap.objs.size+1) :: us) ws):=hb.rel (.cons rfl r) rz
 have hl:(g (Value.ref (s.heap.objs.size+1) :: us) ws).length=ps.length:=by
  have e:=r2.length
  rw[F.len _ _ _ _ hq]at e
  exact e.symm
 refine wpAny_call (make_map (f:=f) I.kIn M.makes M.init (beq_iff_eq.mp M.fn) (codeAny_mono (F.run _ X.stack _ _ ⟨Value.ref (s.heap.objs.size+1) :: us,ks.zip ws⟩ (g (Value.ref (s.heap.objs.size+1) :: us) ws) _ _ (XR σ) (hr.make C us _)
  (I2.env0.make C us _) (hb.to _ (Value.ref (s.heap.objs.size+1) :: us) ws I2.kIn hl) r2 hq) fun r s' hq'=>?_))
 cases r with
 | error e=>exact hx pins σ _ _ e s' I2 hq'
 | ok fl =>
  cases fl with
  | ret u =>
   obtain⟨v,H',I3,rv,ev,q3⟩:=I2.after hq'
   subst ev
   exact⟨rv,⟨V.ref (s.heap.objs.size+1),H',I3,rfl,q3⟩⟩
  | next=>exact False.elim hq'
  | brk=>exact False.elim hq'
  | cont=>exact False.elim hq'
noncomputable def tMakeKX (K:Frag)(C:Addr)(sp:Sp)(gV:List V→List V→List V)(XR:St→XK)(tk:TA):TE:=fun σ H Q=>tk σ H fun zs H2=>∀x dx,H2 x=none→H2 dx=none→dx≠x→K.lookup x=none→sp (gV [.ref x] zs) (upd (upd H2 dx (.own x)) x (.ins C dx [])) (fun v H3=>v = .non∧Q (.ref x) H3) (XR σ)
theorem qe_makeKX (M:Mk X.K C f)(F:FnOk X.prog X.w X.K X.mg X.base (CX1 X.prog X.w) k f fd ps sp)(hr:Room (k+1) X.A)(hg:Gl X x)(hm:X.mg x=some (.ref C))(hb:KBinds X.K fd ps ks g gV)(hx:Px X XR)
  (hkw:PKs X kws tk) (hall:(backToKw pos (keywordEach kws X.env)).all (·.1.isSome)=true) (hks:(backToKw pos (keywordEach kws X.env)).filterMap (·.1)=ks) (hdb:(x == ("__debug__":Str))=false)
  (hpl:((backTo pos (starEach [] X.env)).any (·.1) || (backToKw pos (keywordEach kws X.env)).any (·.1.isNone))=false) :
  PE X (.Call (.Name x p) [] kws pos) (tMakeKX X.K C sp gV XR tk):=by
 intro pins s σ H Q I h
 refine wpAny_Call_Name_kw (ld_glob I hg hm ?_ hdb)
 refine PySem.W.callWith_KW0 (h₀:=X.base) I.ok.mod.kin M.kp hall (thn (hkw.run pos pins s σ H _ I h) fun ws s2 ⟨zs,H2,I2,rz,q2⟩=>⟨I2.kIn,?_⟩) hpl
 rw[hks]
 exact run_makeKX M F hr hb hx I2 (us:=[]) .nil rz q2
end
theorem rd_makeKX {K:Frag}{C:Addr}{sp:Sp}{gV:List V→List V→List V}{XR:St→XK}{tk:TA}{σ:St}{H:Hp}{Q:VK}(h:tk σ H fun zs H2=>∀x dx,H2 x=none→H2 dx=none→dx≠x→K.lookup x=none→sp (gV [.ref x] zs) (upd (upd H2 dx (.own x)) x (.ins C dx [])) (fun v H3=>v = .non∧Q (.ref x) H3) (XR σ)):tMakeKX K C sp gV XR tk σ H Q:=h
section
variable {X:Cx}{CX:CXT}{k:Nat}{f C:Addr}{fd:FuncData}{ps:List Str}{sp:Sp}{E:XK}
end
section
variable {X:Cx}
theorem qe_methXD {e o:Expr}{es:List Expr}{ta:TE}{t:TA}{pos apos:Pos}{k:Nat}{fa C:Addr}{fd:FuncData}{ps:List Str}{sp:Sp}{XR:St→XK}{m:Str}{pl:Sem Bool}{dvs:List V}{ds:List Value}(he:PE X o ta)(c:Cls X.K C)(hm:Meth X.K C m fa)(F:FnOk X.prog X.w X.K X.mg X.base (CX1 X.prog X.w) k fa fd ps sp)(hr:Room k X.A)(hb:Binds X.K fd ps ds)(hd:Vals dvs ds)(hx:Px X XR)(ha:PAs X (e :: es) t)
  (h1:notStar e=true) (h2:noStars es=true)
  (ht:eval (.Call (.Attribute o m apos) (e :: es) [] pos) X.env=(do
   let ov ← eval o X.env
   standAt apos.atName
   let (f,first) ← holding [ov] (getMethod ov m pl)
   callWith pos f first (backTo pos (starEach (e :: es) X.env)) (backToKw pos (keywordEach [] X.env)))) :
  PE X (.Call (.Attribute o m apos) (e :: es) [] pos) (tMethX C m sp dvs XR ta t):=by
 intro pins s σ H Q I h
 refine PySem.W.methodCall_KW (pl:=pl) (thn (he pins s σ H _ I h) fun u s1 ⟨x,H1,I1,rx,a,dx,fs,ex,ea,l,q⟩=>?_) ht
 subst ex
 obtain rfl:u=Value.ref a:=rx
 refine getmeth_ok I1 ea c hm l ?_
 refine PySem.W.callWith_K (first:=[.ref a]) (h₀:=X.base) I1.ok.mod.kin hm.kp (thn (ha.run pos pins s1 σ H1 _ I1 q) fun us s2 ⟨vs,H2,I2,r2,q2⟩=>⟨I2.kIn,?_⟩) (star_ne h1) (stars_any h2)
 exact run_fnX (us:=.ref a :: us) (vs:=.ref a :: vs) (dvs:=dvs) (ds:=ds) F hr hb hd hx I2 (.cons rfl r2) (by simpa using q2)
end
theorem keepF {α:Type}{a c:Nat}{g:α×Nat→Option α}(hg:∀x k,g (x,k)=if (decide ((a:Int)≤(k:Int)) && decide ((k:Int)<(c:Int)) && ((k:Int) - a) % 1 == 0)=true then none else some x) :
  ∀(xs:List α) (i:Nat),(xs.zipIdx i).filterMap g=xs.take (a - i) ++ xs.drop (max (a - i) (c - i))
 | [],i=>by simp
 | x :: xs,i=>by
  rw[List.zipIdx_cons,List.filterMap_cons,hg,keepF hg xs (i+1)]
  have hm:((i:Int) - a) % 1=0:=Int.emod_one _
  rw[hm]
  by_cases h1:a≤i
  ·have z:a - i=0:=by omega
   have z1:a - (i+1)=0:=by omega
   rw[z,z1]
   by_cases h2:i<c
   ·obtain⟨m,em⟩:∃m,c - i=m+1:=⟨c - i - 1,by omega⟩
    rw[em,show c - (i+1)=m by omega]
    rw[if_pos (by simp;omega)]
    simp
   ·rw[show c - i=0 by omega,show c - (i+1)=0 by omega]
    rw[if_neg (by simp;omega)]
    simp
  ·obtain⟨m,em⟩:∃m,a - i=m+1:=⟨a - i - 1,by omega⟩
   rw[em,show a - (i+1)=m by omega,if_neg (by simp;omega)]
   have e3:max (m+1) (c - i)=max m (c - (i+1))+1:=by omega
   rw[e3]
   simp
section
variable {prog:Program}{w:World}{A:Around}{E:Value→Shared→Prop}{s:Shared}
set_option maxRecDepth 100000 in
theorem delItem_slice {l sl:Addr}{items:Array Value}{n:Nat}{vl vu:Value}{lo hi:Option Int}{a c:Nat}{Q:Unit→Shared→Prop}
  (e:s.heap.get? l=some { cls:=.type "list",data:=.seq items n })
  (hs:s.heap.IsSliceOf sl vl vu .none) (pl:IsPart vl lo) (pu:IsPart vu hi) (hb:sliceBounds lo hi none items.size=((a:Int),(c:Int),1))
  (hsz:items.size≤sizeLine) (h:∀f:Array Value→Array Value,f items=(items.toList.take a ++ items.toList.drop (max a c)).toArray→Q () { s with heap:=s.heap.update l (Obj.mapSeq f) }) :
  wpAny (model prog w) A (delItem (.ref l) (.ref sl)) Q E s:=by
 have hl:s.heap.IsList l items:=PySem.IsL.isList e
 obtain⟨os,hos,hcs,hds⟩:=id hs
 have hTs:s.TypeIs (.ref sl) "slice":=⟨os,hos,hcs⟩
 have hstep:¬ ((rawPart none == rawInt 0)=true):=Bool.false_ne_true
 unfold delItem
 try with_reducible refine wpAny_holding ?_
 first |refine wpAny_bind (wpAny_pure ?_) |skip
 refine wpAny_bind (wpAny_sequenceKey hl.typeIs (by decide) ?_)
 refine wpAny_bind (wpAny_callSpecial?_slot (name:=Str.ofString "__delitem__") hl.typeIs F.slot_list_delitem
  (wpAny_call_entry F.slot_list_delitem hl.typeIs F.entry_list_delitem ?_ (F.args_list_delitem_2 _ _)))
 show wpAny _ _ (Builtin.List.listSubscript? (.ref sl) >>= _) _ _ s
 refine wpAny_bind ?_
 unfold Builtin.List.listSubscript?
 refine wpAny_bind (wpAny_specialOf hTs slice_no_index ?_)
 simp only[Option.isNone_none,if_true]
 refine wpAny_pure ?_
 show wpAny _ _ (typeOf (.ref sl) >>= _) _ _ s
 refine wpAny_bind (wpAny_typeOf hTs ?_)
 first
  | rw[if_neg (by decide)]
  | refine PySem.W.KFB.if_not (by decide) ?_
 rw[listSliceParts_eq]
 refine wpAny_bind (wpAny_bind (wpAny_field hos hds (x:=.none) rfl (wpAny_bind (wpAny_listPart .none ?_))))
 rw[if_neg hstep]
 refine wpAny_bind (wpAny_field hos hds (x:=vl) rfl (wpAny_bind (wpAny_listPart pl ?_)))
 refine wpAny_bind (wpAny_field hos hds (x:=vu) rfl (wpAny_bind (wpAny_listPart pu (wpAny_pure ?_))))
 unfold Builtin.List.listItems
 refine wpAny_bind (wpAny_bind (wpAny_seqItems e rfl (wpAny_pure ?_)))
 refine wpAny_bind (wpAny_of_eq ((sliceIndices_raw lo hi none items.size (by simp)).trans (congrArg (pure:Int×Int×Int→Sem (Int×Int×Int)) hb)) ?_)
 refine wpAny_bind (wpAny_rule ?_)
 have key:∀g:Value×Nat→Option Value,(∀x k,g (x,k)=if (decide ((a:Int)≤(k:Int)) && decide ((k:Int)<(c:Int)) && ((k:Int) - a) % 1 == 0)=true then none else some x) →
   (List.filterMap g items.toList.zipIdx).toArray=(items.toList.take a ++ items.toList.drop (max a c)).toArray:=fun g hg=>congrArg List.toArray (by have:=keepF hg items.toList 0;simpa using this)
 have kz:∀xs:Array Value,xs=(items.toList.take a ++ items.toList.drop (max a c)).toArray→xs.size≤sizeLine+1:=fun xs e=>by
  rw[e,List.size_toArray,List.length_append,List.length_take,List.length_drop,Array.length_toList];omega
 refine wpAny_bind ?_
 unfold Builtin.List.listUpdate
 refine wpAny_updateSeq (hz:=hsz) (_hz':=kz _ (key _ fun x k=>rfl)) e rfl ?_
 refine wpAny_bind (wpAny_letGo ?_)
 exact wpAny_pure ⟨.none,rfl,wpAny_pure (h _ (key _ fun x k=>rfl))⟩
end
section
variable {X:Cx}
noncomputable def delV (xs:List V)(lo hi:Option Int):List V:=xs.take (sliceBounds lo hi none xs.length).1.toNat ++ xs.drop (max (sliceBounds lo hi none xs.length).1.toNat (sliceBounds lo hi none xs.length).2.1.toNat)
theorem bnd_nat (lo hi:Option Int)(n:Nat):sliceBounds lo hi none n=(((sliceBounds lo hi none n).1.toNat:Int),((sliceBounds lo hi none n).2.1.toNat:Int),1):=by
 have h0:∀(v:Option Int) (d:Int),0≤d→0≤(match v with |none=>d |some i=>max 0 (min (if i<0 then i+(n:Int) else i) (n:Int))):=fun v d hd=>by
  cases v with
  | none=>exact hd
  | some i=>exact Int.le_max_left _ _
 have e:sliceBounds lo hi none n=((match lo with |none=>0 |some i=>max 0 (min (if i<0 then i+(n:Int) else i) (n:Int))),(match hi with |none=>(n:Int) |some i=>max 0 (min (if i<0 then i+(n:Int) else i) (n:Int))),1):=rfl
 have a:=h0 lo 0 (Int.le_refl _)
 have b:=h0 hi n (Int.natCast_nonneg n)
 rw[e]
 dsimp only
 rw[Int.toNat_of_nonneg a,Int.toNat_of_nonneg b]
theorem del_slice {pins:List (Addr×Obj)}{s:Shared}{σ:St}{H:Hp}{l sl:Addr}{xs:List V}{lo hi:Option Int}{vl vu:Value}{Q:Unit→Shared→Prop}(I:Inv X pins σ H s)
  (hH:H l=some (.lst xs)) (hs:s.heap.IsSliceOf sl vl vu .none) (pl:IsPart vl lo) (pu:IsPart vu hi)
  (h:∀s',Inv X pins σ (upd H l (.lst (delV xs lo hi))) s'→Q () s'):wpAny (model X.prog X.w) X.A (delItem (.ref l) (.ref sl)) Q X.xe s:=by
 obtain⟨z,its,n,r,hl,e⟩:=I.lstM hH
 refine delItem_slice (a:=(sliceBounds lo hi none xs.length).1.toNat) (c:=(sliceBounds lo hi none xs.length).2.1.toNat) e hs pl pu (by rw[List.size_toArray,← hl];exact bnd_nat lo hi xs.length) (by rw[List.size_toArray];omega) fun f hf=>h _ ?_
 refine I.lset (its':=its.take (sliceBounds lo hi none xs.length).1.toNat ++ its.drop (max (sliceBounds lo hi none xs.length).1.toNat (sliceBounds lo hi none xs.length).2.1.toNat)) (t':=s.toks) hH e hf (Vals.append (r.take _) (r.drop _)) ?_
 unfold delV
 rw[List.length_append,List.length_take,List.length_drop]
 omega
noncomputable def sDelSl (te:TE)(tl th:TO):TS:=fun D σ H=>te σ H fun x H1=>tl σ H1 fun l H2=>th σ H2 fun u H3=>∃a xs,x = .ref a∧H3 a=some (.lst xs)∧D.nx σ (upd H3 a (.lst (delV xs l u)))
variable {e:Expr}{lo hi:Option Expr}{te:TE}{tl th:TO}{tpos pos p2:Pos}
theorem qs_delsl (he:PE X e te)(hl:PO X lo tl)(hu:PO X hi th):PSw X (.Delete [.Subscript e (.Slice lo hi none p2) tpos] pos) (sDelSl te tl th):=⟨by
 intro pins s σ H D I h
 refine wpAny_Delete (wpAny_deleteEach_cons (wpAny_delete_Subscript (thn (he pins s σ H _ I h) fun v s1 ⟨x,H1,I1,r1,q1⟩=>?_)))
 refine wpAny_Slice (thn (hl pins s1 σ H1 _ I1 q1) fun vl s2 ⟨l,H2,I2,pl,q2⟩=>thn (hu pins s2 σ H2 _ I2 q2) fun vu s3 ⟨u,H3,I3,pu,a,xs,ex,e3,q3⟩=>?_)
 rw[evalPart_none]
 refine wpAny_pure ?_
 subst ex
 obtain rfl:v=Value.ref a:=r1
 have I4:Inv X pins σ H3 { s3 with heap:=s3.heap.push { cls:=.type "slice",data:=.fields #[vl,vu,.none] } }:=I3.kept (t':=s3.toks) fun b ob q=>Heap.get?_push_of_some _ q
 exact del_slice I4 e3 (Heap.IsSliceOf.new ..) pl pu fun s5 I5=>wpAny_deleteEach_nil ⟨σ,_,I5,q3⟩⟩
end
theorem rd_delsl {te:TE}{tl th:TO}{D:Ends}{σ:St}{H:Hp}(h:te σ H fun x H1=>tl σ H1 fun l H2=>th σ H2 fun u H3=>∃a xs,x = .ref a∧H3 a=some (.lst xs)∧D.nx σ (upd H3 a (.lst (delV xs l u)))):sDelSl te tl th D σ H:=h
end L2
namespace Zt
open PySem PySem.Spec PyProof.Rows PySem.W
section
variable {prog:Program}{w:World}{A:Around}{E:Value→Shared→Prop}{s:Shared}
end
end Zt
namespace L2
open PySem PySem.Spec PyProof.Rows
end L2
namespace Mt
open PySem L2
noncomputable def countD:PyData→Bool
 | .int i=>decide (i ≥ 0)
 | _=>false
theorem itms_shapedT {w k:Nat}{ds:List PyData}(h:∀d∈ds,Itm w k d)(hk:k≤30):SeqAt.shaped (.tuple ds)=true:=by
 unfold SeqAt.shaped
 have h1:PyData.canLay0 (.tuple ds)=true:=by rw[PyData.canLay0];exact itms_can h
 have h2:=itms_depth h
 have h3:PyData.depth (.tuple ds)≤64:=by simp only[PyData.depth];omega
 rw[h1,decide_eq_true h3];rfl
end Mt
namespace L2
open PySem PySem.Spec PyProof.Rows PySem.W
noncomputable def loF (hv:V)(fl:Int)(ra:Addr):List (Str×V):=putF "kept_rows" (.ref ra) (putF "cut_off" (.int fl) (putF "past" hv []))
theorem loF_eq (hv:V)(fl:Int)(ra:Addr):loF hv fl ra = [(("past":Str),hv),(("cut_off":Str),.int fl),(("kept_rows":Str),.ref ra)]:=by
 unfold loF
 simp only[putF]
 rw[if_neg (by decide)]
 simp only[putF]
 rw[if_neg (by decide),if_neg (by decide)]
variable {hv hv':V}{fl:Int}{ra:Addr}
theorem loF_p:(loF hv fl ra).lookup ("past":Str)=some hv:=by unfold loF;rw[lookup_putF,if_neg (by decide),lookup_putF,if_neg (by decide),lookup_putF,if_pos rfl]
theorem loF_c:(loF hv fl ra).lookup ("cut_off":Str)=some (.int fl):=by unfold loF;rw[lookup_putF,if_neg (by decide),lookup_putF,if_pos rfl]
theorem loF_r:(loF hv fl ra).lookup ("kept_rows":Str)=some (.ref ra):=by unfold loF;rw[lookup_putF,if_pos rfl]
theorem loF_no {m:Str}(h1:¬ m = "past")(h2:¬ m = "cut_off")(h3:¬ m = "kept_rows"):(loF hv fl ra).lookup m=none:=by
 unfold loF;rw[lookup_putF,if_neg h3,lookup_putF,if_neg h2,lookup_putF,if_neg h1];rfl
theorem putF_p:putF "past" hv' (loF hv fl ra)=loF hv' fl ra:=by
 rw[loF_eq,loF_eq];simp only[putF,if_true]
theorem putF_c {n:Int}:putF "cut_off" (.int n) (loF hv fl ra)=loF hv n ra:=by
 rw[loF_eq,loF_eq];simp only[putF];rw[if_neg (by decide)];simp only[if_true]
structure LgAt (K:PySem.W.Frag) (N:List Addr) (C:Addr) (H:Hp) (p:Addr) (hv:V) (hs:List (Int×Int)) (fl:Int) (ra:Addr) (ws:List V) (ds:List PyData):Prop where
 ob:∃dx,H p=some (.ins C dx (loF hv fl ra))
 h:Dt K N H hv (.tuple (hs.map Mt.pr))
 ho:Mt.HOK hs
 r:H ra=some (.lst ws)
 d:DtAll K N H ws ds
 g:∀d∈ds,Mt.rowD d=true∧Mt.Itm 1000 3 d
 f0:0≤fl
 f1:fl≤1000000
 n:ds.length≤1000
variable {K:PySem.W.Frag}{N M:List Addr}{C:Addr}{H H':Hp}{p st:Addr}{hs:List (Int×Int)}{ws:List V}{ds:List PyData}
theorem LgAt.len (L:LgAt K N C H p hv hs fl ra ws ds):ws.length=ds.length:=L.d.length
theorem LgAt.pr (L:LgAt K N C H p hv hs fl ra ws ds):p≠ra:=fun e=>by obtain⟨dx,h⟩:=L.ob;rw[e,L.r]at h;cases h
theorem LgAt.ext (L:LgAt K N C H p hv hs fl ra ws ds)(x:Ext M H H')(hm:∀b∈M,b∈N)(h1:p∉M)(h2:ra∉M):LgAt K N C H' p hv hs fl ra ws ds :=
 ⟨L.ob.imp fun _ e=>x _ _ e h1,Dt.ext (N:=N) (fun b o e n=>x b o e fun z=>n (hm b z)) L.h,L.ho,x _ _ L.r h2,DtAll.ext (N:=N) (fun b o e n=>x b o e fun z=>n (hm b z)) L.d,L.g,L.f0,L.f1,L.n⟩
theorem LgAt.same (L:LgAt K N C H p hv hs fl ra ws ds)(s:Same H H'):LgAt K N C H' p hv hs fl ra ws ds:=L.ext (M:=[]) (Ext.same s) (by simp) (by simp) (by simp)
theorem dt_row {v:V}{d:PyData}(h:Dt K N H v d)(hr:Mt.rowD d=true):∃b,v = .ref b:=by
 cases d with
 | tuple es=>obtain⟨b,ys,rfl,_⟩:=dt_tupN h;exact⟨b,rfl⟩
 | _=>cases hr
theorem LgAt.refs (L:LgAt K N C H p hv hs fl ra ws ds):∀v∈ws,∃q,v = .ref q:=fun v hv=>by
 obtain⟨i,hi,e⟩:=List.getElem_of_mem hv
 obtain⟨d,ed,hd⟩:=L.d.get (i:=i) (v:=v) (by rw[List.getElem?_eq_getElem hi,e])
 exact dt_row hd (L.g d (List.mem_of_getElem? ed)).1
theorem LgAt.push {x:V}{d:PyData}(L:LgAt K N C H p hv hs fl ra ws ds)(hd:Dt K N H x d)(hg:Mt.rowD d=true∧Mt.Itm 1000 3 d)(hra:ra∈N)(hn:ds.length<1000) :
  LgAt K N C (upd H ra (.lst (ws ++ [x]))) p hv hs fl ra (ws ++ [x]) (ds ++ [d]):=by
 have x1:Ext N H (upd H ra (.lst (ws ++ [x]))):=Ext.at hra
 exact⟨L.ob.imp fun _ e=>by rw[upd_ne L.pr];exact e,L.h.ext x1,L.ho,upd_same,(L.d.ext x1).append (.cons (hd.ext x1) .nil),fun e he=>by
  rcases List.mem_append.mp he with he |he
  ·exact L.g e he
  ·rw[List.mem_singleton.mp he];exact hg,L.f0,L.f1,by simp;omega⟩
theorem LgAt.cut {fl':Int}(i j:Nat)(L:LgAt K N C H p hv hs fl ra ws ds)(hra:ra∈N):LgAt K N C (upd H ra (.lst ((ws.drop i).take j))) p hv hs fl ra ((ws.drop i).take j) ((ds.drop i).take j):=by
 have x1:Ext N H (upd H ra (.lst ((ws.drop i).take j))):=Ext.at hra
 exact⟨L.ob.imp fun _ e=>by rw[upd_ne L.pr];exact e,L.h.ext x1,L.ho,upd_same,((L.d.ext x1).drop i).take j,fun e he=>L.g e (List.mem_of_mem_drop (List.mem_of_mem_take he)),L.f0,L.f1,by rw[List.length_take,List.length_drop];have:=L.n;omega⟩
theorem LgAt.floorTo {n:Int}(L:LgAt K N C H p hv hs fl ra ws ds)(hp:p∈N)(h0:0≤n)(h1:n≤1000000) {dx:Addr}:LgAt K N C (upd H p (.ins C dx (loF hv n ra))) p hv hs n ra ws ds:=by
 have x1:Ext N H (upd H p (.ins C dx (loF hv n ra))):=Ext.at hp
 exact⟨⟨dx,upd_same⟩,L.h.ext x1,L.ho,by rw[upd_ne L.pr.symm];exact L.r,L.d.ext x1,L.g,h0,h1,L.n⟩
theorem LgAt.pastTo {hv2:V}{hs2:List (Int×Int)}(L:LgAt K N C H p hv hs fl ra ws ds)(hp:p∈N)(hd:Dt K N H hv2 (.tuple (hs2.map Mt.pr)))(ho:Mt.HOK hs2) {dx:Addr}:LgAt K N C (upd H p (.ins C dx (loF hv2 fl ra))) p hv2 hs2 fl ra ws ds:=by
 have x1:Ext N H (upd H p (.ins C dx (loF hv2 fl ra))):=Ext.at hp
 exact⟨⟨dx,upd_same⟩,hd.ext x1,ho,by rw[upd_ne L.pr.symm];exact L.r,L.d.ext x1,L.g,L.f0,L.f1,L.n⟩
theorem StOk.row (S:StOk K H st)(L:LgAt K N C H p hv hs fl ra ws ds)(x:Ext [p,ra] H H'):StOk K H' st:=by
 obtain⟨c,cs,a,q,r,h1,h2,h3,h4,h5⟩:=S.ex
 have n1:st ∉ [p,ra]:=fun z=>by
  simp only[List.mem_cons,List.not_mem_nil,or_false]at z
  rcases z with rfl |rfl
  ·obtain⟨dx,e⟩:=L.ob;rw[h1]at e;cases e
  ·have e:=L.r
   rw[h1]at e
   injection e with e;injection e with e
   have:=L.refs (.int a) (by rw[← e];simp)
   obtain⟨q,hq⟩:=this
   cases hq
 have n2:c ∉ [p,ra]:=fun z=>by
  simp only[List.mem_cons,List.not_mem_nil,or_false]at z
  rcases z with rfl |rfl
  ·obtain⟨dx,e⟩:=L.ob;rw[h2]at e;cases e
  ·have e:=L.r
   rw[h2]at e
   injection e with e;injection e with e
   cases cs with
   | nil=>simp at h4
   | cons n cs =>
    obtain⟨q,hq⟩:=L.refs (.int n) (by rw[← e];simp)
    cases hq
 exact⟨c,cs,a,q,r,x _ _ h1 n1,x _ _ h2 n2,h3,h4,h5⟩
theorem delV_to {xs:List V}{i:Int}(h0:0≤i)(h1:i≤xs.length):delV xs none (some i)=xs.drop i.toNat:=by
 have e:sliceBounds none (some i) none xs.length=(0,i,1):=by
  simp only[sliceBounds,Option.getD_none]
  have h2:¬ i<0:=by omega
  simp only[h2,if_false,show (1:Int) > 0 by decide,if_true]
  congr 2
  omega
 unfold delV
 rw[e]
 dsimp only
 rw[show max (Int.toNat 0) i.toNat=i.toNat by omega]
 rfl
theorem cutV_from {xs:List V}{i:Int}(h0:0≤i)(h1:i≤xs.length):cutV xs (some i) none=xs.drop i.toNat:=by
 unfold cutV
 obtain⟨n,rfl⟩:=Int.eq_ofNat_of_zero_le h0
 have e:HT.sIx xs.length 0 (some (n:Int))=min n xs.length:=HT.sIx_nat _ _ n
 rw[e,HT.sIx_none,Nat.min_eq_left (by omega),Int.toNat_natCast]
 exact List.take_of_length_le (by rw[List.length_drop];omega)
variable {K:PySem.W.Frag}{N:List Addr}{C:Addr}{H:Hp}{p ra:Addr}{hv:V}{fl:Int}{hs:List (Int×Int)}{ws:List V}{ds:List PyData}
theorem LgAt.dropTo (i:Nat)(L:LgAt K N C H p hv hs fl ra ws ds)(hra:ra∈N):LgAt K N C (upd H ra (.lst (ws.drop i))) p hv hs fl ra (ws.drop i) (ds.drop i):=by
 have h:=L.cut (fl':=fl) i ws.length hra
 rw[List.take_of_length_le (by rw[List.length_drop];omega),List.take_of_length_le (by rw[List.length_drop,L.len];omega)]at h
 exact h
end L2
namespace Mt
open PySem L2
theorem okP_down:∀ {l f a b:Int}{hs:List (Int×Int)},okP a b hs→l≤a→f≤b→okP l f hs
 | _,_,_,_,[],_,_,_=>trivial
 | l,f,a,b,(x,y) :: r,h,h1,h2=>by
  obtain⟨g1,g2,g3,g4,g5⟩:=h
  exact⟨by omega,g2,by omega,g4,g5⟩
theorem okP_filter {p:Int×Int→Bool}:∀ {l f:Int}{hs:List (Int×Int)},okP l f hs→okP l f (hs.filter p)
 | _,_,[],_=>trivial
 | l,f,(x,y) :: r,h=>by
  obtain⟨g1,g2,g3,g4,g5⟩:=h
  by_cases hp:p (x,y)=true
  ·rw[List.filter_cons_of_pos hp]
   exact⟨g1,g2,g3,g4,okP_filter g5⟩
  ·rw[List.filter_cons_of_neg hp]
   exact okP_down (okP_filter g5) (by omega) (by omega)
theorem HOK.upto {hs:List (Int×Int)}(h:HOK hs) {e:Int}(he:0≤e):HOK (hs.filter fun q=>decide (q.2≤e)):=by
 obtain⟨a,r,rfl⟩:=h.zero
 have e1:((a,(0:Int)) :: r).filter (fun q=>decide (q.2≤e))=(a,0) :: r.filter (fun q=>decide (q.2≤e)):=List.filter_cons_of_pos (by simpa using he)
 refine⟨by rw[e1];simp,Nat.le_trans (List.length_filter_le _ _) h.len2,okP_filter h.ok,⟨a,_,e1⟩⟩
theorem HOK.more {hs:List (Int×Int)}{ll lf u w:Int}(h:HOK (hs ++ [(ll,lf)]))(h1:ll<u)(h2:u≤1000000000)(h3:lf≤w)(h4:w≤1000000)(n:hs.length+1≠60):HOK (hs ++ [(ll,lf),(u,w)]):=by
 have e:hs ++ [(ll,lf),(u,w)]=hs ++ [(ll,lf)] ++ [(u,w)]:=by simp
 have l2:=h.len2
 rw[List.length_append,List.length_singleton]at l2
 refine⟨by simp,by simp;omega,by rw[e];exact okP_snoc h.ok h1 h2 h3 h4,?_⟩
 obtain⟨a,r,q⟩:=h.zero
 exact⟨a,r ++ [(u,w)],by rw[e,q];rfl⟩
theorem HOK.snoc {hs:List (Int×Int)}(h:HOK hs):∃hs1 ll lf,hs=hs1 ++ [(ll,lf)]:=by
 have hne:hs ≠ []:=fun e=>by have:=h.len1;rw[e]at this;simp at this
 refine⟨hs.dropLast,(hs.getLast hne).1,(hs.getLast hne).2,?_⟩
 exact(List.dropLast_concat_getLast hne).symm
end Mt
namespace L2
open PySem PySem.Spec PyProof.Rows PySem.W
noncomputable def KpAt (K:PySem.W.Frag)(N:List Addr)(H:Hp)(kv:Addr)(hs:List (Int×Int))(fl:Int)(ds:List PyData):Prop :=
 ∃(hp rl:Addr) (ws:List V),H kv=some (.lst [.ref hp,.int fl,.ref rl])∧Dt K N H (.ref hp) (.tuple (hs.map Mt.pr))∧H rl=some (.lst ws)∧DtAll K N H ws ds∧kv∉N∧rl∉N
variable {K:PySem.W.Frag}{N M:List Addr}{H H':Hp}{kv:Addr}{hs:List (Int×Int)}{fl:Int}{ds:List PyData}
theorem KpAt.dt (h:KpAt K N H kv hs fl ds):Dt K N H (.ref kv) (.list [.tuple (hs.map Mt.pr),.int fl,.list ds]):=by
 obtain⟨hp,rl,ws,h1,h2,h3,h4,h5,h6⟩:=h
 exact .lst (SqL.of h1) h5 (.cons h2 (.cons (.int _) (.cons (.lst (SqL.of h3) h6 h4) .nil)))
theorem cutV_to {xs:List V}{i:Int}(h0:0≤i)(h1:i≤xs.length):cutV xs none (some i)=xs.take i.toNat:=by
 unfold cutV
 obtain⟨n,rfl⟩:=Int.eq_ofNat_of_zero_le h0
 have e:HT.sIx xs.length xs.length (some (n:Int))=min n xs.length:=HT.sIx_nat _ _ n
 rw[e,HT.sIx_none,List.drop_zero,Nat.sub_zero,Nat.min_eq_left (by omega),Int.toNat_natCast]
noncomputable def nn6 (st p0 ra0 p1 ra1 kl:Addr):List Addr:=[st,p0,ra0,p1,ra1,kl]
section
variable {K:PySem.W.Frag}{C:Addr}{H H':Hp}{st p0 ra0 p1 ra1 kl lgl:Addr}{n:Nat}{hv0:V}{hs0:List (Int×Int)}{fl0:Int}{ws0:List V}{ds0:List PyData}{hv1:V}{hs1:List (Int×Int)}{fl1:Int}{ws1:List V}{ds1:List PyData}{k0 k1:Addr}
end
section
variable {K:PySem.W.Frag}{N:List Addr}{C p x ra:Addr}{H H':Hp}{L:List Addr}{hv:V}{hs:List (Int×Int)}{fl:Int}
theorem log_new (np:H p=none)(nx:H x=none)(nra:upd (upd H x (.own p)) p (.ins C x []) ra=none)(kp:∀b o,upd (upd H x (.own p)) p (.ins C x []) b=some o→b≠p→H' b=some o):Same H H'∧H ra=none:=by
 obtain⟨a,b,_⟩:=post_new (C:=C) np nx nra nra kp
 exact⟨a,b⟩
theorem Lv.log (h:Lv H L)(np:H p=none)(nra:H ra=none)(s:Same H H')(P:LgAt K N C H' p hv hs fl ra [] []):Lv H' (p :: ra :: L)∧p∉L∧ra∉L:=by
 refine⟨fun q hq z=>?_,fun z=>h p z np,fun z=>h ra z nra⟩
 rcases List.mem_cons.mp hq with rfl |hq
 ·obtain⟨dx,e⟩:=P.ob;rw[e]at z;cases z
 rcases List.mem_cons.mp hq with rfl |hq
 ·rw[P.r]at z;cases z
 ·exact h.same s q hq z
end
end L2
namespace L2
open PySem PySem.Spec PyProof.Rows
end L2
namespace L2
open PySem PySem.Spec PyProof.Rows PySem.W
section
variable {X:Cx}{k:Nat}{f C r:Addr}{fd:FuncData}{ps ks:List Str}{sp:Sp}{XR:St→XK}{x:Str}{p pos:Pos}
noncomputable def kg0 {α:Type}(r z:α):List α→List α→List α
 | [a],[]=>[a,r,z]
 | _,_=>[]
theorem kg0_rel {t:Tok}{vs:List V}{us:List Value}{zs:List V}{ws:List Value}(h1:Vals vs us)(h2:Vals zs ws):Vals (kg0 (.ref r) (.int 0) vs zs) (kg0 (.ref r) (.int 0 t) us ws):=by
 cases h1 with
 | nil=>exact .nil
 | cons a q=>cases q with
  | nil=>cases h2 with
   | nil=>exact .cons a (.cons rfl (.cons ⟨t,rfl⟩ .nil))
   | cons b r2=>exact .nil
  | cons _ _=>exact .nil
theorem kb_peek0 {K:Frag}{fd:FuncData}{p1 p2 p3:Str}{t:Tok}(h:∀(u:Value) S,peek K S (bindArgs fd ⟨[u],[]⟩)=some [(p1,u),(p2,.ref r),(p3,.int 0 t)]):KBinds K fd [p1,p2,p3] [] (kg0 (.ref r) (.int 0 t)) (kg0 (.ref r) (.int 0)):=by
 refine⟨fun s us ws X hl=>?_,kg0_rel⟩
 match us,ws,hl with
 | [u],[],_=>exact kp_binds X (h u)
 | [],_,hl=>simp[kg0]at hl
 | [_],_ :: _,hl=>simp[kg0]at hl
 | _ :: _ :: _,_,hl=>simp[kg0]at hl
theorem qe_make0K (M:Mk X.K C f)(F:FnOk X.prog X.w X.K X.mg X.base (CX1 X.prog X.w) k f fd ps sp)(hr:Room (k+1) X.A)(hg:Gl X x)(hm:X.mg x=some (.ref C))(hb:∃t,KBinds X.K fd ps [] (kg0 (.ref r) (.int 0 t)) (kg0 (.ref r) (.int 0)))(hx:Px X XR)
  (hdb:(x == ("__debug__":Str))=false):PE X (.Call (.Name x p) [] [] pos) (tMakeKX X.K C sp (kg0 (.ref r) (.int 0)) XR tNil):=by
 obtain⟨t,hb⟩:=hb
 exact qe_makeKX M F hr hg hm hb hx qk_nil rfl rfl hdb rfl
noncomputable def kgR {α:Type}(r:α):List α→List α→List α
 | [a],[c]=>[a,r,c]
 | _,_=>[]
theorem kgR_rel {vs:List V}{us:List Value}{zs:List V}{ws:List Value}(h1:Vals vs us)(h2:Vals zs ws):Vals (kgR (.ref r) vs zs) (kgR (.ref r) us ws):=by
 cases h1 with
 | nil=>exact .nil
 | cons a q=>cases q with
  | nil=>cases h2 with
   | nil=>exact .nil
   | cons b r2=>cases r2 with
    | nil=>exact .cons a (.cons rfl (.cons b .nil))
    | cons _ _=>exact .nil
  | cons _ _=>exact .nil
theorem kb_peekR {K:Frag}{fd:FuncData}{p1 p2 p3:Str}(h:∀(u w:Value) S,peek K S (bindArgs fd ⟨[u],[(p3,w)]⟩)=some [(p1,u),(p2,.ref r),(p3,w)]):KBinds K fd [p1,p2,p3] [p3] (kgR (.ref r)) (kgR (.ref r)):=by
 refine⟨fun s us ws X hl=>?_,kgR_rel⟩
 match us,ws,hl with
 | [u],[w],_=>exact kp_binds X (h u w)
 | [],_,hl=>simp[kgR]at hl
 | [_],[],hl=>simp[kgR]at hl
 | [_],_ :: _ :: _,hl=>simp[kgR]at hl
 | _ :: _ :: _,_,hl=>simp[kgR]at hl
end
section
variable {X:Cx}
end
end L2
namespace Mt
open PySem PySem.Spec PyProof.Rows PySem.W
theorem keyD_only {d:PyData}(h:keyD d=true):tupOnly d=true∧d.depth=0:=by
 cases d with
 | str z=>exact⟨rfl,rfl⟩
 | _=>cases h
theorem withinD_only {lo hi:Int}{d:PyData}(h:withinD lo hi d=true):tupOnly d=true∧d.depth=0:=by
 cases d with
 | int z=>exact⟨rfl,rfl⟩
 | _=>cases h
theorem strEq_only {s:Str}{d:PyData}(h:strEq s d=true):tupOnly d=true∧d.depth=0:=by
 cases d with
 | str z=>exact⟨rfl,rfl⟩
 | _=>cases h
theorem rowD_only {d:PyData}(h:rowD d=true):tupOnly d=true∧d.depth≤1:=by
 cases d with
 | tuple ds =>
  rw[rowD_t,Bool.or_eq_true]at h
  rcases h with h |h
  ·match ds,h with
   | [w,k,v],h =>
    have h':strEq "set" w=true∧keyD k=true∧withinD (-1000000000000000000) 1000000000000000000 v=true:=by simpa [setL]using h
    obtain⟨a1,a2⟩:=strEq_only h'.1
    obtain⟨b1,b2⟩:=keyD_only h'.2.1
    obtain⟨c1,c2⟩:=withinD_only h'.2.2
    exact⟨by simp only[tupOnly,tupOnlyAll,a1,b1,c1,Bool.and_true],by simp only[PyData.depth,PyData.depthAll];omega⟩
  ·match ds,h with
   | [w,k],h =>
    have h':strEq "cut" w=true∧keyD k=true:=by simpa [cutL]using h
    obtain⟨a1,a2⟩:=strEq_only h'.1
    obtain⟨b1,b2⟩:=keyD_only h'.2
    exact⟨by simp only[tupOnly,tupOnlyAll,a1,b1,Bool.and_true],by simp only[PyData.depth,PyData.depthAll];omega⟩
 | _=>cases h
theorem rows_only:∀ {ds:List PyData},(∀d∈ds,rowD d=true)→tupOnlyAll ds=true∧PyData.depthAll ds≤1
 | [],_=>⟨rfl,Nat.zero_le _⟩
 | d :: ds,h=>by
  obtain⟨a,b⟩:=rowD_only (h d (by simp))
  obtain⟨c,e⟩:=rows_only (ds:=ds) fun x hx=>h x (by simp[hx])
  exact⟨by simp only[tupOnlyAll,a,c,Bool.and_true],by simp only[PyData.depthAll];omega⟩
end Mt
namespace L2
open PySem PySem.Spec PyProof.Rows PySem.W
section
variable {X:Cx}{k:Nat}{f C:Addr}{fd:FuncData}{ps ks:List Str}{sp:Sp}{XR:St→XK}{x:Str}{p pos:Pos}{g:List Value→List Value→List Value}{gV:List V→List V→List V}{kws:List Keyword}{tk:TA}
end
section
variable {X:Cx}
end
end L2
namespace Mt
open PySem L2
end Mt
namespace L2
open PySem PySem.Spec PyProof.Rows PySem.W
variable {K:PySem.W.Frag}{N N':List Addr}{C:Addr}{H H':Hp}{p ra a:Addr}{hv:V}{fl:Int}{hs:List (Int×Int)}{ws:List V}{ds:List PyData}
theorem rd_ifK {c:TT}{t u:TS}{D:Ends}{σ:St}{H:Hp}(PA PB:St→Hp→Prop)(hA:∀ σ' H',PA σ' H'→t D σ' H')(hB:∀ σ' H',PB σ' H'→u D σ' H')(h:(∀ σ' H',PA σ' H'→t D σ' H')→(∀ σ' H',PB σ' H'→u D σ' H')→tIfS c t u D σ H):tIfS c t u D σ H:=h hA hB
noncomputable def nn4 (rl ra p st:Addr):List Addr:=[rl,ra,p,st]
section
variable {K:PySem.W.Frag}{C:Addr}{H H':Hp}{st p ra rl:Addr}{n:Nat}{hp:Addr}{hv:V}{hs:List (Int×Int)}{fl:Int}{ws:List V}{ds:List PyData}
end
theorem ext_lt (l:Addr)(items:Array Value)(n:Nat)(b:Addr)(items2:Array Value)(n2:Nat)(dd:Option Addr)(ss:Array (Option Value))(hs0:¬(!items.isEmpty && Builtin.List.listTooLong (items.size+items2.size))=true)(hs1:items.size≤sizeLine)(hs2:items.size+items2.size≤sizeLine+1) :
  Meets (Builtin.«list.extend» ⟨[.ref l,.ref b],[]⟩) (fun _ R s=>s.heap.get? l=some { cls:=.type "list",dict:=none,data:=.seq items n,slots:=#[] }∧s.heap.get? b=some { cls:=.type "tuple",dict:=dd,data:=.seq items2 n2,slots:=ss }∧R (.ok (.ret Value.none)) { s with heap:=s.heap.update l (Obj.mapSeq fun x=>x ++ items2),toks:=s.toks }) :=
 .of_wp fun prog w A R s h=>by
  obtain⟨hp,g,d,tk,os⟩:=s;obtain⟨hl,hb,h⟩:=h;have f1:=AutoSeq1.idx_int;have f2:=AutoSeq1.sub_tuple_tuple;have f3:=AutoSeq1.sub_list_list;have f4:=AutoSeq1.sub_tuple_list;have f5:=AutoSeq1.sub_list_tuple
  have hz':(items ++ items2).size≤sizeLine+1:=by rw[Array.size_append];exact hs2
  wp_walk using (wpAny_updateSeq hl rfl (hz:=hs1) (_hz':=hz')),AutoSeq1.wpAny_loadPart' hl,AutoSeq1.wpAny_loadPart' hb;exact⟨_,rfl,h⟩
noncomputable def rExtT (K:Frag):V→List V→Hp→VK→Prop:=fun x vs H Q=>∃l b xs zs,x = .ref l∧vs = [.ref b]∧H l=some (.lst xs)∧SqT K H b zs∧xs.length+zs.length≤sizeLine∧Q .non (upd H l (.lst (xs ++ zs)))
section
variable {X:Cx}
theorem mt_extT:MtM X "list.extend" (rExtT X.K):=by
 intro pins s σ H x vs v us Q I rx rv h
 obtain⟨l,b,xs,zs,rfl,rfl,hH,hB,hz,q⟩:=h
 cases rx
 obtain⟨u,rfl,ru⟩:=rv.one
 cases ru
 obtain⟨z,its,n,r,hl,e⟩:=I.lstM hH
 obtain⟨its2,r2,⟨⟨cc,dd,dt,ss⟩,e2,ec,n2,ed⟩,z2⟩:=I.tuple hB
 dsimp only at ec ed
 subst ec ed
 have hl2:=r2.length
 have hsz:its.toArray.size+its2.toArray.size≤sizeLine:=by rw[List.size_toArray,List.size_toArray];omega
 have hlong:¬ (!its.toArray.isEmpty && Builtin.List.listTooLong (its.toArray.size+its2.toArray.size))=true:=by
  rw[notLongL hsz,Bool.and_false]
  exact Bool.false_ne_true
 refine call_meets F.slot_list_extend ⟨_,e,rfl⟩ F.entry_list_extend (F.args_list_extend_2 _ _)
  (ext_lt l its.toArray n b its2.toArray n2 dd ss hlong (by rw[List.size_toArray];omega) (by omega)) ⟨e,e2,?_⟩
 refine⟨.non,_,I.lset (its':=its ++ its2) hH e (by simp) (r.append r2) ?_,rfl,q⟩
 rw[List.length_append]
 omega
variable {o e:Expr}{es:List Expr}{to:TE}{t:TA}{apos cpos:Pos}
theorem qe_extT (ho:PE X o to)(ha:PAs X (e :: es) t)(hbase:attributeBase o "extend" X.env (eval o X.env)=eval o X.env)(h1:notStar e=true)(h2:noStars es=true)
  (hfew:((backTo cpos (starEach (e :: es) X.env)).all (fun x=>!x.1) && (backToKw cpos (keywordEach [] X.env)).all (fun x=>x.1.isSome) && decide ((e :: es).length+([]:List Keyword).length+(if ([]:List Keyword).isEmpty then 0 else 1)<30))=true)
  (hline:(apos.endLine == cpos.line)=true):PE X (.Call (.Attribute o "extend" apos) (e :: es) [] cpos) (tBM X.K "list" (rExtT X.K) to t) :=
 pe_bm PySem.F.plainAttrs_list PySem.F.slot_list_extend PySem.F.type_list_extend mt_extT ho ha.run hbase hfew hline (star_ne h1) (stars_any h2)
end
theorem rd_extT {K:Frag}{l b:Addr}{xs zs:List V}{H:Hp}{Q:VK}(h1:H l=some (.lst xs))(h2:SqT K H b zs)(h3:xs.length+zs.length≤sizeLine)(h:Q .non (upd H l (.lst (xs ++ zs)))):rExtT K (.ref l) [.ref b] H Q:=⟨l,b,xs,zs,rfl,rfl,h1,h2,h3,h⟩
theorem pg_lstK {X:Cx}{K:PySem.W.Frag}{es:List Expr}{k:Nat}{pos:Pos}{t:TGs}{n:Nat}(hK:X.K=K)(hc:X.calm=true)(h:PGs X es t)
  (hn:(assignEach es X.env).length=n) (hst:(assignEach es X.env).findIdx? (·.1)=none):PG X (.Tuple es k pos) (gLst K n t):=hK ▸ pg_lst hc h hn hst
end L2
namespace Mt
open PySem L2
theorem okP_lt:∀ {l f:Int}{r:List (Int×Int)}{a b:Int},okP l f (r ++ [(a,b)])→l<a
 | _,_,[],_,_,h=>h.1
 | l,f,(x,y) :: r,a,b,h=>Int.lt_trans h.1 (okP_lt (r:=r) h.2.2.2.2)
theorem okP_mid:∀ {l f:Int}{r ex:List (Int×Int)}{a b:Int},okP l f (r ++ (a,b) :: ex)→okP a b ex
 | _,_,[],_,_,_,h=>h.2.2.2.2
 | _,_,(x,y) :: r,ex,a,b,h=>okP_mid (r:=r) h.2.2.2.2
theorem HOK.pre_last {hs1 ex hs3:List (Int×Int)}{ll lf l2 f2:Int}(h:HOK ((hs1 ++ [(ll,lf)]) ++ ex))(e:(hs1 ++ [(ll,lf)]) ++ ex=hs3 ++ [(l2,f2)])(hl:l2≤ll):ex = []:=by
 by_cases hx:ex = []
 ·exact hx
 ·obtain⟨ex1,⟨a,b⟩,rfl⟩:∃ex1 x,ex=ex1 ++ [x]:=⟨ex.dropLast,ex.getLast hx,(List.dropLast_concat_getLast hx).symm⟩
  have h1:=h.ok
  rw[List.append_assoc,List.singleton_append]at h1
  have h2:=okP_lt (okP_mid h1)
  rw[← List.append_assoc]at e
  have e2:=List.append_inj_right' e rfl
  simp only[List.cons.injEq,Prod.mk.injEq,and_true]at e2
  omega
theorem rows_more {α:Type}{es:List α}{pl tp e fl:Nat}(h1:pl≤e)(h2:fl≤e)(h3:e≤es.length):∃m,(((es.drop pl).take tp).drop (e - pl)).length=m∧e+m≤es.length∧(es.take e).drop fl ++ ((es.drop pl).take tp).drop (e - pl)=(es.take (e+m)).drop fl∧(m:Int)=(if (pl:Int)+((es.drop pl).take tp).length - e > 0 then (pl:Int)+((es.drop pl).take tp).length - e else 0):=by
 refine⟨_,rfl,?_,?_,?_⟩
 ·simp only[List.length_drop,List.length_take];omega
 ·have a:((es.drop pl).take tp).drop (e - pl)=(es.drop e).take (tp - (e - pl)):=by
   rw[List.drop_take,List.drop_drop,show pl+(e - pl)=e by omega]
  rw[a]
  generalize tp - (e - pl)=j
  have b:(es.drop e).take j=(es.drop e).take ((es.drop e).take j).length:=by
   rw[List.length_take]
   by_cases z:j≤(es.drop e).length
   ·rw[Nat.min_eq_left z]
   ·rw[Nat.min_eq_right (by omega),List.take_of_length_le (by omega),List.take_length]
  rw[List.take_add,← b,List.drop_append_of_le_length (by rw[List.length_take];omega)]
 ·simp only[List.length_drop,List.length_take]
  split <;> omega
end Mt
namespace L2
open PySem PySem.Spec PyProof.Rows PySem.W
theorem cutV_in {xs:List V}{i j:Int}(h0:0≤i)(h1:i≤xs.length)(h2:0≤j):cutV xs (some i) (some (i+j))=(xs.drop i.toNat).take j.toNat:=by
 unfold cutV
 obtain⟨n,rfl⟩:=Int.eq_ofNat_of_zero_le h0
 obtain⟨m,rfl⟩:=Int.eq_ofNat_of_zero_le h2
 have e1:HT.sIx xs.length 0 (some (n:Int))=min n xs.length:=HT.sIx_nat _ _ n
 have e2:HT.sIx xs.length xs.length (some ((n:Int)+(m:Int)))=min (n+m) xs.length:=by
  have:=HT.sIx_nat xs.length xs.length (n+m)
  rw[← this];rfl
 have hn:n≤xs.length:=by omega
 rw[e1,e2,Nat.min_eq_left hn,Int.toNat_natCast,Int.toNat_natCast]
 by_cases z:n+m≤xs.length
 ·rw[Nat.min_eq_left z,show n+m - n=m by omega]
 ·rw[Nat.min_eq_right (Nat.le_of_not_le z),List.take_of_length_le (by rw[List.length_drop];exact Nat.le_refl _),List.take_of_length_le (by rw[List.length_drop];omega)]
structure Jd (K:PySem.W.Frag) (H:Hp) (st:Addr) (N:List Addr) (hp:Addr) (hsP:List (Int×Int)) (kp:Addr) (hsK:List (Int×Int)) (us:List V) (es:List PyData) (hws:List V) (hds:List PyData):Prop where
 S:StOk K H st
 nc:∀c b,H st=some (.lst (.ref c :: b))→c∉N
 P:Dt K N H (.ref hp) (.tuple (hsP.map Mt.pr))
 Kn:Dt K N H (.ref kp) (.tuple (hsK.map Mt.pr))
 R:DtAll K N H us es
 D:DtAll K N H hws hds
section
variable {K:PySem.W.Frag}{H H':Hp}{st:Addr}{N M:List Addr}{hp kp:Addr}{hsP hsK:List (Int×Int)}{us hws:List V}{es hds:List PyData}
theorem Jd.ext (J:Jd K H st N hp hsP kp hsK us es hws hds)(x:Ext N H H')(T:StOkT K H H' st):Jd K H' st N hp hsP kp hsK us es hws hds :=
 ⟨T.toStOk,fun c b e=>by
  obtain⟨c',b',e',_⟩:=J.S.cell
  obtain⟨b2,e2⟩:=T.keep c' b' e'
  rw[e]at e2
  have z:c=c':=by injection e2 with e2;injection e2 with e2;injection e2 with e2 _;injection e2
  subst z
  exact J.nc c b' e',J.P.ext x,J.Kn.ext x,J.R.ext x,J.D.ext x⟩
theorem Jd.tell (J:Jd K H st N hp hsP kp hsK us es hws hds)(x:Ext M H H')(hm:∀b∈M,b∈N)(hs:st∉M):StOkT K H H' st:=StOkT.of J.S x (fun c b e z=>J.nc c b e (hm c z)) hs
theorem Jd.wr (J:Jd K H st N hp hsP kp hsK us es hws hds)(x:Ext M H H')(hm:∀b∈M,b∈N)(hs:st∉M):Jd K H' st N hp hsP kp hsK us es hws hds:=J.ext (x.mono hm) (J.tell x hm hs)
end
noncomputable def nn8 (st p0 ra0 p1 ra1 rl fla hl:Addr):List Addr:=[hl,fla,rl,p1,ra1,p0,ra0,st]
structure F22 (n:Nat) (hs1 ex:List (Int×Int)) (f0 f1:Int) (es:List PyData) (en:Nat) (ds0 ds1 hds:List PyData):Prop where
 gr:∀e∈es,Mt.rowD e=true∧Mt.Itm 1000 3 e
 d0:ds0=es.drop f0.toNat
 l0:0≤f0∧f0≤es.length
 d1:ds1=(es.take en).drop f1.toNat
 l1:0≤f1∧f1≤en
 le:en≤es.length
 ef:∀q∈ex,(en:Int)≤q.2
 l5:(hs1 ++ ex).length≤5
 ln:∀q∈hs1 ++ ex,q.1≤5 * (hs1 ++ ex).length∧q.2≤es.length
 n1:es.length≤n
 hd:∀d∈hds,∃x,d = .list [.tuple x,.tuple x]∧∀e∈x,Mt.rowD e=true∧Mt.Itm 1000 3 e
 hn:hds.length≤n
structure J22 (K:PySem.W.Frag) (C:Addr) (H:Hp) (st p0 ra0 p1 ra1 rl fla hl:Addr) (n:Nat) (hp kp:Addr) (hv0 hv1:V) (hs1 ex:List (Int×Int)) (f0 f1:Int) (ws0 ws1 us:List V) (ds0 ds1 es:List PyData) (en:Nat) (hws:List V) (hds:List PyData):Prop where
 d:Jd K H st (nn8 st p0 ra0 p1 ra1 rl fla hl) hp (hs1 ++ ex) kp hs1 us es hws hds
 A:LgAt K (nn8 st p0 ra0 p1 ra1 rl fla hl) C H p0 hv0 (hs1 ++ ex) f0 ra0 ws0 ds0
 B:LgAt K (nn8 st p0 ra0 p1 ra1 rl fla hl) C H p1 hv1 hs1 f1 ra1 ws1 ds1
 g:H rl=some (.lst us)
 fl:H fla=some (.lst [.int f0,.int f1])
 hh:H hl=some (.lst hws)
 nd:(nn8 st p0 ra0 p1 ra1 rl fla hl).Nodup
 F:F22 n hs1 ex f0 f1 es en ds0 ds1 hds
section
variable {K:PySem.W.Frag}{C:Addr}{H H':Hp}{st p0 ra0 p1 ra1 rl fla hl:Addr}{n:Nat}{hp kp:Addr}{hv0 hv1:V}{hs1 ex:List (Int×Int)}{f0 f1:Int}{ws0 ws1 us:List V}{ds0 ds1 es:List PyData}{en:Nat}{hws:List V}{hds:List PyData}{M:List Addr}
theorem J22.th (J:J22 K C H st p0 ra0 p1 ra1 rl fla hl n hp kp hv0 hv1 hs1 ex f0 f1 ws0 ws1 us ds0 ds1 es en hws hds):∀b∈nn8 st p0 ra0 p1 ra1 rl fla hl,H b≠none:=fun b hb e=>by
 obtain⟨xs,q⟩:=J.d.S.at
 obtain⟨d0,q0⟩:=J.A.ob
 obtain⟨d1,q1⟩:=J.B.ob
 simp only[nn8,List.mem_cons,List.not_mem_nil,or_false]at hb
 rcases hb with rfl |rfl |rfl |rfl |rfl |rfl |rfl |rfl
 ·rw[J.hh]at e;cases e
 ·rw[J.fl]at e;cases e
 ·rw[J.g]at e;cases e
 ·rw[q1]at e;cases e
 ·rw[J.B.r]at e;cases e
 ·rw[q0]at e;cases e
 ·rw[J.A.r]at e;cases e
 ·rw[q]at e;cases e
theorem J22.fr (J:J22 K C H st p0 ra0 p1 ra1 rl fla hl n hp kp hv0 hv1 hs1 ex f0 f1 ws0 ws1 us ds0 ds1 es en hws hds) {H':Hp}{q:Addr}(s:Same H H')(e:H' q=none):q∉nn8 st p0 ra0 p1 ra1 rl fla hl:=fun z=>J.th q z (s.free e)
theorem J22.told (J:J22 K C H st p0 ra0 p1 ra1 rl fla hl n hp kp hv0 hv1 hs1 ex f0 f1 ws0 ws1 us ds0 ds1 es en hws hds)(T:StOkT K H H' st)(x:Ext [st] H H'):J22 K C H' st p0 ra0 p1 ra1 rl fla hl n hp kp hv0 hv1 hs1 ex f0 f1 ws0 ws1 us ds0 ds1 es en hws hds:=by
 have m:∀b ∈ [st],b∈nn8 st p0 ra0 p1 ra1 rl fla hl:=fun b hb=>by rw[List.mem_singleton.mp hb];simp[nn8]
 have nd:=J.nd
 simp only[nn8,List.nodup_cons,List.mem_cons,List.not_mem_nil,or_false,not_or]at nd
 obtain⟨⟨_,_,_,_,_,_,a7⟩,⟨_,_,_,_,_,b6⟩,⟨_,_,_,_,c5⟩,⟨_,_,_,d4⟩,⟨_,_,e3⟩,⟨_,f2⟩,g1,_⟩:=nd
 exact⟨J.d.ext (x.mono m) T,J.A.ext x m (by simpa using f2) (by simpa using g1),J.B.ext x m (by simpa using d4) (by simpa using e3),x _ _ J.g (by simpa using c5),x _ _ J.fl (by simpa using b6),x _ _ J.hh (by simpa using a7),J.nd,J.F⟩
theorem J22.same (J:J22 K C H st p0 ra0 p1 ra1 rl fla hl n hp kp hv0 hv1 hs1 ex f0 f1 ws0 ws1 us ds0 ds1 es en hws hds)(s:Same H H'):J22 K C H' st p0 ra0 p1 ra1 rl fla hl n hp kp hv0 hv1 hs1 ex f0 f1 ws0 ws1 us ds0 ds1 es en hws hds:=J.told (J.d.S.tr0.same s) (Ext.same s)
end
noncomputable def tPar2 (i j:Nat)(ta:TA):TS:=fun D σ H=>ta σ H fun vs H1=>∃v w,vs = [v,w]∧D.nx ((σ.set i (some v)).set j (some w)) H1
theorem ps_par2 {X:Cx}{i j:Nat}{x y:Str}{a b:Expr}{ta:TA}{px py pt pos:Pos}{kt k2 pt2}(hc:X.calm=true)(hN:X.N.Nodup)(hi:X.N[i]? = some x)(hj:X.N[j]? = some y)(hij:i≠j)
  (hx:X.env.scope.names.lookup x=some .local) (hy:X.env.scope.names.lookup y=some .local) (ha:PAs X [a,b] ta)
  (hw:swappedStores [.Tuple [.Name x px,.Name y py] kt pt] (.Tuple [a,b] k2 pt2) X.env=pure (some [x,y]))
  (hs:swapsWithSole [.Tuple [.Name x px,.Name y py] kt pt] (.Tuple [a,b] k2 pt2) pos.line X.env=pure false) :
  PSw X (.Assign [.Tuple [.Name x px,.Name y py] kt pt] (.Tuple [a,b] k2 pt2) pos) (tPar2 i j ta):=by
 refine⟨?_⟩
 intro pins s σ H D I h
 rw[exec_Assign_arm]
 refine wpAny_bind (wpAny_standAt ?_)
 rw[hs]
 refine wpAny_bind (wpAny_pure ?_)
 rw[if_neg (by decide)]
 refine wpAny_bind (Tuple_ (thn (ha.run _ pins s σ H _ I h) fun us s1 ⟨vs,H1,I1,r1,q1⟩=>?_))
 obtain⟨v,w,e1,q1⟩:=q1
 subst e1
 obtain⟨u1,u2,rfl,rv,rw'⟩:∃u1 u2,us = [u1,u2]∧RelV v u1∧RelV w u2:=by
  cases r1 with
  | cons p q =>
   cases q with
   | cons p' q' =>
    cases q'
    exact⟨_,_,rfl,p,p'⟩
 refine wpAny_newObj_type ?_ (by show 2≤sizeLine;decide)
 have I2:Inv X pins σ H1 { s1 with heap:=s1.heap.push { cls:=.type "tuple",data:=.seq [u1,u2].toArray } }:=I1.kept (t':=s1.toks) fun b o e=>Heap.get?_push_of_some _ e
 rw[hw]
 refine wpAny_bind (wpAny_pure ?_)
 show wpAny (model X.prog X.w) X.A (do rule "assign.swapped-stores";let items ← unpackItems (.ref s1.heap.objs.size) 2 none;assignInOrder [fun v=>bindName X.env y v,fun v=>bindName X.env x v] items.reverse;pure Flow.next) _ _ _
 refine wpAny_bind (wpAny_rule (wpAny_bind (unpackItems_tuple (items:=#[u1,u2]) (I.ok.hd hc) (IsTup.new s1.heap _) fun h' hx'=>?_)))
 have I3:=I2.kept (h':=h') (t':=s1.toks) fun b o e=>hx' b o (Nat.ne_of_lt (Heap.lt_size e)) e
 show wpAny _ _ (assignInOrder [fun v=>bindName X.env y v,fun v=>bindName X.env x v] [u2,u1] >>= fun _=>pure Flow.next) _ _ _
 refine wpAny_bind (assignInOrder_cons (wpAny_bindName (store_ok I3 hN hj (.inl hy) rw' (fun s3 I5=>?_) (.inr hy))))
 refine assignInOrder_cons (wpAny_bindName (store_ok I5 hN hi (.inl hx) rv (fun s4 I6=>assignInOrder_nil (wpAny_pure ?_)) (.inr hx)))
 have e:(σ.set j (some w)).set i (some v)=(σ.set i (some v)).set j (some w):=by
  rw[List.set_comm _ _ (Ne.symm hij)]
 rw[e]at I6
 exact⟨_,H1,I6,q1⟩
theorem rd_par2 {i j:Nat}{ta:TA}{D:Ends}{σ:St}{H:Hp}(h:ta σ H fun vs H1=>∃v w,vs = [v,w]∧D.nx ((σ.set i (some v)).set j (some w)) H1):tPar2 i j ta D σ H:=h
end L2
namespace Mt
open PySem L2
theorem step_none {pl:Int}:∀ {ex:List (Int×Int)}{c:Int},(∀q∈ex,pl≤q.2)→ex.foldl (stepL pl) c=c
 | [],_,_=>rfl
 | q :: ex,c,h=>by
  rw[List.foldl_cons,show stepL pl c q=c from if_neg (by have:=h q (by simp);omega)]
  exact step_none fun x hx=>h x (by simp[hx])
theorem lineOf_app {hs ex:List (Int×Int)}{pl:Int}(h:hs ≠ [])(he:∀q∈ex,pl≤q.2):lineOf (hs ++ ex) pl=lineOf hs pl:=by
 cases hs with
 | nil=>exact absurd rfl h
 | cons q r =>
  unfold lineOf
  rw[List.foldl_append]
  exact step_none he
end Mt
namespace L2
open PySem PySem.Spec PyProof.Rows PySem.W
theorem dt_lstN {K:PySem.W.Frag}{N:List Addr}{H:Hp}{x:V}{es:List PyData}(h:Dt K N H x (.list es)):∃b ys,x = .ref b∧b∉N∧SqL K H b ys∧DtAll K N H ys es:=by
 cases h with
 | lst h n r=>exact⟨_,_,rfl,n,h,r⟩
theorem dt_two {K:PySem.W.Frag}{N:List Addr}{H:Hp}{ys:List V}{d e:PyData}(h:DtAll K N H ys [d,e]):∃y1 y2,ys = [y1,y2]∧Dt K N H y1 d∧Dt K N H y2 e:=by
 cases h with
 | cons a r=>cases r with
  | cons b r2=>cases r2;exact⟨_,_,rfl,a,b⟩
section
variable {n:Nat}{hs1 ex:List (Int×Int)}{f0 f1:Int}{es:List PyData}{en:Nat}{ds0 ds1 hds:List PyData}
theorem F22.n0 (F:F22 n hs1 ex f0 f1 es en ds0 ds1 hds):f0+(ds0.length:Int)=es.length:=by
 have:=F.l0
 rw[F.d0,List.length_drop];omega
theorem F22.e1 (F:F22 n hs1 ex f0 f1 es en ds0 ds1 hds):f1+(ds1.length:Int)=en:=by
 have:=F.l1
 have:=F.le
 rw[F.d1,List.length_drop,List.length_take];omega
theorem F22.push {d:PyData}(F:F22 n hs1 ex f0 f1 es en ds0 ds1 hds)(hd:Mt.rowD d=true∧Mt.Itm 1000 3 d):F22 (n+1) hs1 ex f0 f1 (es ++ [d]) en (ds0 ++ [d]) ds1 hds:=by
 have a:=F.l0
 have b:=F.le
 have c:=F.n1
 refine⟨fun e he=>?_,?_,⟨a.1,by rw[List.length_append];omega⟩,?_,F.l1,by rw[List.length_append];omega,F.ef,F.l5,fun q hq=>?_,by rw[List.length_append,List.length_singleton];omega,F.hd,by have:=F.hn;omega⟩
 ·rcases List.mem_append.mp he with he |he
  ·exact F.gr e he
  ·rw[List.mem_singleton.mp he];exact hd
 ·rw[F.d0,List.drop_append_of_le_length (by omega)]
 ·rw[F.d1,List.take_append_of_le_length b]
 ·have:=F.ln q hq
  exact⟨this.1,by rw[List.length_append];omega⟩
theorem F22.fork {line:Int}(F:F22 n hs1 ex f0 f1 es en ds0 ds1 hds)(h1:line≤5 * (hs1 ++ ex).length+5)(h5:(hs1 ++ ex).length<5):F22 (n+1) hs1 (ex ++ [(line,f0+(ds0.length:Int))]) f0 f1 es en ds0 ds1 hds:=by
 have e:=F.n0
 have b:=F.le
 have hl:(hs1 ++ (ex ++ [(line,f0+(ds0.length:Int))])).length=(hs1 ++ ex).length+1:=by rw[← List.append_assoc];exact List.length_append
 have hm:∀q∈hs1 ++ (ex ++ [(line,f0+(ds0.length:Int))]),q∈hs1 ++ ex∨q=(line,f0+(ds0.length:Int)):=fun q hq=>by
  rw[← List.append_assoc]at hq
  rcases List.mem_append.mp hq with h |h
  ·exact .inl h
  ·exact .inr (List.mem_singleton.mp h)
 refine⟨F.gr,F.d0,F.l0,F.d1,F.l1,F.le,fun q hq=>?_,by omega,fun q hq=>?_,by have:=F.n1;omega,F.hd,by have:=F.hn;omega⟩
 ·rcases List.mem_append.mp hq with h |h
  ·exact F.ef q h
  ·rw[List.mem_singleton.mp h];dsimp only;omega
 ·rw[hl]
  rcases hm q hq with h |rfl
  ·have:=F.ln q h;omega
  ·dsimp only;omega
theorem F22.trim0 {g:Int}(F:F22 n hs1 ex f0 f1 es en ds0 ds1 hds)(h1:f0≤g)(h2:g≤es.length):F22 (n+1) hs1 ex g f1 es en (ds0.drop (g - f0).toNat) ds1 hds:=by
 have a:=F.l0
 exact⟨F.gr,by rw[F.d0,List.drop_drop,show f0.toNat+(g - f0).toNat=g.toNat by omega],⟨by omega,h2⟩,F.d1,F.l1,F.le,F.ef,F.l5,F.ln,by have:=F.n1;omega,F.hd,by have:=F.hn;omega⟩
theorem F22.trim1 {g:Int}(F:F22 n hs1 ex f0 f1 es en ds0 ds1 hds)(h1:f1≤g)(h2:g≤en):F22 (n+1) hs1 ex f0 g es en ds0 (ds1.drop (g - f1).toNat) hds:=by
 have a:=F.l1
 exact⟨F.gr,F.d0,F.l0,by rw[F.d1,List.drop_drop,show f1.toNat+(g - f1).toNat=g.toNat by omega],⟨by omega,h2⟩,F.le,F.ef,F.l5,F.ln,by have:=F.n1;omega,F.hd,by have:=F.hn;omega⟩
theorem F22.held {ds:List PyData}(F:F22 n hs1 ex f0 f1 es en ds0 ds1 hds)(e:ds=(es.take en).drop f1.toNat):F22 (n+1) hs1 ex f0 f1 es en ds0 ds (hds ++ [.list [.tuple ds,.tuple ds]]) :=
 ⟨F.gr,F.d0,F.l0,e,F.l1,F.le,F.ef,F.l5,F.ln,by have:=F.n1;omega,fun d hd=>by
  rcases List.mem_append.mp hd with h |h
  ·exact F.hd d h
  ·exact⟨ds,List.mem_singleton.mp h,fun x hx=>F.gr x (List.mem_of_mem_take (List.mem_of_mem_drop (e ▸ hx)))⟩,by rw[List.length_append,List.length_singleton];have:=F.hn;omega⟩
theorem F22.added {m:Nat}{ds:List PyData}(F:F22 n hs1 ex f0 f1 es en ds0 ds1 hds)(h:en+m≤es.length)(e:ds=(es.take (en+m)).drop f1.toNat):F22 n (hs1 ++ ex) [] f0 f1 es (en+m) ds0 ds hds :=
 ⟨F.gr,F.d0,F.l0,e,⟨F.l1.1,by have:=F.l1;omega⟩,h,by simp,by simpa using F.l5,fun q hq=>by simpa using F.ln q (by simpa using hq),F.n1,F.hd,F.hn⟩
end
noncomputable def fdt (K:Frag)(f:Addr):FuncData:=match K.lookup f with
 | some ⟨_,_,.func fd,_⟩=>fd
 | _=>default
noncomputable def obt (K:Frag)(f:Addr):PySem.Obj:=(K.lookup f).getD ⟨.none,none,.plain,#[]⟩
noncomputable def adr:Value→Addr
 | .ref a=>a
 | _=>0
section
variable {K:Frag}{h:Heap}{mg:Str→Option Value}{n:Str}{v:Value}
theorem hgv (X:K.In h)(G:h.Ns mainGlobals mg)(e:nsIn K mainGlobals n=some (some v):=by kernel_rfl):mg n=some v:=mg_of X G e
theorem hgn (X:K.In h)(G:h.Ns mainGlobals mg)(e:nsIn K mainGlobals n=some none:=by kernel_rfl):mg n=none:=mg_none_of X G e
theorem hkr {α:Type}{a b:α}(e:a=b:=by kernel_rfl):a=b:=e
theorem hxg {C:Addr}(e:xgIn K C=true:=by kernel_rfl):XG K C:=xg_of e
theorem hfk {x q:Str}{st:Stmt}{f:Addr}(h1:fdt K f=PySem.W.fnOf x q (defArgs st) (defBody st) (defScope st) .none (fdt K f).kwdefaults (fdt K f).doc (fdt K f).pyModule (fdt K f).annotations (fdt K f).code (fdt K f).closureTuple:=by kernel_rfl)
  (h2:K.lookup f=some ⟨(obt K f).cls,(obt K f).dict,.func (fdt K f),(obt K f).slots⟩:=by kernel_rfl) (h3:codeIn K (fdt K f).code q=true:=by kernel_rfl) (h4:keepIn K (.ref f)=true:=by kernel_rfl):Fun K x q st f (fdt K f) :=
 ⟨⟨_,_,_,_,_,_,_,_,_,h1,h2,h3⟩,h4⟩
variable {fd:FuncData}{p0 p1 p2 p3 p4 p5 p6 p7:Str}
theorem hb0 (h:bindArgs fd ⟨[],[]⟩ = pure []:=by kernel_rfl):Binds K fd [] []:=.all fun us hl=>match us,hl with | [],_=>h
theorem hb1 (h:∀u:Value,bindArgs fd ⟨[u],[]⟩ = pure [(p0,u)]:=by intro _;kernel_rfl):Binds K fd [p0] []:=.all fun us hl=>match us,hl with | [_],_=>h _
theorem hbl (h:∀u:Value,bindArgs fd ⟨[u],[]⟩ = pure [(p0,u)]:=by intro _;kernel_rfl):∀(s:Shared)(u:Value),BindsTo s fd ⟨[u],[]⟩ [(p0,u)]:=fun s u=>.of_eq (h u)
theorem hb2 (h:∀u u1:Value,bindArgs fd ⟨[u,u1],[]⟩ = pure [(p0,u),(p1,u1)]:=by intro _ _;kernel_rfl):Binds K fd [p0,p1] []:=.all fun us hl=>match us,hl with | [_,_],_=>h _ _
theorem hb3 (h:∀u u1 u2:Value,bindArgs fd ⟨[u,u1,u2],[]⟩ = pure [(p0,u),(p1,u1),(p2,u2)]:=by intro _ _ _;kernel_rfl):Binds K fd [p0,p1,p2] []:=.all fun us hl=>match us,hl with | [_,_,_],_=>h _ _ _
theorem hb4 (h:∀u u1 u2 u3:Value,bindArgs fd ⟨[u,u1,u2,u3],[]⟩ = pure [(p0,u),(p1,u1),(p2,u2),(p3,u3)]:=by intro _ _ _ _;kernel_rfl):Binds K fd [p0,p1,p2,p3] []:=.all fun us hl=>match us,hl with | [_,_,_,_],_=>h _ _ _ _
theorem hb6 (h:∀u u1 u2 u3 u4 u5:Value,bindArgs fd ⟨[u,u1,u2,u3,u4,u5],[]⟩ = pure [(p0,u),(p1,u1),(p2,u2),(p3,u3),(p4,u4),(p5,u5)]:=by intro _ _ _ _ _ _;kernel_rfl):Binds K fd [p0,p1,p2,p3,p4,p5] []:=.all fun us hl=>match us,hl with | [_,_,_,_,_,_],_=>h _ _ _ _ _ _
theorem hsq {H:Hp}{a:Addr}{xs:List V}(its:List Value)(r:Vals xs its)(h1:K.lookup a=some ⟨.type "tuple",none,.seq its.toArray 0,#[]⟩:=by kernel_rfl)(h2:its.length≤1000:=by decide):SqT K H a xs :=
 .inr ⟨_,_,_,h1,rfl,rfl,by rw[List.size_toArray];exact Nat.le_trans h2 (by decide),r⟩
noncomputable def cct (K:Frag)(fI:Addr):Addr:=match (fdt K fI).closure with
 | (_,c) :: _=>c
 | _=>0
noncomputable def cdt (K:Frag)(fI:Addr):PySem.Obj:=obt K (adr (fdt K fI).code)
noncomputable def cfs (K:Frag)(fI:Addr):Array Value:=match (cdt K fI).data with
 | .fields vs=>vs
 | _=>#[]
noncomputable def cfi (K:Frag)(fI:Addr):Str×Tok:=match (cfs K fI)[2]? with
 | some (Value.str f t)=>(f,t)
 | _=>("",0)
variable {prog:Program}{C LE fI:Addr}{fld par:Str}{st:Stmt}
theorem hxk (T:IBody st fld par)(q:Str)(x1:xk1In K C LE fld=true:=by kernel_rfl)(xc:xcIn K C (some (.ref fI))=true:=by kernel_rfl)(kp:keepIn K (.ref C)=true:=by kernel_rfl)(su:nsIn K mainGlobals "super" = some none:=by kernel_rfl)(top:(prog.main.scope.names.lookup ("super":Str)).isSome=false:=by kernel_rfl)
  (lk:K.lookup fI=some ⟨.type "function",(obt K fI).dict,.func (ksFn "__init__" q (defArgs st) (defBody st) (defScope st) .none (fdt K fI).kwdefaults (fdt K fI).doc (fdt K fI).pyModule (fdt K fI).annotations (.ref (adr (fdt K fI).code)) (fdt K fI).closureTuple (cct K fI)),(obt K fI).slots⟩:=by kernel_rfl)
  (cd:codeIn K (.ref (adr (fdt K fI).code)) q=true:=by kernel_rfl) (hc:K.lookup (adr (fdt K fI).code)=some ⟨(cdt K fI).cls,(cdt K fI).dict,.fields (cfs K fI),(cdt K fI).slots⟩:=by kernel_rfl) (hv:(cfs K fI)[2]? = some (.str (cfi K fI).1 (cfi K fI).2):=by kernel_rfl)
  (hf:((prog.main.file:Str) == (cfi K fI).1)=true:=by kernel_rfl) (hl:K.lookup (cct K fI)=some ⟨(obt K (cct K fI)).cls,(obt K (cct K fI)).dict,.cell (some (.ref C)),(obt K (cct K fI)).slots⟩:=by kernel_rfl):XIni prog K C LE fI fld :=
 xini_mk T x1 xc kp su top lk cd hc hv hf hl
theorem hxk0 (T:IBody0 st)(q:Str)(x1:xk1In K C LE fld=true:=by kernel_rfl)(xc:xcIn K C (some (.ref fI))=true:=by kernel_rfl)(kp:keepIn K (.ref C)=true:=by kernel_rfl)(su:nsIn K mainGlobals "super" = some none:=by kernel_rfl)(top:(prog.main.scope.names.lookup ("super":Str)).isSome=false:=by kernel_rfl)
  (lk:K.lookup fI=some ⟨.type "function",(obt K fI).dict,.func (ksFn "__init__" q (defArgs st) (defBody st) (defScope st) .none (fdt K fI).kwdefaults (fdt K fI).doc (fdt K fI).pyModule (fdt K fI).annotations (.ref (adr (fdt K fI).code)) (fdt K fI).closureTuple (cct K fI)),(obt K fI).slots⟩:=by kernel_rfl)
  (cd:codeIn K (.ref (adr (fdt K fI).code)) q=true:=by kernel_rfl) (hc:K.lookup (adr (fdt K fI).code)=some ⟨(cdt K fI).cls,(cdt K fI).dict,.fields (cfs K fI),(cdt K fI).slots⟩:=by kernel_rfl) (hv:(cfs K fI)[2]? = some (.str (cfi K fI).1 (cfi K fI).2):=by kernel_rfl)
  (hf:((prog.main.file:Str) == (cfi K fI).1)=true:=by kernel_rfl) (hl:K.lookup (cct K fI)=some ⟨(obt K (cct K fI)).cls,(obt K (cct K fI)).dict,.cell (some (.ref C)),(obt K (cct K fI)).slots⟩:=by kernel_rfl):XIni0 prog K C LE fI fld :=
 xini0_mk T x1 xc kp su top lk cd hc hv hf hl
end
end L2
set_option maxHeartbeats 0
local macro_rules | `(tactic| walk_at "vis")=>`(tactic| first | exact Or.inl rfl | exact Or.inr (Or.inl rfl) | exact Or.inr (Or.inr rfl))
local macro_rules | `(tactic| walk_at "cond")=>`(tactic| first | assumption | decide | omega | (simp only [L2.CDiv,L2.CDivB,L2.CMul,L2.CPow]; first | decide | omega))
local macro_rules | `(tactic| walk_at "sq")=>`(tactic| first | assumption | exact L2.SqL.of (by assumption) | exact L2.SqT.of (by assumption) | exact L2.SqL.of L2.upd_same | exact L2.SqT.of L2.upd_same)
local macro_rules | `(tactic| walk_at "lk")=>`(tactic| first | assumption | exact L2.upd_same)
local macro_rules | `(tactic| walk_at "ty")=>`(tactic| first | assumption | exact L2.TyS.non | exact L2.TyS.bl _ | exact L2.TyS.int _ | exact L2.TyS.str _ | exact L2.TyS.tup (by assumption) | exact L2.TyS.lst (by assumption))
local macro_rules | `(tactic| walk_at "b1")=>`(tactic| first | (with_reducible first | refine L2.rd_if ?_ | refine L2.rd_asg ?_ | refine L2.rd_drop ?_ | refine L2.rd_ret ?_ | refine L2.rd_next ?_ | refine L2.rd_op ?_ | refine L2.rd_un ?_) | ((with_reducible apply L2.rd_var); (case e=>exact rfl)) | (with_reducible first | refine L2.rd_c ?_ | refine L2.rd_I0 ?_) | ((with_reducible apply L2.rd_I); (case hc=>walk_at "cond")) | (with_reducible first | refine L2.rd_U ?_ | refine L2.rd_test ?_ | refine L2.rd_tB ?_ | refine L2.rd_bl' ?_) | ((with_reducible apply L2.rd_eq); (case hs=>exact rfl)) | ((with_reducible apply L2.rd_ne); (case hs=>exact rfl)) | ((with_reducible apply L2.rd_ixL); (case hq=>walk_at "sq"); (case ha=>exact rfl)) | ((with_reducible apply L2.rd_ixT); (case hq=>walk_at "sq"); (case ha=>exact rfl)) | (with_reducible first | refine L2.rd_name ?_ | refine L2.rd_sub ?_) | ((with_reducible apply L2.rd_setL); (case hp=>walk_at "lk"); (case hi=>exact rfl)) | (with_reducible first | refine L2.rd_CB ?_ | refine L2.rd_nil ?_ | refine L2.rd_cons ?_ | refine L2.rd_and ?_ | refine L2.rd_or ?_ | refine L2.rd_not ?_ | refine L2.rd_andV ?_ | refine L2.rd_orV ?_ | refine L2.rd_notV ?_ | refine L2.rd_ifE ?_ | refine L2.rd_call ?_ | refine L2.rd_callX ?_ | refine L2.rd_raise0 ?_ | refine L2.rd_raise1 ?_ | refine L2.rd_try ?_ | refine L2.rd_xat ?_ | refine L2.rd_unx ?_ | refine L2.rd_star ?_ | refine L2.rd_par2 ?_ | refine L2.rd_lstK ?_ | refine L2.rd_rng2 ?_ | refine L2.rd_izipL ?_ | refine L2.rd_izipM ?_) | ((with_reducible apply L2.rd_glst); (case hq=>walk_at "sq"); (case hl=>exact rfl)) | (with_reducible first | refine L2.rd_fld ?_ | refine L2.rd_sfld ?_ | refine L2.rd_meth ?_ | refine L2.rd_makeKX ?_) | (with_reducible first | refine L2.rd_delsl ?_ | refine L2.rd_methX ?_) | (with_reducible first | refine L2.rd_tupA ?_ | refine L2.rd_lstA ?_ | refine L2.rd_chain ?_ | refine L2.rd_sl ?_ | refine L2.rd_nopart ?_ | refine L2.rd_part ?_ | refine L2.rd_int ?_) | ((with_reducible apply L2.rd_slL); (case hq=>walk_at "sq")) | ((with_reducible apply L2.rd_slG); (case hq=>walk_at "sq")) | (with_reducible first | refine L2.rd_gnil ?_ | refine L2.rd_gcons ?_) | ((with_reducible apply L2.rd_tupT); (case hq=>walk_at "sq"); (case hl=>exact rfl)) | (with_reducible first | refine L2.rd_BM ?_ | refine L2.rd_for ?_ | refine L2.rd_rng1 ?_ | refine L2.rd_rngV ?_ | refine L2.rd_ilist ?_ | refine L2.rd_itup ?_ | refine L2.rd_comp ?_ | refine L2.rd_izip ?_) | ((with_reducible apply L2.rd_slA); (case hq=>walk_at "sq")) | ((with_reducible apply L2.rd_tupleAL); (case hq=>walk_at "sq")) | ((with_reducible apply L2.rd_lenL); (case hq=>walk_at "sq")) | ((with_reducible apply L2.rd_lenT); (case hq=>walk_at "sq")) | ((with_reducible apply L2.rd_listL); (case hq=>walk_at "sq")) | ((with_reducible apply L2.rd_tupleL); (case hq=>walk_at "sq")) | ((with_reducible apply L2.rd_isiTup); (case hd=>assumption)) | ((with_reducible apply L2.rd_isiInt); (case hd=>assumption)) | ((with_reducible apply L2.rd_isiBool); (case hd=>assumption)) | ((with_reducible apply L2.rd_isiStr); (case hd=>assumption)) | ((with_reducible apply L2.rd_isiList); (case hd=>assumption)) | (with_reducible first | refine L2.rd_min ?_ | refine L2.rd_max ?_))
local macro_rules | `(tactic| walk_at "b2")=>`(tactic| first | (with_reducible first | refine L2.rd_isN ?_ | refine L2.rd_notN ?_) | (with_reducible first | refine L2.rd_istr ?_ | refine L2.rd_leS ?_) | ((with_reducible apply L2.rd_lenS); (case hl=>first | assumption | decide)) | dsimp only)
local macro_rules | `(tactic| walk_at "rs")=>`(tactic| repeat (first | walk_at "b1" | refine L2.rd_iteT ?_ | refine L2.rd_iteF ?_ | walk_at "b2"))
local macro_rules | `(tactic| walk_at "rd")=>`(tactic| repeat (first | with_reducible refine L2.rd_seq ?_ | walk_at "b1" | refine L2.rd_iteT ?_ | refine L2.rd_iteF ?_ | walk_at "b2"))
local macro_rules | `(tactic| walk_at "rq")=>`(tactic| repeat (first | with_reducible refine L2.rd_seq ?_ | walk_at "b1" | ((with_reducible refine L2.rd_iteG ?_); first | refine L2.rd_iteT ?_ | refine L2.rd_iteF ?_) | walk_at "b2"))
namespace My
open PySem L2
noncomputable abbrev s_is_number:Stmt:=top 14
noncomputable abbrev s_is_within:Stmt:=top 15
noncomputable abbrev s_is_count:Stmt:=top 16
noncomputable abbrev s_is_place:Stmt:=top 17
noncomputable abbrev s_is_line:Stmt:=top 22
noncomputable abbrev s_is_line_and_place:Stmt:=top 23
noncomputable abbrev s_is_history:Stmt:=top 24
noncomputable abbrev s_require_history:Stmt:=top 25
noncomputable abbrev s_require_place:Stmt:=top 26
noncomputable abbrev s_extended:Stmt:=top 27
noncomputable abbrev s_is_key:Stmt:=top 31
noncomputable abbrev s_is_value:Stmt:=top 32
noncomputable abbrev s_is_word:Stmt:=top 33
noncomputable abbrev s_is_set:Stmt:=top 34
noncomputable abbrev s_is_cut:Stmt:=top 35
noncomputable abbrev s_is_row:Stmt:=top 36
noncomputable abbrev s_Log_init:Stmt:=inClass (top 38) 0
noncomputable abbrev s_Log_end:Stmt:=inClass (top 38) 1
noncomputable abbrev s_Log_floor:Stmt:=inClass (top 38) 2
noncomputable abbrev s_Log_line:Stmt:=inClass (top 38) 3
noncomputable abbrev s_Log_history:Stmt:=inClass (top 38) 4
noncomputable abbrev s_Log_require_kept_from:Stmt:=inClass (top 38) 5
noncomputable abbrev s_Log_put:Stmt:=inClass (top 38) 7
noncomputable abbrev s_Log_rows:Stmt:=inClass (top 38) 8
noncomputable abbrev s_Log_add_rows:Stmt:=inClass (top 38) 9
noncomputable abbrev s_Log_fork:Stmt:=inClass (top 38) 12
noncomputable abbrev s_Log_trim:Stmt:=inClass (top 38) 14
noncomputable abbrev s_Log___len:Stmt:=inClass (top 38) 15
noncomputable abbrev s_law_state:Stmt:=top 40
noncomputable abbrev s_law_next:Stmt:=top 41
noncomputable abbrev s_law_alike:Stmt:=top 42
noncomputable abbrev s_law_row:Stmt:=top 43
noncomputable abbrev s_law_names:Stmt:=top 44
noncomputable abbrev s_law_at:Stmt:=top 45
noncomputable abbrev s_law_so:Stmt:=top 46
noncomputable abbrev s_law_gap_so:Stmt:=top 47
noncomputable abbrev s_law_handed:Stmt:=top 48
noncomputable abbrev s_law:Stmt:=top 49
theorem sc_is_number:FnScope ["thing"] ["thing"] (defScope s_is_number):=⟨rfl,rfl,rfl,by decide +kernel,rfl,by decide +kernel,by decide +kernel⟩
theorem sc_is_within:FnScope ["thing","least","most"] ["thing","least","most"] (defScope s_is_within):=⟨rfl,rfl,rfl,by decide +kernel,rfl,by decide +kernel,by decide +kernel⟩
theorem sc_is_count:FnScope ["thing"] ["thing"] (defScope s_is_count):=⟨rfl,rfl,rfl,by decide +kernel,rfl,by decide +kernel,by decide +kernel⟩
theorem sc_is_place:FnScope ["thing"] ["thing"] (defScope s_is_place):=⟨rfl,rfl,rfl,by decide +kernel,rfl,by decide +kernel,by decide +kernel⟩
theorem sc_is_line:FnScope ["thing"] ["thing"] (defScope s_is_line):=⟨rfl,rfl,rfl,by decide +kernel,rfl,by decide +kernel,by decide +kernel⟩
theorem sc_is_line_and_place:FnScope ["thing"] ["thing"] (defScope s_is_line_and_place):=⟨rfl,rfl,rfl,by decide +kernel,rfl,by decide +kernel,by decide +kernel⟩
theorem sc_is_history:FnScope ["thing"] ["thing"] (defScope s_is_history):=⟨rfl,rfl,rfl,by decide +kernel,rfl,by decide +kernel,by decide +kernel⟩
theorem sc_require_history:FnScope ["thing"] ["thing"] (defScope s_require_history):=⟨rfl,rfl,rfl,by decide +kernel,rfl,by decide +kernel,by decide +kernel⟩
theorem sc_require_place:FnScope ["thing"] ["thing"] (defScope s_require_place):=⟨rfl,rfl,rfl,by decide +kernel,rfl,by decide +kernel,by decide +kernel⟩
theorem sc_extended:FnScope ["history","line","fork","last_line","last_fork"] ["history","line","fork"] (defScope s_extended):=⟨rfl,rfl,rfl,by decide +kernel,rfl,by decide +kernel,by decide +kernel⟩
theorem sc_is_key:FnScope ["thing"] ["thing"] (defScope s_is_key):=⟨rfl,rfl,rfl,by decide +kernel,rfl,by decide +kernel,by decide +kernel⟩
theorem sc_is_value:FnScope ["thing"] ["thing"] (defScope s_is_value):=⟨rfl,rfl,rfl,by decide +kernel,rfl,by decide +kernel,by decide +kernel⟩
theorem sc_is_word:FnScope ["thing","word"] ["thing","word"] (defScope s_is_word):=⟨rfl,rfl,rfl,by decide +kernel,rfl,by decide +kernel,by decide +kernel⟩
theorem sc_is_set:FnScope ["thing"] ["thing"] (defScope s_is_set):=⟨rfl,rfl,rfl,by decide +kernel,rfl,by decide +kernel,by decide +kernel⟩
theorem sc_is_cut:FnScope ["thing"] ["thing"] (defScope s_is_cut):=⟨rfl,rfl,rfl,by decide +kernel,rfl,by decide +kernel,by decide +kernel⟩
theorem sc_is_row:FnScope ["thing"] ["thing"] (defScope s_is_row):=⟨rfl,rfl,rfl,by decide +kernel,rfl,by decide +kernel,by decide +kernel⟩
theorem sc_Log_init:FnScope ["self","history","floor"] ["self","history","floor"] (defScope s_Log_init):=⟨rfl,rfl,rfl,by decide +kernel,rfl,by decide +kernel,by decide +kernel⟩
theorem sc_Log_end:FnScope ["self"] ["self"] (defScope s_Log_end):=⟨rfl,rfl,rfl,by decide +kernel,rfl,by decide +kernel,by decide +kernel⟩
theorem sc_Log_floor:FnScope ["self"] ["self"] (defScope s_Log_floor):=⟨rfl,rfl,rfl,by decide +kernel,rfl,by decide +kernel,by decide +kernel⟩
theorem sc_Log_line:FnScope ["self"] ["self"] (defScope s_Log_line):=⟨rfl,rfl,rfl,by decide +kernel,rfl,by decide +kernel,by decide +kernel⟩
theorem sc_Log_history:FnScope ["self"] ["self"] (defScope s_Log_history):=⟨rfl,rfl,rfl,by decide +kernel,rfl,by decide +kernel,by decide +kernel⟩
theorem sc_Log_require_kept_from:FnScope ["self","place"] ["self","place"] (defScope s_Log_require_kept_from):=⟨rfl,rfl,rfl,by decide +kernel,rfl,by decide +kernel,by decide +kernel⟩
theorem sc_Log_put:FnScope ["self","row"] ["self","row"] (defScope s_Log_put):=⟨rfl,rfl,rfl,by decide +kernel,rfl,by decide +kernel,by decide +kernel⟩
theorem sc_Log_rows:FnScope ["self","place","many","behind"] ["self","place","many"] (defScope s_Log_rows):=⟨rfl,rfl,rfl,by decide +kernel,rfl,by decide +kernel,by decide +kernel⟩
theorem sc_Log_add_rows:FnScope ["self","history","place","rows","end"] ["self","history","place","rows"] (defScope s_Log_add_rows):=⟨rfl,rfl,rfl,by decide +kernel,rfl,by decide +kernel,by decide +kernel⟩
theorem sc_Log_fork:FnScope ["self","line","end","own"] ["self","line"] (defScope s_Log_fork):=⟨rfl,rfl,rfl,by decide +kernel,rfl,by decide +kernel,by decide +kernel⟩
theorem sc_Log_trim:FnScope ["self","place"] ["self","place"] (defScope s_Log_trim):=⟨rfl,rfl,rfl,by decide +kernel,rfl,by decide +kernel,by decide +kernel⟩
theorem sc_Log___len:FnScope ["self"] ["self"] (defScope s_Log___len):=⟨rfl,rfl,rfl,by decide +kernel,rfl,by decide +kernel,by decide +kernel⟩
theorem sc_law_state:FnScope ["_law_script","_law_cells"] ["_law_script"] (defScope s_law_state):=⟨rfl,rfl,rfl,by decide +kernel,rfl,by decide +kernel,by decide +kernel⟩
theorem sc_law_next:FnScope ["_law_state_here","_law_below","_law_found","_law_cells","_law_cell"] ["_law_state_here","_law_below"] (defScope s_law_next):=⟨rfl,rfl,rfl,by decide +kernel,rfl,by decide +kernel,by decide +kernel⟩
theorem sc_law_alike:FnScope ["_law_found","_law_due","_law_one","_law_other"] ["_law_found","_law_due"] (defScope s_law_alike):=⟨rfl,rfl,rfl,by decide +kernel,rfl,by decide +kernel,by decide +kernel⟩
theorem sc_law_row:FnScope ["_law_state_here","_law_key","_law_way","_law_far","_law_k"] ["_law_state_here"] (defScope s_law_row):=⟨rfl,rfl,rfl,by decide +kernel,rfl,by decide +kernel,by decide +kernel⟩
theorem sc_law_names:FnScope ["_law_error","_law_said","_law_names_here"] ["_law_error"] (defScope s_law_names):=⟨rfl,rfl,rfl,by decide +kernel,rfl,by decide +kernel,by decide +kernel⟩
theorem sc_law_at:FnScope ["_law_past","_law_place","_law_found","_law_line","_law_fork"] ["_law_past","_law_place"] (defScope s_law_at):=⟨rfl,rfl,rfl,by decide +kernel,rfl,by decide +kernel,by decide +kernel⟩
theorem sc_law_so:FnScope ["_law_log","_law_past","_law_low","_law_rows"] ["_law_log","_law_past","_law_low","_law_rows"] (defScope s_law_so):=⟨rfl,rfl,rfl,by decide +kernel,rfl,by decide +kernel,by decide +kernel⟩
theorem sc_law_gap_so:FnScope ["_law_log","_law_past","_law_place","_law_rows","_law_caught","_law_error"] ["_law_log","_law_past","_law_place","_law_rows"] (defScope s_law_gap_so):=⟨rfl,rfl,rfl,by decide +kernel,rfl,by decide +kernel,by decide +kernel⟩
theorem sc_law_handed:FnScope ["_law_state_here","_law_first","_law_second","_law_parts","_law_past","_law_rows","_law_low","_law_end","_law_place","_law_top","_law_handed_here","_law_due","_law_found"] ["_law_state_here","_law_first","_law_second","_law_parts"] (defScope s_law_handed):=⟨rfl,rfl,rfl,by decide +kernel,rfl,by decide +kernel,by decide +kernel⟩
theorem sc_law:FnScope ["_law_script","_law_state_here","_law_first","_law_second","_law_past","_law_known","_law_rows","_law_floors","_law_end","_law_held","_law_turn","_law_way","_law_line","_law_at_here","_law_ends","_law_right","_law_added"] ["_law_script"] (defScope s_law):=⟨rfl,rfl,rfl,by decide +kernel,rfl,by decide +kernel,by decide +kernel⟩
noncomputable abbrev t_Full:Stmt:=inClass (top 10) 0
noncomputable abbrev t_Gap:Stmt:=inClass (top 8) 0
noncomputable abbrev t_NoCount:Stmt:=inClass (top 11) 0
noncomputable abbrev t_NoHistory:Stmt:=inClass (top 4) 0
noncomputable abbrev t_NoPlace:Stmt:=inClass (top 5) 0
noncomputable abbrev t_NoRow:Stmt:=inClass (top 3) 0
noncomputable abbrev t_TooOld:Stmt:=inClass (top 7) 0
theorem ib_NoHistory:IBody0 t_NoHistory:=⟨⟨rfl,rfl,rfl,by decide +kernel,rfl,rfl,rfl⟩,⟨_,rfl,rfl⟩,fun _ _ _ _ _ _ _ _ _ _=>rfl,⟨_,_,_,_,_,_,_,_,_,rfl,fun _=>rfl⟩⟩
theorem ib_NoRow:IBody0 t_NoRow:=⟨⟨rfl,rfl,rfl,by decide +kernel,rfl,rfl,rfl⟩,⟨_,rfl,rfl⟩,fun _ _ _ _ _ _ _ _ _ _=>rfl,⟨_,_,_,_,_,_,_,_,_,rfl,fun _=>rfl⟩⟩
theorem ib_Full:IBody t_Full "what" "what":=⟨⟨rfl,rfl,rfl,rfl,by decide +kernel,rfl,rfl,rfl,by decide +kernel,by decide +kernel⟩,⟨_,rfl,rfl⟩,fun _ _ _ _ _ _ _ _ _ _ _=>rfl,⟨_,_,_,_,_,_,_,_,_,_,_,_,_,rfl,fun _=>rfl⟩⟩
theorem ib_Gap:IBody t_Gap "place" "place":=⟨⟨rfl,rfl,rfl,rfl,by decide +kernel,rfl,rfl,rfl,by decide +kernel,by decide +kernel⟩,⟨_,rfl,rfl⟩,fun _ _ _ _ _ _ _ _ _ _ _=>rfl,⟨_,_,_,_,_,_,_,_,_,_,_,_,_,rfl,fun _=>rfl⟩⟩
theorem ib_NoCount:IBody t_NoCount "what" "what":=⟨⟨rfl,rfl,rfl,rfl,by decide +kernel,rfl,rfl,rfl,by decide +kernel,by decide +kernel⟩,⟨_,rfl,rfl⟩,fun _ _ _ _ _ _ _ _ _ _ _=>rfl,⟨_,_,_,_,_,_,_,_,_,_,_,_,_,rfl,fun _=>rfl⟩⟩
theorem ib_NoPlace:IBody t_NoPlace "place" "place":=⟨⟨rfl,rfl,rfl,rfl,by decide +kernel,rfl,rfl,rfl,by decide +kernel,by decide +kernel⟩,⟨_,rfl,rfl⟩,fun _ _ _ _ _ _ _ _ _ _ _=>rfl,⟨_,_,_,_,_,_,_,_,_,_,_,_,_,rfl,fun _=>rfl⟩⟩
theorem ib_TooOld:IBody t_TooOld "since" "since":=⟨⟨rfl,rfl,rfl,rfl,by decide +kernel,rfl,rfl,rfl,by decide +kernel,by decide +kernel⟩,⟨_,rfl,rfl⟩,fun _ _ _ _ _ _ _ _ _ _ _=>rfl,⟨_,_,_,_,_,_,_,_,_,_,_,_,_,rfl,fun _=>rfl⟩⟩
set_option genInjectivity false in
set_option genSizeOfSpec false in
structure Adr where
 f_is_number:Addr
 d_is_number:FuncData
 f_is_within:Addr
 d_is_within:FuncData
 f_is_count:Addr
 d_is_count:FuncData
 f_is_place:Addr
 d_is_place:FuncData
 f_is_line:Addr
 d_is_line:FuncData
 f_is_line_and_place:Addr
 d_is_line_and_place:FuncData
 f_is_history:Addr
 d_is_history:FuncData
 f_require_history:Addr
 d_require_history:FuncData
 f_require_place:Addr
 d_require_place:FuncData
 f_extended:Addr
 d_extended:FuncData
 f_is_key:Addr
 d_is_key:FuncData
 f_is_value:Addr
 d_is_value:FuncData
 f_is_word:Addr
 d_is_word:FuncData
 f_is_set:Addr
 d_is_set:FuncData
 f_is_cut:Addr
 d_is_cut:FuncData
 f_is_row:Addr
 d_is_row:FuncData
 f_Log_init:Addr
 d_Log_init:FuncData
 f_Log_end:Addr
 d_Log_end:FuncData
 f_Log_floor:Addr
 d_Log_floor:FuncData
 f_Log_line:Addr
 d_Log_line:FuncData
 f_Log_history:Addr
 d_Log_history:FuncData
 f_Log_require_kept_from:Addr
 d_Log_require_kept_from:FuncData
 f_Log_put:Addr
 d_Log_put:FuncData
 f_Log_rows:Addr
 d_Log_rows:FuncData
 f_Log_add_rows:Addr
 d_Log_add_rows:FuncData
 f_Log_fork:Addr
 d_Log_fork:FuncData
 f_Log_trim:Addr
 d_Log_trim:FuncData
 f_Log___len:Addr
 d_Log___len:FuncData
 f_law_state:Addr
 d_law_state:FuncData
 f_law_next:Addr
 d_law_next:FuncData
 f_law_alike:Addr
 d_law_alike:FuncData
 f_law_row:Addr
 d_law_row:FuncData
 f_law_names:Addr
 d_law_names:FuncData
 f_law_at:Addr
 d_law_at:FuncData
 f_law_so:Addr
 d_law_so:FuncData
 f_law_gap_so:Addr
 d_law_gap_so:FuncData
 f_law_handed:Addr
 d_law_handed:FuncData
 f_law:Addr
 d_law:FuncData
 u_LAST_LINE:Value
 u_LAST_PLACE:Value
 u_LINES:Value
 u_LONGEST_KEY:Value
 u_MOST:Value
 u_ROOT:Value
 a_ROOT:Addr
 a2_ROOT:Addr
 C_Elder:Addr
 C_Full:Addr
 C_Gap:Addr
 C_LineError:Addr
 C_Log:Addr
 C_NoCount:Addr
 C_NoHistory:Addr
 C_NoPlace:Addr
 C_NoRow:Addr
 C_TooEarly:Addr
 C_TooOld:Addr
 I_Full:Addr
 I_Gap:Addr
 I_NoCount:Addr
 I_NoHistory:Addr
 I_NoPlace:Addr
 I_NoRow:Addr
 I_TooOld:Addr
set_option genInjectivity false in
set_option genSizeOfSpec false in
structure Txt (P:Program) (K:PySem.W.Frag) (mg:Str→Option Value) (a:Adr):Prop where
 mC_Elder:mg "Elder" = some (.ref a.C_Elder)
 mC_Full:mg "Full" = some (.ref a.C_Full)
 mC_Gap:mg "Gap" = some (.ref a.C_Gap)
 mC_LineError:mg "LineError" = some (.ref a.C_LineError)
 mC_Log:mg "Log" = some (.ref a.C_Log)
 mC_NoCount:mg "NoCount" = some (.ref a.C_NoCount)
 mC_NoHistory:mg "NoHistory" = some (.ref a.C_NoHistory)
 mC_NoPlace:mg "NoPlace" = some (.ref a.C_NoPlace)
 mC_NoRow:mg "NoRow" = some (.ref a.C_NoRow)
 mC_TooEarly:mg "TooEarly" = some (.ref a.C_TooEarly)
 mC_TooOld:mg "TooOld" = some (.ref a.C_TooOld)
 Z_Full:XIni P K a.C_Full a.C_LineError a.I_Full "what"
 Z_Gap:XIni P K a.C_Gap a.C_LineError a.I_Gap "place"
 Z_NoCount:XIni P K a.C_NoCount a.C_LineError a.I_NoCount "what"
 Z_NoHistory:XIni0 P K a.C_NoHistory a.C_LineError a.I_NoHistory "zzplace"
 Z_NoPlace:XIni P K a.C_NoPlace a.C_LineError a.I_NoPlace "place"
 Z_NoRow:XIni0 P K a.C_NoRow a.C_LineError a.I_NoRow "zzplace"
 Z_TooOld:XIni P K a.C_TooOld a.C_LineError a.I_TooOld "since"
 xg_Full:XG K a.C_Full
 ex_Full_LineError:PySem.W.exmOne K (.ref a.C_Full) (.ref a.C_LineError)=some true
 is_Full_Elder:PySem.W.kitOne K (.ref a.C_Full) (.ref a.C_Elder)=some false
 is_Full_Full:PySem.W.kitOne K (.ref a.C_Full) (.ref a.C_Full)=some true
 is_Full_Gap:PySem.W.kitOne K (.ref a.C_Full) (.ref a.C_Gap)=some false
 is_Full_NoCount:PySem.W.kitOne K (.ref a.C_Full) (.ref a.C_NoCount)=some false
 is_Full_NoHistory:PySem.W.kitOne K (.ref a.C_Full) (.ref a.C_NoHistory)=some false
 is_Full_NoPlace:PySem.W.kitOne K (.ref a.C_Full) (.ref a.C_NoPlace)=some false
 is_Full_NoRow:PySem.W.kitOne K (.ref a.C_Full) (.ref a.C_NoRow)=some false
 is_Full_TooEarly:PySem.W.kitOne K (.ref a.C_Full) (.ref a.C_TooEarly)=some false
 is_Full_TooOld:PySem.W.kitOne K (.ref a.C_Full) (.ref a.C_TooOld)=some false
 is_Full_ValueError:PySem.W.kitOne K (.ref a.C_Full) (.type "ValueError")=some true
 xg_Gap:XG K a.C_Gap
 ex_Gap_LineError:PySem.W.exmOne K (.ref a.C_Gap) (.ref a.C_LineError)=some true
 is_Gap_Elder:PySem.W.kitOne K (.ref a.C_Gap) (.ref a.C_Elder)=some false
 is_Gap_Full:PySem.W.kitOne K (.ref a.C_Gap) (.ref a.C_Full)=some false
 is_Gap_Gap:PySem.W.kitOne K (.ref a.C_Gap) (.ref a.C_Gap)=some true
 is_Gap_NoCount:PySem.W.kitOne K (.ref a.C_Gap) (.ref a.C_NoCount)=some false
 is_Gap_NoHistory:PySem.W.kitOne K (.ref a.C_Gap) (.ref a.C_NoHistory)=some false
 is_Gap_NoPlace:PySem.W.kitOne K (.ref a.C_Gap) (.ref a.C_NoPlace)=some false
 is_Gap_NoRow:PySem.W.kitOne K (.ref a.C_Gap) (.ref a.C_NoRow)=some false
 is_Gap_TooEarly:PySem.W.kitOne K (.ref a.C_Gap) (.ref a.C_TooEarly)=some false
 is_Gap_TooOld:PySem.W.kitOne K (.ref a.C_Gap) (.ref a.C_TooOld)=some false
 is_Gap_ValueError:PySem.W.kitOne K (.ref a.C_Gap) (.type "ValueError")=some true
 xg_NoCount:XG K a.C_NoCount
 ex_NoCount_LineError:PySem.W.exmOne K (.ref a.C_NoCount) (.ref a.C_LineError)=some true
 is_NoCount_Elder:PySem.W.kitOne K (.ref a.C_NoCount) (.ref a.C_Elder)=some false
 is_NoCount_Full:PySem.W.kitOne K (.ref a.C_NoCount) (.ref a.C_Full)=some false
 is_NoCount_Gap:PySem.W.kitOne K (.ref a.C_NoCount) (.ref a.C_Gap)=some false
 is_NoCount_NoCount:PySem.W.kitOne K (.ref a.C_NoCount) (.ref a.C_NoCount)=some true
 is_NoCount_NoHistory:PySem.W.kitOne K (.ref a.C_NoCount) (.ref a.C_NoHistory)=some false
 is_NoCount_NoPlace:PySem.W.kitOne K (.ref a.C_NoCount) (.ref a.C_NoPlace)=some false
 is_NoCount_NoRow:PySem.W.kitOne K (.ref a.C_NoCount) (.ref a.C_NoRow)=some false
 is_NoCount_TooEarly:PySem.W.kitOne K (.ref a.C_NoCount) (.ref a.C_TooEarly)=some false
 is_NoCount_TooOld:PySem.W.kitOne K (.ref a.C_NoCount) (.ref a.C_TooOld)=some false
 is_NoCount_ValueError:PySem.W.kitOne K (.ref a.C_NoCount) (.type "ValueError")=some true
 xg_NoHistory:XG K a.C_NoHistory
 ex_NoHistory_LineError:PySem.W.exmOne K (.ref a.C_NoHistory) (.ref a.C_LineError)=some true
 is_NoHistory_Elder:PySem.W.kitOne K (.ref a.C_NoHistory) (.ref a.C_Elder)=some false
 is_NoHistory_Full:PySem.W.kitOne K (.ref a.C_NoHistory) (.ref a.C_Full)=some false
 is_NoHistory_Gap:PySem.W.kitOne K (.ref a.C_NoHistory) (.ref a.C_Gap)=some false
 is_NoHistory_NoCount:PySem.W.kitOne K (.ref a.C_NoHistory) (.ref a.C_NoCount)=some false
 is_NoHistory_NoHistory:PySem.W.kitOne K (.ref a.C_NoHistory) (.ref a.C_NoHistory)=some true
 is_NoHistory_NoPlace:PySem.W.kitOne K (.ref a.C_NoHistory) (.ref a.C_NoPlace)=some false
 is_NoHistory_NoRow:PySem.W.kitOne K (.ref a.C_NoHistory) (.ref a.C_NoRow)=some false
 is_NoHistory_TooEarly:PySem.W.kitOne K (.ref a.C_NoHistory) (.ref a.C_TooEarly)=some false
 is_NoHistory_TooOld:PySem.W.kitOne K (.ref a.C_NoHistory) (.ref a.C_TooOld)=some false
 is_NoHistory_ValueError:PySem.W.kitOne K (.ref a.C_NoHistory) (.type "ValueError")=some true
 xg_NoPlace:XG K a.C_NoPlace
 ex_NoPlace_LineError:PySem.W.exmOne K (.ref a.C_NoPlace) (.ref a.C_LineError)=some true
 is_NoPlace_Elder:PySem.W.kitOne K (.ref a.C_NoPlace) (.ref a.C_Elder)=some false
 is_NoPlace_Full:PySem.W.kitOne K (.ref a.C_NoPlace) (.ref a.C_Full)=some false
 is_NoPlace_Gap:PySem.W.kitOne K (.ref a.C_NoPlace) (.ref a.C_Gap)=some false
 is_NoPlace_NoCount:PySem.W.kitOne K (.ref a.C_NoPlace) (.ref a.C_NoCount)=some false
 is_NoPlace_NoHistory:PySem.W.kitOne K (.ref a.C_NoPlace) (.ref a.C_NoHistory)=some false
 is_NoPlace_NoPlace:PySem.W.kitOne K (.ref a.C_NoPlace) (.ref a.C_NoPlace)=some true
 is_NoPlace_NoRow:PySem.W.kitOne K (.ref a.C_NoPlace) (.ref a.C_NoRow)=some false
 is_NoPlace_TooEarly:PySem.W.kitOne K (.ref a.C_NoPlace) (.ref a.C_TooEarly)=some false
 is_NoPlace_TooOld:PySem.W.kitOne K (.ref a.C_NoPlace) (.ref a.C_TooOld)=some false
 is_NoPlace_ValueError:PySem.W.kitOne K (.ref a.C_NoPlace) (.type "ValueError")=some true
 xg_NoRow:XG K a.C_NoRow
 ex_NoRow_LineError:PySem.W.exmOne K (.ref a.C_NoRow) (.ref a.C_LineError)=some true
 is_NoRow_Elder:PySem.W.kitOne K (.ref a.C_NoRow) (.ref a.C_Elder)=some false
 is_NoRow_Full:PySem.W.kitOne K (.ref a.C_NoRow) (.ref a.C_Full)=some false
 is_NoRow_Gap:PySem.W.kitOne K (.ref a.C_NoRow) (.ref a.C_Gap)=some false
 is_NoRow_NoCount:PySem.W.kitOne K (.ref a.C_NoRow) (.ref a.C_NoCount)=some false
 is_NoRow_NoHistory:PySem.W.kitOne K (.ref a.C_NoRow) (.ref a.C_NoHistory)=some false
 is_NoRow_NoPlace:PySem.W.kitOne K (.ref a.C_NoRow) (.ref a.C_NoPlace)=some false
 is_NoRow_NoRow:PySem.W.kitOne K (.ref a.C_NoRow) (.ref a.C_NoRow)=some true
 is_NoRow_TooEarly:PySem.W.kitOne K (.ref a.C_NoRow) (.ref a.C_TooEarly)=some false
 is_NoRow_TooOld:PySem.W.kitOne K (.ref a.C_NoRow) (.ref a.C_TooOld)=some false
 is_NoRow_ValueError:PySem.W.kitOne K (.ref a.C_NoRow) (.type "ValueError")=some true
 xg_TooOld:XG K a.C_TooOld
 ex_TooOld_LineError:PySem.W.exmOne K (.ref a.C_TooOld) (.ref a.C_LineError)=some true
 is_TooOld_Elder:PySem.W.kitOne K (.ref a.C_TooOld) (.ref a.C_Elder)=some false
 is_TooOld_Full:PySem.W.kitOne K (.ref a.C_TooOld) (.ref a.C_Full)=some false
 is_TooOld_Gap:PySem.W.kitOne K (.ref a.C_TooOld) (.ref a.C_Gap)=some false
 is_TooOld_NoCount:PySem.W.kitOne K (.ref a.C_TooOld) (.ref a.C_NoCount)=some false
 is_TooOld_NoHistory:PySem.W.kitOne K (.ref a.C_TooOld) (.ref a.C_NoHistory)=some false
 is_TooOld_NoPlace:PySem.W.kitOne K (.ref a.C_TooOld) (.ref a.C_NoPlace)=some false
 is_TooOld_NoRow:PySem.W.kitOne K (.ref a.C_TooOld) (.ref a.C_NoRow)=some false
 is_TooOld_TooEarly:PySem.W.kitOne K (.ref a.C_TooOld) (.ref a.C_TooEarly)=some false
 is_TooOld_TooOld:PySem.W.kitOne K (.ref a.C_TooOld) (.ref a.C_TooOld)=some true
 is_TooOld_ValueError:PySem.W.kitOne K (.ref a.C_TooOld) (.type "ValueError")=some true
 c_LAST_LINE:mg "LAST_LINE" = some a.u_LAST_LINE∧RelV (.int 1000000000) a.u_LAST_LINE
 c_LAST_PLACE:mg "LAST_PLACE" = some a.u_LAST_PLACE∧RelV (.int 1000000) a.u_LAST_PLACE
 c_LINES:mg "LINES" = some a.u_LINES∧RelV (.int 60) a.u_LINES
 c_LONGEST_KEY:mg "LONGEST_KEY" = some a.u_LONGEST_KEY∧RelV (.int 12) a.u_LONGEST_KEY
 c_MOST:mg "MOST" = some a.u_MOST∧RelV (.int 1000000000000000000) a.u_MOST
 c_ROOT:mg "ROOT" = some a.u_ROOT∧RelV (.ref a.a_ROOT) a.u_ROOT
 r_ROOT:∀H,SqT K H a.a_ROOT [.ref a.a2_ROOT]∧SqT K H a.a2_ROOT [.int 0,.int 0]
 b_ValueError:mg "ValueError" = none
 b_all:mg "all" = none
 b_bool:mg "bool" = none
 b_int:mg "int" = none
 b_isinstance:mg "isinstance" = none
 b_len:mg "len" = none
 b_list:mg "list" = none
 b_max:mg "max" = none
 b_min:mg "min" = none
 b_range:mg "range" = none
 b_str:mg "str" = none
 b_tuple:mg "tuple" = none
 b_zip:mg "zip" = none
 cl_Log:Cls K a.C_Log
 na_Log_cut_off:NoAttr K a.C_Log "cut_off"
 na_Log_kept_rows:NoAttr K a.C_Log "kept_rows"
 na_Log_past:NoAttr K a.C_Log "past"
 mk_Log:Mk K a.C_Log a.f_Log_init
 F_is_number:Fun K "is_number" "is_number" s_is_number a.f_is_number a.d_is_number
 m_is_number:mg "is_number" = some (.ref a.f_is_number)
 k_is_number:PySem.W.keepIn K (.ref a.f_is_number)=true
 bd_is_number:Binds K a.d_is_number ["thing"] []
 F_is_within:Fun K "is_within" "is_within" s_is_within a.f_is_within a.d_is_within
 m_is_within:mg "is_within" = some (.ref a.f_is_within)
 k_is_within:PySem.W.keepIn K (.ref a.f_is_within)=true
 bd_is_within:Binds K a.d_is_within ["thing","least","most"] []
 F_is_count:Fun K "is_count" "is_count" s_is_count a.f_is_count a.d_is_count
 m_is_count:mg "is_count" = some (.ref a.f_is_count)
 k_is_count:PySem.W.keepIn K (.ref a.f_is_count)=true
 bd_is_count:Binds K a.d_is_count ["thing"] []
 F_is_place:Fun K "is_place" "is_place" s_is_place a.f_is_place a.d_is_place
 m_is_place:mg "is_place" = some (.ref a.f_is_place)
 k_is_place:PySem.W.keepIn K (.ref a.f_is_place)=true
 bd_is_place:Binds K a.d_is_place ["thing"] []
 F_is_line:Fun K "is_line" "is_line" s_is_line a.f_is_line a.d_is_line
 m_is_line:mg "is_line" = some (.ref a.f_is_line)
 k_is_line:PySem.W.keepIn K (.ref a.f_is_line)=true
 bd_is_line:Binds K a.d_is_line ["thing"] []
 F_is_line_and_place:Fun K "is_line_and_place" "is_line_and_place" s_is_line_and_place a.f_is_line_and_place a.d_is_line_and_place
 m_is_line_and_place:mg "is_line_and_place" = some (.ref a.f_is_line_and_place)
 k_is_line_and_place:PySem.W.keepIn K (.ref a.f_is_line_and_place)=true
 bd_is_line_and_place:Binds K a.d_is_line_and_place ["thing"] []
 F_is_history:Fun K "is_history" "is_history" s_is_history a.f_is_history a.d_is_history
 m_is_history:mg "is_history" = some (.ref a.f_is_history)
 k_is_history:PySem.W.keepIn K (.ref a.f_is_history)=true
 bd_is_history:Binds K a.d_is_history ["thing"] []
 F_require_history:Fun K "require_history" "require_history" s_require_history a.f_require_history a.d_require_history
 m_require_history:mg "require_history" = some (.ref a.f_require_history)
 k_require_history:PySem.W.keepIn K (.ref a.f_require_history)=true
 bd_require_history:Binds K a.d_require_history ["thing"] []
 F_require_place:Fun K "require_place" "require_place" s_require_place a.f_require_place a.d_require_place
 m_require_place:mg "require_place" = some (.ref a.f_require_place)
 k_require_place:PySem.W.keepIn K (.ref a.f_require_place)=true
 bd_require_place:Binds K a.d_require_place ["thing"] []
 F_extended:Fun K "extended" "extended" s_extended a.f_extended a.d_extended
 m_extended:mg "extended" = some (.ref a.f_extended)
 k_extended:PySem.W.keepIn K (.ref a.f_extended)=true
 bd_extended:Binds K a.d_extended ["history","line","fork"] []
 F_is_key:Fun K "is_key" "is_key" s_is_key a.f_is_key a.d_is_key
 m_is_key:mg "is_key" = some (.ref a.f_is_key)
 k_is_key:PySem.W.keepIn K (.ref a.f_is_key)=true
 bd_is_key:Binds K a.d_is_key ["thing"] []
 F_is_value:Fun K "is_value" "is_value" s_is_value a.f_is_value a.d_is_value
 m_is_value:mg "is_value" = some (.ref a.f_is_value)
 k_is_value:PySem.W.keepIn K (.ref a.f_is_value)=true
 bd_is_value:Binds K a.d_is_value ["thing"] []
 F_is_word:Fun K "is_word" "is_word" s_is_word a.f_is_word a.d_is_word
 m_is_word:mg "is_word" = some (.ref a.f_is_word)
 k_is_word:PySem.W.keepIn K (.ref a.f_is_word)=true
 bd_is_word:Binds K a.d_is_word ["thing","word"] []
 F_is_set:Fun K "is_set" "is_set" s_is_set a.f_is_set a.d_is_set
 m_is_set:mg "is_set" = some (.ref a.f_is_set)
 k_is_set:PySem.W.keepIn K (.ref a.f_is_set)=true
 bd_is_set:Binds K a.d_is_set ["thing"] []
 F_is_cut:Fun K "is_cut" "is_cut" s_is_cut a.f_is_cut a.d_is_cut
 m_is_cut:mg "is_cut" = some (.ref a.f_is_cut)
 k_is_cut:PySem.W.keepIn K (.ref a.f_is_cut)=true
 bd_is_cut:Binds K a.d_is_cut ["thing"] []
 F_is_row:Fun K "is_row" "is_row" s_is_row a.f_is_row a.d_is_row
 m_is_row:mg "is_row" = some (.ref a.f_is_row)
 k_is_row:PySem.W.keepIn K (.ref a.f_is_row)=true
 bd_is_row:Binds K a.d_is_row ["thing"] []
 F_Log_init:Fun K "__init__" "Log.__init__" s_Log_init a.f_Log_init a.d_Log_init
 kb0_Log_init:∃t,KBinds K a.d_Log_init ["self","history","floor"] [] (kg0 (.ref a.a_ROOT) (.int 0 t)) (kg0 (.ref a.a_ROOT) (.int 0))
 kbR_Log_init:KBinds K a.d_Log_init ["self","history","floor"] ["floor"] (kgR (.ref a.a_ROOT)) (kgR (.ref a.a_ROOT))
 F_Log_end:Fun K "end" "Log.end" s_Log_end a.f_Log_end a.d_Log_end
 mt_Log_end:Meth K a.C_Log "end" a.f_Log_end
 bd_Log_end:Binds K a.d_Log_end ["self"] []
 F_Log_floor:Fun K "floor" "Log.floor" s_Log_floor a.f_Log_floor a.d_Log_floor
 mt_Log_floor:Meth K a.C_Log "floor" a.f_Log_floor
 bd_Log_floor:Binds K a.d_Log_floor ["self"] []
 F_Log_line:Fun K "line" "Log.line" s_Log_line a.f_Log_line a.d_Log_line
 mt_Log_line:Meth K a.C_Log "line" a.f_Log_line
 bd_Log_line:Binds K a.d_Log_line ["self"] []
 F_Log_history:Fun K "history" "Log.history" s_Log_history a.f_Log_history a.d_Log_history
 mt_Log_history:Meth K a.C_Log "history" a.f_Log_history
 bd_Log_history:Binds K a.d_Log_history ["self"] []
 F_Log_require_kept_from:Fun K "require_kept_from" "Log.require_kept_from" s_Log_require_kept_from a.f_Log_require_kept_from a.d_Log_require_kept_from
 mt_Log_require_kept_from:Meth K a.C_Log "require_kept_from" a.f_Log_require_kept_from
 bd_Log_require_kept_from:Binds K a.d_Log_require_kept_from ["self","place"] []
 F_Log_put:Fun K "put" "Log.put" s_Log_put a.f_Log_put a.d_Log_put
 mt_Log_put:Meth K a.C_Log "put" a.f_Log_put
 bd_Log_put:Binds K a.d_Log_put ["self","row"] []
 F_Log_rows:Fun K "rows" "Log.rows" s_Log_rows a.f_Log_rows a.d_Log_rows
 mt_Log_rows:Meth K a.C_Log "rows" a.f_Log_rows
 dK_Log_rows:Binds K a.d_Log_rows ["self","place","many"] [.none]
 F_Log_add_rows:Fun K "add_rows" "Log.add_rows" s_Log_add_rows a.f_Log_add_rows a.d_Log_add_rows
 mt_Log_add_rows:Meth K a.C_Log "add_rows" a.f_Log_add_rows
 bd_Log_add_rows:Binds K a.d_Log_add_rows ["self","history","place","rows"] []
 F_Log_fork:Fun K "fork" "Log.fork" s_Log_fork a.f_Log_fork a.d_Log_fork
 mt_Log_fork:Meth K a.C_Log "fork" a.f_Log_fork
 bd_Log_fork:Binds K a.d_Log_fork ["self","line"] []
 F_Log_trim:Fun K "trim" "Log.trim" s_Log_trim a.f_Log_trim a.d_Log_trim
 mt_Log_trim:Meth K a.C_Log "trim" a.f_Log_trim
 bd_Log_trim:Binds K a.d_Log_trim ["self","place"] []
 F_Log___len:Fun K "__len__" "Log.__len__" s_Log___len a.f_Log___len a.d_Log___len
 mt_Log___len:Meth K a.C_Log "__len__" a.f_Log___len
 bd_Log___len:Binds K a.d_Log___len ["self"] []
 F_law_state:Fun K "_law_state" "_law_state" s_law_state a.f_law_state a.d_law_state
 m__law_state:mg "_law_state" = some (.ref a.f_law_state)
 k__law_state:PySem.W.keepIn K (.ref a.f_law_state)=true
 bd__law_state:Binds K a.d_law_state ["_law_script"] []
 F_law_next:Fun K "_law_next" "_law_next" s_law_next a.f_law_next a.d_law_next
 m__law_next:mg "_law_next" = some (.ref a.f_law_next)
 k__law_next:PySem.W.keepIn K (.ref a.f_law_next)=true
 bd__law_next:Binds K a.d_law_next ["_law_state_here","_law_below"] []
 F_law_alike:Fun K "_law_alike" "_law_alike" s_law_alike a.f_law_alike a.d_law_alike
 m__law_alike:mg "_law_alike" = some (.ref a.f_law_alike)
 k__law_alike:PySem.W.keepIn K (.ref a.f_law_alike)=true
 bd__law_alike:Binds K a.d_law_alike ["_law_found","_law_due"] []
 F_law_row:Fun K "_law_row" "_law_row" s_law_row a.f_law_row a.d_law_row
 m__law_row:mg "_law_row" = some (.ref a.f_law_row)
 k__law_row:PySem.W.keepIn K (.ref a.f_law_row)=true
 bd__law_row:Binds K a.d_law_row ["_law_state_here"] []
 F_law_names:Fun K "_law_names" "_law_names" s_law_names a.f_law_names a.d_law_names
 m__law_names:mg "_law_names" = some (.ref a.f_law_names)
 k__law_names:PySem.W.keepIn K (.ref a.f_law_names)=true
 bd__law_names:Binds K a.d_law_names ["_law_error"] []
 F_law_at:Fun K "_law_at" "_law_at" s_law_at a.f_law_at a.d_law_at
 m__law_at:mg "_law_at" = some (.ref a.f_law_at)
 k__law_at:PySem.W.keepIn K (.ref a.f_law_at)=true
 bd__law_at:Binds K a.d_law_at ["_law_past","_law_place"] []
 F_law_so:Fun K "_law_so" "_law_so" s_law_so a.f_law_so a.d_law_so
 m__law_so:mg "_law_so" = some (.ref a.f_law_so)
 k__law_so:PySem.W.keepIn K (.ref a.f_law_so)=true
 bd__law_so:Binds K a.d_law_so ["_law_log","_law_past","_law_low","_law_rows"] []
 F_law_gap_so:Fun K "_law_gap_so" "_law_gap_so" s_law_gap_so a.f_law_gap_so a.d_law_gap_so
 m__law_gap_so:mg "_law_gap_so" = some (.ref a.f_law_gap_so)
 k__law_gap_so:PySem.W.keepIn K (.ref a.f_law_gap_so)=true
 bd__law_gap_so:Binds K a.d_law_gap_so ["_law_log","_law_past","_law_place","_law_rows"] []
 F_law_handed:Fun K "_law_handed" "_law_handed" s_law_handed a.f_law_handed a.d_law_handed
 m__law_handed:mg "_law_handed" = some (.ref a.f_law_handed)
 k__law_handed:PySem.W.keepIn K (.ref a.f_law_handed)=true
 bd__law_handed:Binds K a.d_law_handed ["_law_state_here","_law_first","_law_second","_law_parts"] []
 F_law:Fun K "law" "law" s_law a.f_law a.d_law
 m_law:mg "law" = some (.ref a.f_law)
 k_law:PySem.W.keepIn K (.ref a.f_law)=true
 bd_law:Binds K a.d_law ["_law_script"] []
 bl_law:∀(s:Shared) (u:Value),BindsTo s a.d_law ⟨[u],[]⟩ [("_law_script",u)]
section
variable {P:Program}{w:World}{K:PySem.W.Frag}{mg:Str→Option Value}{base:Heap}{a:Adr}
noncomputable def sp_is_number (K:PySem.W.Frag):Sp:=fun vs H Q _=>∃(N:List Addr)(x:V)(d:PyData),vs = [x]∧Dt K N H x d∧Q (.bl (Mt.numD d)) H
abbrev gis_number (P:Program)(w:World)(K:PySem.W.Frag)(mg:Str→Option Value)(base:Heap)(a:Adr):Prop:=FnOk P w K mg base CX0 1 a.f_is_number a.d_is_number ["thing"] (sp_is_number K)
theorem ok_is_number (T:Txt P K mg a)  : gis_number P w K mg base a:=by
 refine T.F_is_number.ok sc_is_number (fun vs H Q E h=>?_) (fun cdv A outer s H vs Q E hr h=>?_)
 ·obtain⟨N,x,d,rfl,_⟩:=h;rfl
 ·obtain⟨N,x,d,rfl,hd,k⟩:=h
  refine exW ⟨_,(qss_one (qs_ret (pe_and (qe_callB cn_isi (by rfl) T.b_isinstance (by decide +kernel) (qa (pv 0) (qa (pe_bltn (by rfl) T.b_int (by decide +kernel) (v:=.ty "int") rfl) qa_nil))) (pe_one (pe_not (qe_callB cn_isi (by rfl) T.b_isinstance (by decide +kernel) (qa (pv 0) (qa (pe_bltn (by rfl) T.b_bool (by decide +kernel) (v:=.ty "bool") rfl) qa_nil)))))))),?_⟩
  try dsimp only[cxOf]
  walk_at"rd"
  cases d with
  | int i=>dsimp only[isIntD];walk_at"rd";dsimp only[isBoolD];walk_at"rd";exact k
  | bool b=>dsimp only[isIntD];walk_at"rd";dsimp only[isBoolD];walk_at"rd";exact k
  | _=>dsimp only[isIntD];walk_at"rd";exact k
noncomputable def sp_is_within (K:PySem.W.Frag):Sp:=fun vs H Q _=>∃(N:List Addr)(x:V)(d:PyData)(lo hi:Int),vs = [x,.int lo,.int hi]∧Dt K N H x d∧Q (.bl (Mt.withinD lo hi d)) H
abbrev gis_within (P:Program)(w:World)(K:PySem.W.Frag)(mg:Str→Option Value)(base:Heap)(a:Adr):Prop:=FnOk P w K mg base CX0 2 a.f_is_within a.d_is_within ["thing","least","most"] (sp_is_within K)
theorem ok_is_within (T:Txt P K mg a)(G4:gis_number P w K mg base a):gis_within P w K mg base a:=by
 refine T.F_is_within.ok sc_is_within (fun vs H Q E h=>?_) (fun cdv A outer s H vs Q E hr h=>?_)
 ·obtain⟨N,x,d,lo,hi,rfl,_⟩:=h;rfl
 ·obtain⟨N,x,d,lo,hi,rfl,hd,k⟩:=h
  refine exW ⟨_,(qss_one (qs_ret (pe_and (qe_call G4 (hr.mono (by decide)) (by rfl) T.m_is_number T.k_is_number T.bd_is_number .nil pass0 (qa (pv 0) qa_nil)) (pe_one (pe_chain op_le op_le (pv 1) (pv 0) (pv 2) (by with_unfolding_all rfl)))))),?_⟩
  try dsimp only[cxOf]
  walk_at"rd"
  refine⟨N,x,d,rfl,hd,rd_bl' ?_⟩
  cases hd with
  | int i =>
   dsimp only[Mt.numD]
   walk_at"rd"
   refine rd_ite2 (fun hc=>?_) (fun hc=>?_)
   ·walk_at"rd"
    simpa only[Mt.withinD,hc,Bool.true_and]using k
   ·simpa only[Mt.withinD,hc,Bool.false_and]using k
  | _=>dsimp only[Mt.numD];walk_at"rd";exact k
noncomputable def sp_is_count (K:PySem.W.Frag):Sp:=fun vs H Q _=>∃(N:List Addr)(x:V)(d:PyData),vs = [x]∧Dt K N H x d∧Q (.bl (Mt.countD d)) H
abbrev gis_count (P:Program)(w:World)(K:PySem.W.Frag)(mg:Str→Option Value)(base:Heap)(a:Adr):Prop:=FnOk P w K mg base CX0 2 a.f_is_count a.d_is_count ["thing"] (sp_is_count K)
theorem ok_is_count (T:Txt P K mg a)(G4:gis_number P w K mg base a):gis_count P w K mg base a:=by
 refine T.F_is_count.ok sc_is_count (fun vs H Q E h=>?_) (fun cdv A outer s H vs Q E hr h=>?_)
 ·obtain⟨N,x,d,rfl,_⟩:=h;rfl
 ·obtain⟨N,x,d,rfl,hd,k⟩:=h
  refine exW ⟨_,(qss_one (qs_ret (pe_and (qe_call G4 (hr.mono (by decide)) (by rfl) T.m_is_number T.k_is_number T.bd_is_number .nil pass0 (qa (pv 0) qa_nil)) (pe_one (pe_cmpR op_ge (pv 0) pe_int (nomark _)))))),?_⟩
  try dsimp only[cxOf]
  walk_at"rd"
  refine⟨N,x,d,rfl,hd,rd_bl' ?_⟩
  cases hd with
  | int i =>
   dsimp only[Mt.numD]
   walk_at"rd"
   exact k
  | _=>dsimp only[Mt.numD];walk_at"rd";exact k
noncomputable def sp_is_place (K:PySem.W.Frag):Sp:=fun vs H Q _=>∃(N:List Addr)(x:V)(d:PyData),vs = [x]∧Dt K N H x d∧Q (.bl (Mt.withinD 0 1000000 d)) H
abbrev gis_place (P:Program)(w:World)(K:PySem.W.Frag)(mg:Str→Option Value)(base:Heap)(a:Adr):Prop:=FnOk P w K mg base CX0 3 a.f_is_place a.d_is_place ["thing"] (sp_is_place K)
theorem ok_is_place (T:Txt P K mg a)(G0:gis_within P w K mg base a):gis_place P w K mg base a:=by
 refine T.F_is_place.ok sc_is_place (fun vs H Q E h=>?_) (fun cdv A outer s H vs Q E hr h=>?_)
 ·obtain⟨N,x,d,rfl,_⟩:=h;rfl
 ·obtain⟨N,x,d,rfl,hd,k⟩:=h
  refine exW ⟨_,(qss_one (qs_ret (qe_call G0 (hr.mono (by decide)) (by rfl) T.m_is_within T.k_is_within T.bd_is_within .nil pass0 (qa (pv 0) (qa pe_int (qa (pe_glob (by rfl) T.c_LAST_PLACE.1 T.c_LAST_PLACE.2) qa_nil)))))),?_⟩
  try dsimp only[cxOf]
  walk_at"rd"
  exact⟨N,x,d,0,1000000,rfl,hd,k⟩
noncomputable def sp_is_line (K:PySem.W.Frag):Sp:=fun vs H Q _=>∃(N:List Addr)(x:V)(d:PyData),vs = [x]∧Dt K N H x d∧Q (.bl (Mt.withinD 0 1000000000 d)) H
abbrev gis_line (P:Program)(w:World)(K:PySem.W.Frag)(mg:Str→Option Value)(base:Heap)(a:Adr):Prop:=FnOk P w K mg base CX0 3 a.f_is_line a.d_is_line ["thing"] (sp_is_line K)
theorem ok_is_line (T:Txt P K mg a)(G0:gis_within P w K mg base a):gis_line P w K mg base a:=by
 refine T.F_is_line.ok sc_is_line (fun vs H Q E h=>?_) (fun cdv A outer s H vs Q E hr h=>?_)
 ·obtain⟨N,x,d,rfl,_⟩:=h;rfl
 ·obtain⟨N,x,d,rfl,hd,k⟩:=h
  refine exW ⟨_,(qss_one (qs_ret (qe_call G0 (hr.mono (by decide)) (by rfl) T.m_is_within T.k_is_within T.bd_is_within .nil pass0 (qa (pv 0) (qa pe_int (qa (pe_glob (by rfl) T.c_LAST_LINE.1 T.c_LAST_LINE.2) qa_nil)))))),?_⟩
  try dsimp only[cxOf]
  walk_at"rd"
  exact⟨N,x,d,0,1000000000,rfl,hd,k⟩
noncomputable def sp_is_line_and_place (K:PySem.W.Frag):Sp:=fun vs H Q _=>∃(N:List Addr)(x:V)(d:PyData),vs = [x]∧Dt K N H x d∧Q (.bl (Mt.begunD d)) H
abbrev gis_line_and_place (P:Program)(w:World)(K:PySem.W.Frag)(mg:Str→Option Value)(base:Heap)(a:Adr):Prop:=FnOk P w K mg base CX0 4 a.f_is_line_and_place a.d_is_line_and_place ["thing"] (sp_is_line_and_place K)
theorem ok_is_line_and_place (T:Txt P K mg a)(G15:gis_line P w K mg base a)(G5:gis_place P w K mg base a):gis_line_and_place P w K mg base a:=by
 refine T.F_is_line_and_place.ok sc_is_line_and_place (fun vs H Q E h=>?_) (fun cdv A outer s H vs Q E hr h=>?_)
 ·obtain⟨N,x,d,rfl,_⟩:=h;rfl
 ·obtain⟨N,x,d,rfl,hd,k⟩:=h
  refine exW ⟨_,(qss_one (qs_ret (pe_and (qe_callB cn_isi (by rfl) T.b_isinstance (by decide +kernel) (qa (pv 0) (qa (pe_bltn (by rfl) T.b_tuple (by decide +kernel) (v:=.ty "tuple") rfl) qa_nil))) (pe_and (pe_cmpR op_eq (qe_callB cn_len (by rfl) T.b_len (by decide +kernel) (qa (pv 0) qa_nil)) pe_int (nomark _)) (pe_and (qe_call G15 (hr.mono (by decide)) (by rfl) T.m_is_line T.k_is_line T.bd_is_line .nil pass0 (qa (pe_ix ix_tup (pv 0) pe_int (fun _ _=>rfl)) qa_nil)) (pe_one (qe_call G5 (hr.mono (by decide)) (by rfl) T.m_is_place T.k_is_place T.bd_is_place .nil pass0 (qa (pe_ix ix_tup (pv 0) pe_int (fun _ _=>rfl)) qa_nil)))))))),?_⟩
  try dsimp only[cxOf]
  walk_at"rd"
  cases hd with
  | tup hq hn hr =>
   rename_i p xs ds
   dsimp only[isTupD]
   walk_at"rd"
   have hlen:=hr.length
   refine rd_ite2 (fun hc=>?_) (fun hc=>?_)
   ·have e2 : ds.length=2:=by
     have:=of_decide_eq_true hc
     injection this with this
     omega
    cases hr with
    | nil=>simp at e2
    | cons q1 hr=>cases hr with
     | nil=>simp at e2
     | cons q2 hr=>cases hr with
      | cons q3 hr=>simp at e2
      | nil =>
       rename_i d1 x1 d2 x2
       walk_at"rd"
       refine⟨N,_,_,rfl,q1,rd_bl' ?_⟩
       refine rd_ite2 (fun h1=>?_) (fun h1=>?_)
       ·walk_at"rd"
        refine⟨N,_,_,rfl,q2,?_⟩
        simpa only[Mt.begunD,h1,Bool.true_and]using k
       ·simpa only[Mt.begunD,h1,Bool.false_and]using k
   ·have e2:ds.length≠2:=by
     intro e
     rw[hlen,e]at hc
     simp at hc
    have:Mt.begunD (.tuple ds)=false:=by
     unfold Mt.begunD
     split
     ·rename_i heq;cases heq;simp at e2
     ·rfl
    rw[this]at k
    exact k
  | _=>dsimp only[isTupD];walk_at"rd";exact k
noncomputable def sp_is_history (K:PySem.W.Frag):Sp:=fun vs H Q _=>∃(N:List Addr)(x:V)(d:PyData),vs = [x]∧Dt K N H x d∧∀H',Same H H'→Q (.bl (Mt.histD d)) H'
abbrev gis_history (P:Program)(w:World)(K:PySem.W.Frag)(mg:Str→Option Value)(base:Heap)(a:Adr):Prop:=FnOk P w K mg base CX0 5 a.f_is_history a.d_is_history ["thing"] (sp_is_history K)
theorem ok_is_history (T:Txt P K mg a)(G16:gis_line_and_place P w K mg base a):gis_history P w K mg base a:=by
 refine T.F_is_history.ok sc_is_history (fun vs H Q E h=>?_) (fun cdv A outer s H vs Q E hr h=>?_)
 ·obtain⟨N,x,d,rfl,_⟩:=h;rfl
 ·obtain⟨N, x, d,rfl,hd,k⟩:=h
  refine exW ⟨_,(qss_cons (qs_if (pw_or (pt_not (pt_val (qe_callB cn_isi (by rfl) T.b_isinstance (by decide +kernel) (qa (pv 0) (qa (pe_bltn (by rfl) T.b_tuple (by decide +kernel) (v:=.ty "tuple") rfl) qa_nil))) (by intro _;rfl))) (pw_or1 (pt_not (pt_chain op_le op_le pe_int (qe_callB cn_len (by rfl) T.b_len (by decide +kernel) (qa (pv 0) qa_nil)) (pe_glob (by rfl) T.c_LINES.1 T.c_LINES.2) (by with_unfolding_all rfl))))).pt
    (qss_one (qs_ret pe_bl))
    qss_nil)
   (qss_cons (qs_if (pw_or (pt_not (pt_val (qe_callB (cn_all (by rfl)) (by rfl) T.b_all (by decide +kernel) (qa (by
    refine' pe_comp (NC:=["pair"]) (fr:=[none]) ?B1 rfl ?hi1 ?hg1 ?ht1 ?he1 (by intro _;rfl)
    case B1=>exact⟨rfl,rfl,by decide +kernel,by decide +kernel,rfl,⟨trivial,trivial⟩⟩
    case hi1=>exact(pi_tup (pv 0))
    case hg1=>intro _ _ _;exact(pg_name (i:=0) (show (["pair"]:List Str).Nodup by decide +kernel) rfl (Or.inl rfl))
    case ht1=>intro _ _ _;exact pf_nil
    case he1=>intro _ _ _;exact(qe_call G16 (hr.mono (by decide)) (by rfl) T.m_is_line_and_place T.k_is_line_and_place T.bd_is_line_and_place .nil pass0 (qa (pv 0) qa_nil))) qa_nil)) (by intro _;rfl))) (pw_or1 (pt_cmpR op_ne (pe_ix ix_tup (pe_ix ix_tup (pv 0) pe_int (fun _ _=>rfl)) pe_int (fun _ _=>rfl)) pe_int (nomark _)))).pt
    (qss_one (qs_ret pe_bl))
    qss_nil)
   (qss_one (qs_ret (qe_callB (cn_all (by rfl)) (by rfl) T.b_all (by decide +kernel) (qa (by
    refine' pe_comp (NC:=["ahead","behind"]) (fr:=[none,none]) ?B2 rfl ?hi2 ?hg2 ?ht2 ?he2 (by intro _;rfl)
    case B2=>exact⟨rfl,rfl,by decide +kernel,by decide +kernel,rfl,⟨trivial,trivial,trivial⟩⟩
    case hi2=>exact(qi_zip (by rfl) T.b_zip (qa (pv 0) (qa (pe_slice sl_tupG (pv 0) (po_some pe_int) po_none) qa_nil)) (by rfl) (by rfl))
    case hg2=>intro _ _ _;exact(pg_tupK (K:=K) (n:=2) (by rfl) rfl (pgs_cons (pg_name (i:=0) (show (["ahead","behind"]:List Str).Nodup by decide +kernel) rfl (Or.inl rfl)) (pgs_cons (pg_name (i:=1) (show (["ahead","behind"]:List Str).Nodup by decide +kernel) rfl (Or.inl rfl)) pgs_nil)))
    case ht2=>intro _ _ _;exact pf_nil
    case he2=>intro _ _ _;exact(pe_and (pe_cmpR op_lt (pe_ix (ix_tupK (K:=K) (by rfl)) (pv 0) pe_int (fun _ _=>rfl)) (pe_ix (ix_tupK (K:=K) (by rfl)) (pv 1) pe_int (fun _ _=>rfl)) (nomark _)) (pe_one (pe_cmpR op_le (pe_ix (ix_tupK (K:=K) (by rfl)) (pv 0) pe_int (fun _ _=>rfl)) (pe_ix (ix_tupK (K:=K) (by rfl)) (pv 1) pe_int (fun _ _=>rfl)) (nomark _))))) qa_nil)))))),?_⟩
  try dsimp only[cxOf]
  walk_at"rd"
  cases hd with
  | tup hq hn hr =>
   rename_i p xs ds
   have hlen:=hr.length
   dsimp only[isTupD]
   walk_at"rd"
   have short:¬ (1≤ds.length∧ds.length≤60)→Q (.bl false) H:=fun hs=>by
    have e:Mt.histD (.tuple ds)=false:=by
     simp only[Mt.histD,Bool.and_eq_false_iff,decide_eq_false_iff_not]
     omega
    have:=k H (Same.refl H)
    rwa [e]at this
   refine rd_ite2 (fun h1=>?_) (fun h1=>?_)
   ·walk_at"rd"
    refine rd_ite2 (fun h2=>?_) (fun h2=>?_)
    ·have h2':=h2
     simp only[Bool.not_eq_true',decide_eq_false_iff_not]at h2'
     walk_at"rd"
     exact short (by omega)
    ·have g1 := of_decide_eq_true h1
     simp only[Bool.not_eq_false',decide_eq_true_eq]at h2
     have l1:1≤ds.length:=by omega
     have l2:ds.length≤60:=by omega
     walk_at"rd"
     refine⟨p,rfl,⟨xs,hq⟩,?_⟩
     intro acc hacc nka
     refine comp_by ds.length ?_ (fun i vs σc H'=>Same H H'∧(∃o,σc = [o])∧vs=(ds.take i).map fun d=>V.bl (Mt.begunD d)) ?_ ?_ ?_
     ·have:sizeLine=16777216:=rfl
      omega
     ·exact⟨(Same.refl H).upd2 hacc,⟨none,rfl⟩,by simp⟩
     ·rintro i vs σc H' hi hl ha ⟨sm,⟨o,rfl⟩,rfl⟩
      obtain⟨v,d,e1,e2,e3⟩:=hr.at hi
      refine⟨⟨xs,v,sm.tupS hq,e1⟩,?_⟩
      rintro x H2 ⟨rfl,hx⟩ R hR
      have ex:=hx xs (sm.tupS hq)
      rw[e1]at ex;cases ex
      walk_at"rd"
      refine⟨N,v,d,rfl,e3.ext (Ext.same sm),hR _ _ _ ha ⟨sm.upd2 hacc,⟨some v,rfl⟩,?_⟩⟩
      rw[List.take_add_one,e2]
      simp
     ·rintro vs σc H' hl ha ⟨sm,_,rfl⟩
      refine⟨⟨xs,sm.tupS hq,by omega⟩,?_⟩
      rw[List.take_length]at ha
      have hbs:SqL K H' acc ((ds.map Mt.begunD).map V.bl):=SqL.of (by rw[ha,List.map_map];rfl)
      walk_at"rd"
      refine rd_all hbs ?_
      have eall:(ds.map Mt.begunD).all id=ds.all Mt.begunD:=by rw[List.all_map];rfl
      rw[eall]
      walk_at"rd"
      have no:Mt.histD (.tuple ds)=false→∀H2,Same H H2→Q (.bl false) H2:=fun e H2 s2=>by
       have:=k H2 s2
       rwa [e]at this
      refine rd_ite2 (fun hb=>?_) (fun hb=>?_)
      ·simp only[Bool.not_eq_true']at hb
       walk_at"rd"
       exact no (Mt.hist_not_begun hb) _ sm
      ·simp only[Bool.not_eq_false']at hb
       have pairs:∀i,i<ds.length→∃v a b,xs[i]? = some v∧ds[i]? = some (.tuple [.int a,.int b])∧∃q,v = .ref q∧SqT K H q [.int a,.int b]:=fun i hi=>by
        obtain⟨v,d,e1,e2,e3⟩:=hr.at hi
        obtain⟨a,b,rfl,_⟩:=Mt.begun_shape (List.all_eq_true.mp hb d (List.mem_of_getElem? e2))
        obtain⟨q,rfl,hq2,_⟩:=e3.pair
        exact⟨_,a,b,e1,e2,q,rfl,hq2⟩
       obtain⟨v0,a0,b0,e1,e2,q0,rfl,hq0⟩:=pairs 0 (by omega)
       walk_at"rd"
       refine rd_ixT (sm.tupS hq) (atI_nat (j:=0) e1) ?_
       refine rd_c ?_
       refine rd_ixT (sm.tupS hq0) (atI_nat (j:=1) rfl) ?_
       walk_at"rd"
       have f0:Mt.first0 ds=decide (b0=0):=by
        cases ds with
        | nil=>simp at l1
        | cons d r=>simp only[List.getElem?_cons_zero,Option.some.injEq]at e2;subst e2;rfl
       refine rd_ite2 (fun hz=>?_) (fun hz=>?_)
       ·walk_at"rd"
        refine no ?_ _ sm
        have:Mt.first0 ds=false:=by
         rw[f0]
         simpa using hz
        simp only[Mt.histD,this,Bool.and_false]
       ·have hf:Mt.first0 ds=true:=by
         rw[f0]
         simpa using hz
        walk_at"rd"
        refine rd_slG (sm.tupS hq) ?_
        intro q H2 _ s2 hq2
        rw[cutV_tail]at hq2
        walk_at"rd"
        have sm2:Same H H2:=sm.trans s2
        refine⟨p,q,rfl,⟨xs,sm2.tupS hq⟩,⟨xs.drop 1,hq2⟩,?_⟩
        intro ac2 hac2 nka2
        refine comp_by (ds.length - 1) ?_ (fun i vs σc H'=>Same H2 H'∧(∃o1 o2,σc = [o1,o2])∧vs=(List.range i).map fun j=>V.bl (Mt.rise ds j)) ?_ ?_ ?_
        ·have:sizeLine=16777216:=rfl
         omega
        ·exact⟨(Same.refl H2).upd2 hac2,⟨none,none,rfl⟩,by simp⟩
        ·rintro i vs σc H3 hi hl3 ha3 ⟨s3,⟨o1,o2,rfl⟩,rfl⟩
         obtain⟨v1,a1,b1,f1,f2,r1,rfl,g1'⟩:=pairs i (by omega)
         obtain⟨v2,a2,b2,f3,f4,r2,rfl,g2'⟩:=pairs (i+1) (by omega)
         have f3':(xs.drop 1)[i]? = some (.ref r2):=by rw[List.getElem?_drop,Nat.add_comm];exact f3
         have m3:Same H H3:=sm2.trans s3
         refine⟨⟨xs,xs.drop 1,_,_,m3.tupS hq,s3.tupS hq2,f1,f3'⟩,?_⟩
         rintro x H4 ⟨t,y1,y2,ht,hy1,hy2,rfl,rfl⟩ R hR
         have ey1:=hy1 xs (m3.tupS hq)
         have ey2:=hy2 _ (s3.tupS hq2)
         rw[f1]at ey1;cases ey1
         rw[f3']at ey2;cases ey2
         have m4:Same H (upd H3 t (.tup [.ref r1,.ref r2])):=m3.trans (Same.upd ht)
         have k1:=m4.tupS g1'
         have k2:=m4.tupS g2'
         have nt:ac2≠t:=fun z=>by rw[z,ht]at ha3;cases ha3
         have ris:Mt.rise ds i=(decide (a1<a2) && decide (b1≤b2)):=by simp only[Mt.rise,f2,f4]
         have fin:∀b:Bool,Mt.rise ds i=b→R [some (.ref r1),some (.ref r2)] (.bl b) (upd H3 t (.tup [.ref r1,.ref r2])):=fun b e=>by
          refine hR _ _ _ (by rw[upd_ne nt];exact ha3) ⟨?_,⟨_,_,rfl⟩,?_⟩
          ·exact(s3.trans (Same.upd ht)).upd2 hac2
          ·rw[List.range_succ,List.map_append,← e];rfl
         walk_at"rd"
         refine rd_ite2 (fun hx=>?_) (fun hx=>?_)
         ·walk_at"rd"
          exact fin _ (by rw[ris,hx,Bool.true_and])
         ·exact fin _ (by rw[ris,hx,Bool.false_and])
        ·rintro vs σc H3 hl3 ha3 ⟨s3,_,rfl⟩
         have m3:Same H H3:=sm2.trans s3
         refine⟨⟨xs,xs.drop 1,m3.tupS hq,s3.tupS hq2,.inr (by rw[List.length_drop];omega)⟩,?_⟩
         walk_at"rd"
         have hbs2:SqL K H3 ac2 (((List.range (ds.length - 1)).map (Mt.rise ds)).map V.bl):=SqL.of (by rw[ha3,List.map_map];rfl)
         refine rd_all hbs2 ?_
         have:=k H3 m3
         rw[Mt.hist_of_begun l1 l2 hb hf]at this
         rw[List.all_map]
         exact this
   ·walk_at"rd"
    simp only[decide_eq_false_iff_not]at h1
    exact short (by omega)
  | _=>dsimp only[isTupD];walk_at"rd";exact k H (Same.refl H)
noncomputable def sp_require_history (K:PySem.W.Frag)(a:Adr):Sp:=fun vs H Q E=>∃(N:List Addr)(x:V)(d:PyData),vs = [x]∧Dt K N H x d∧(Mt.histD d=true→∀H',Same H H'→Q .non H')∧(Mt.histD d=false→∀H',Same H H'→E (.ref a.C_NoHistory) none H')
abbrev grequire_history (P:Program)(w:World)(K:PySem.W.Frag)(mg:Str→Option Value)(base:Heap)(a:Adr):Prop:=FnOk P w K mg base (CX1 P w) 6 a.f_require_history a.d_require_history ["thing"] (sp_require_history K a)
theorem ok_require_history (T:Txt P K mg a)(G17:gis_history P w K mg base a):grequire_history P w K mg base a:=by
 refine T.F_require_history.okX sc_require_history (fun vs H Q E h=>?_) (fun cdv A outer s H vs Q E hr h=>?_)
 ·obtain⟨N,x,d,rfl,_⟩:=h;rfl
 ·obtain⟨N,x,d,rfl,hd,k1,k2⟩:=h
  refine exW ⟨_,(qss_one (qs_if (pt_not (pt_val (qe_call G17 (hr.mono (by decide)) (by rfl) T.m_is_history T.k_is_history T.bd_is_history .nil pass0 (qa (pv 0) qa_nil)) (by intro _;rfl)))
    (qss_one (qs_raise0i px1 (by rfl) (hr.mono (by decide)) (by rfl) T.mC_NoHistory T.Z_NoHistory (by decide)))
    qss_nil)),?_⟩
  try dsimp only[cxOf]
  walk_at"rd"
  refine⟨N,x,d,rfl,hd,fun H1 s1=>?_⟩
  cases hh:Mt.histD d with
  | true =>
   walk_at"rd"
   exact k1 hh _ s1
  | false =>
   walk_at"rd"
   exact k2 hh _ s1
noncomputable def sp_require_place (K:PySem.W.Frag)(a:Adr):Sp:=fun vs H Q E=>∃(N:List Addr)(x:V)(d:PyData),vs = [x]∧Dt K N H x d∧(Mt.withinD 0 1000000 d=true→Q .non H)∧(Mt.withinD 0 1000000 d=false→∀dx,H dx=none→E (.ref a.C_NoPlace) (some dx) (upd H dx (.xd [("place",x)])))
abbrev grequire_place (P:Program)(w:World)(K:PySem.W.Frag)(mg:Str→Option Value)(base:Heap)(a:Adr):Prop:=FnOk P w K mg base (CX1 P w) 4 a.f_require_place a.d_require_place ["thing"] (sp_require_place K a)
theorem ok_require_place (T:Txt P K mg a)(G5:gis_place P w K mg base a):grequire_place P w K mg base a:=by
 refine T.F_require_place.okX sc_require_place (fun vs H Q E h=>?_) (fun cdv A outer s H vs Q E hr h=>?_)
 ·obtain⟨N,x,d,rfl,_⟩:=h;rfl
 ·obtain⟨N,x,d,rfl,hd,k1,k2⟩:=h
  refine exW ⟨_,(qss_one (qs_if (pt_not (pt_val (qe_call G5 (hr.mono (by decide)) (by rfl) T.m_is_place T.k_is_place T.bd_is_place .nil pass0 (qa (pv 0) qa_nil)) (by intro _;rfl)))
    (qss_one (qs_raise1 px1 (by rfl) (hr.mono (by decide)) (by rfl) T.mC_NoPlace T.Z_NoPlace (qa (pv 0) qa_nil) (by rfl) (by decide)))
    qss_nil)),?_⟩
  try dsimp only[cxOf]
  walk_at"rd"
  refine⟨N,x,d,rfl,hd,?_⟩
  cases hh:Mt.withinD 0 1000000 d with
  | true =>
   walk_at"rd"
   exact k1 hh
  | false =>
   walk_at"rd"
   exact⟨_,rfl,k2 hh⟩
noncomputable def sp_extended (K:PySem.W.Frag)(a:Adr):Sp:=fun vs H Q E=>∃(N M:List Addr)(v u:V)(e:PyData)(w:Int)(hs:List (Int×Int))(ll lf:Int),vs = [v,u,.int w]∧Dt K N H v (.tuple ((hs ++ [(ll,lf)]).map Mt.pr))∧Mt.HOK (hs ++ [(ll,lf)])∧(∀b∈N,H b≠none)∧Dt K M H u e∧lf≤w∧w≤1000000 ∧
  ((Mt.withinD (ll+1) 1000000000 e=false∧∀H' dx,Same H H'→H' dx=none→E (.ref a.C_NoCount) (some dx) (upd H' dx (.xd [("what",.str (Str.ofString "line"))]))) ∨
   (∃ui:Int,e = .int ui∧ll<ui∧ui≤1000000000∧hs.length+1=60∧∀H' dx,Same H H'→H' dx=none→E (.ref a.C_Full) (some dx) (upd H' dx (.xd [("what",.str (Str.ofString "lines"))]))) ∨
   (∃ui:Int,e = .int ui∧ll<ui∧ui≤1000000000∧hs.length+1≠60∧∀q H',Same H H'→Dt K N H' (.ref q) (.tuple ((hs ++ [(ll,lf),(ui,w)]).map Mt.pr))→Q (.ref q) H'))
abbrev gextended (P:Program)(w:World)(K:PySem.W.Frag)(mg:Str→Option Value)(base:Heap)(a:Adr):Prop:=FnOk P w K mg base (CX1 P w) 7 a.f_extended a.d_extended ["history","line","fork"] (sp_extended K a)
theorem ok_extended (T:Txt P K mg a)(G0:gis_within P w K mg base a)(G6:grequire_history P w K mg base a):gextended P w K mg base a:=by
 refine T.F_extended.okX sc_extended (fun vs H Q E h=>?_) (fun cdv A outer s H vs Q E hr h=>?_)
 ·obtain⟨N,M,v,u,e,w,hs,ll,lf,rfl,_⟩:=h;rfl
 ·obtain⟨N,M,v,u,e,w',hs,ll,lf,rfl,hd,ho,hN,he,w0,w1,k⟩:=h
  refine exW ⟨_,(qss_cons (qs_expr (qe_callX G6 (hr.mono (by decide)) (by rfl) T.m_require_history T.k_require_history T.bd_require_history .nil px1 (qa (pv 0) qa_nil)))
   (qss_cons (qs_asg (pe_ix ix_tup (pv 0) (pe_un un_neg pe_int) (fun _ _=>rfl)) (pg_tup (n:=2) rfl (pgs_cons (pg_name (i:=3) sc_extended.nd rfl (Or.inl rfl)) (pgs_cons (pg_name (i:=4) sc_extended.nd rfl (Or.inl rfl)) pgs_nil))))
   (qss_cons (qs_if (pt_not (pt_val (qe_call G0 (hr.mono (by decide)) (by rfl) T.m_is_within T.k_is_within T.bd_is_within .nil pass0 (qa (pv 1) (qa (pe_op op_add (pv 3) pe_int) (qa (pe_glob (by rfl) T.c_LAST_LINE.1 T.c_LAST_LINE.2) qa_nil)))) (by intro _;rfl)))
    (qss_one (qs_raise1 px1 (by rfl) (hr.mono (by decide)) (by rfl) T.mC_NoCount T.Z_NoCount (qa pe_str qa_nil) (by rfl) (by decide)))
    qss_nil)
   (qss_cons (qs_if (pt_not (pt_val (qe_call G0 (hr.mono (by decide)) (by rfl) T.m_is_within T.k_is_within T.bd_is_within .nil pass0 (qa (pv 2) (qa (pv 4) (qa (pe_glob (by rfl) T.c_LAST_PLACE.1 T.c_LAST_PLACE.2) qa_nil)))) (by intro _;rfl)))
    (qss_one (qs_raise1 px1 (by rfl) (hr.mono (by decide)) (by rfl) T.mC_NoCount T.Z_NoCount (qa pe_str qa_nil) (by rfl) (by decide)))
    qss_nil)
   (qss_cons (qs_if (pt_cmpR op_eq (qe_callB cn_len (by rfl) T.b_len (by decide +kernel) (qa (pv 0) qa_nil)) (pe_glob (by rfl) T.c_LINES.1 T.c_LINES.2) (nomark _))
    (qss_one (qs_raise1 px1 (by rfl) (hr.mono (by decide)) (by rfl) T.mC_Full T.Z_Full (qa pe_str qa_nil) (by rfl) (by decide)))
    qss_nil)
   (qss_one (qs_ret (qe_tupA (qa_star (pv 0) (qa (qe_tupA (qa (pv 1) (qa (pv 2) qa_nil))) qa_nil)))))))))),?_⟩
  try dsimp only[cxOf]
  walk_at"rq"
  refine⟨N,v,_,rfl,hd,fun _ H1 s1=>?_,fun z=>(by rw[ho.hist]at z;cases z)⟩
  have hd1:=hd.ext (Ext.same s1)
  have he1:=he.ext (Ext.same s1)
  have hb:=ho.bound (ll,lf) (by simp)
  dsimp only at hb
  obtain⟨hp,xs,rfl,hn,hq,hr⟩:=dt_tupN hd1
  have hr':=hr
  rw[List.map_append,List.map_cons,List.map_nil]at hr'
  obtain⟨ws,y,rfl,r1,r2⟩:=DtAll.snoc hr'
  obtain⟨q,rfl,hq2,_⟩:=Dt.pair r2
  have hl:=r1.length
  rw[List.length_map]at hl
  have fr:∀ {H':Hp}{q:Addr},Same H H'→H' q=none→q∉N:=fun {H' q} s e z=>by
   cases h:H q with
   | none=>exact hN q z h
   | some o=>rw[s _ _ h]at e;cases e
  walk_at"rq"
  refine rd_ixT hq (atI_last ws _) ?_
  walk_at"rq"
  refine⟨M,u,e,ll+1,1000000000,rfl,he1,?_⟩
  rcases k with ⟨h1,k⟩ |k
  ·rw[h1]
   walk_at"rq"
   exact⟨_,rfl,fun dx hdx=>k _ dx s1 hdx⟩
  obtain⟨ui,rfl,u0,u1,k⟩:∃ui:Int,e = .int ui∧ll<ui∧ui≤1000000000∧((hs.length+1=60∧∀H' dx,Same H H'→H' dx=none→E (.ref a.C_Full) (some dx) (upd H' dx (.xd [("what",.str (Str.ofString "lines"))])))∨(hs.length+1≠60∧∀q H',Same H H'→Dt K N H' (.ref q) (.tuple ((hs ++ [(ll,lf),(ui,w')]).map Mt.pr))→Q (.ref q) H')):=by
   rcases k with ⟨ui,a1,a2,a3,a4⟩ | ⟨ui,a1,a2,a3,a4⟩
   ·exact⟨ui,a1,a2,a3,.inl a4⟩
   ·exact⟨ui,a1,a2,a3,.inr a4⟩
  obtain rfl:=he1.ref_int
  rw[show Mt.withinD (ll+1) 1000000000 (.int ui)=true by simp[Mt.withinD];omega]
  walk_at"rq"
  refine⟨N,_,.int w',lf,1000000,rfl,.int w',?_⟩
  rw[show Mt.withinD lf 1000000 (.int w')=true by simp[Mt.withinD];omega]
  walk_at"rq"
  rcases k with ⟨n60,k⟩ | ⟨n60,k⟩
  ·rw[decide_eq_true (show V.int ((ws ++ [V.ref q]).length:Int)=V.int 60 by rw[List.length_append,List.length_singleton,hl,n60];rfl)]
   refine rd_iteT ?_
   walk_at"rq"
   exact⟨_,rfl,fun dx hdx=>k _ dx s1 hdx⟩
  ·rw[decide_eq_false (fun z=>by have:=V.int.inj z;rw[List.length_append,List.length_singleton,hl]at this;omega)]
   refine rd_iteF ?_
   walk_at"rq"
   refine⟨hp,_,rfl,hq,?_⟩
   walk_at"rq"
   refine⟨sz (by simp),fun p1 H2 n2 s2 e2=>?_⟩
   walk_at"rq"
   have l60:hs.length+1≤60:=by simpa using ho.len2
   refine⟨sz (by simp only[List.length_append,List.length_cons,List.length_nil];omega),fun p2 H3 n3 s3 e3=>?_⟩
   have s13:=s2.trans s3
   have np1:=fr s1 n2
   have np2:=fr (s1.trans s2) n3
   refine k p2 H3 (s1.trans s13) ?_
   rw[show hs ++ [(ll,lf),(ui,w')]=(hs ++ [(ll,lf)]) ++ [(ui,w')]by simp,List.map_append]
   exact .tup (SqT.of e3) np2 (DtAll.append (hr.ext (Ext.same s13)) (.cons (.tup (SqT.of (s3 _ _ e2)) np1 (.cons (.int _) (.cons (.int _) .nil))) .nil))
noncomputable def sp_is_key (K:PySem.W.Frag):Sp:=fun vs H Q _=>∃(N:List Addr)(x:V)(d:PyData),vs = [x]∧Dt K N H x d∧d.weight≤1000000∧∀H',Same H H'→Q (.bl (Mt.keyD d)) H'
abbrev gis_key (P:Program)(w:World)(K:PySem.W.Frag)(mg:Str→Option Value)(base:Heap)(a:Adr):Prop:=FnOk P w K mg base CX0 1 a.f_is_key a.d_is_key ["thing"] (sp_is_key K)
theorem ok_is_key (T:Txt P K mg a)  : gis_key P w K mg base a:=by
 refine T.F_is_key.ok sc_is_key (fun vs H Q E h=>?_) (fun cdv A outer s H vs Q E hr h=>?_)
 ·obtain⟨N,x,d,rfl,_⟩:=h;rfl
 ·obtain⟨N,x,d,rfl,hd,hw,k⟩:=h
  refine exW ⟨_,(qss_cons (qs_if (pw_or (pt_not (pt_val (qe_callB cn_isi (by rfl) T.b_isinstance (by decide +kernel) (qa (pv 0) (qa (pe_bltn (by rfl) T.b_str (by decide +kernel) (v:=.ty "str") rfl) qa_nil))) (by intro _;rfl))) (pw_or1 (pt_not (pt_chain op_le op_le pe_int (qe_callB cn_lenS (by rfl) T.b_len (by decide +kernel) (qa (pv 0) qa_nil)) (pe_glob (by rfl) T.c_LONGEST_KEY.1 T.c_LONGEST_KEY.2) (by with_unfolding_all rfl))))).pt
    (qss_one (qs_ret pe_bl))
    qss_nil)
   (qss_one (qs_ret (qe_callB (cn_all (by rfl)) (by rfl) T.b_all (by decide +kernel) (qa (by
    refine' pe_comp (NC:=["letter"]) (fr:=[none]) ?B3 rfl ?hi3 ?hg3 ?ht3 ?he3 (by intro _;rfl)
    case B3=>exact⟨rfl,rfl,by decide +kernel,by decide +kernel,rfl,⟨trivial,trivial⟩⟩
    case hi3=>exact(pi_str (pv 0))
    case hg3=>intro _ _ _;exact(pg_name (i:=0) (show (["letter"]:List Str).Nodup by decide +kernel) rfl (Or.inl rfl))
    case ht3=>intro _ _ _;exact pf_nil
    case he3=>intro _ _ _;exact(pe_chain on_leS on_leS pe_str (pv 0) pe_str (by with_unfolding_all rfl))) qa_nil))))),?_⟩
  try dsimp only[cxOf]
  have k0:=k H (Same.refl H)
  walk_at"rd"
  cases hd with
  | str z =>
   have hz:z.length≤sizeLine:=by
    have e:(PyData.str z).weight=z.length:=rfl
    have:sizeLine=16777216:=rfl
    omega
   dsimp only[isStrD]
   walk_at"rd"
   have short:¬ (1≤z.length∧z.length≤12)→Q (.bl false) H:=fun hs=>by
    have e:Mt.keyD (.str z)=false:=by
     simp only[Mt.keyD,Bool.and_eq_false_iff,decide_eq_false_iff_not]
     omega
    rwa [e]at k0
   refine rd_ite2 (fun h1=>?_) (fun h1=>?_)
   ·walk_at"rd"
    refine rd_ite2 (fun h2=>?_) (fun h2=>?_)
    ·simp only[Bool.not_eq_true',decide_eq_false_iff_not]at h2
     walk_at"rd"
     exact short (by omega)
    ·have g1:=of_decide_eq_true h1
     simp only[Bool.not_eq_false',decide_eq_true_eq]at h2
     have l1:1≤z.length:=by omega
     have l2:z.length≤12:=by omega
     have lz:z.length=z.cps.toList.length:=by simp[Str.length]
     walk_at"rd"
     refine⟨z,rfl,?_⟩
     intro acc hacc nka
     refine comp_by z.length ?_ (fun i vs σc H'=>Same H H'∧(∃o,σc = [o])∧vs=(z.cps.toList.take i).map fun c=>V.bl (lowC c)) ?_ ?_ ?_
     ·have:sizeLine=16777216:=rfl
      omega
     ·exact⟨(Same.refl H).upd2 hacc,⟨none,rfl⟩,by simp⟩
     ·rintro i vs σc H' hi hl ha ⟨sm,⟨o,rfl⟩,rfl⟩
      refine⟨hi,?_⟩
      rintro x H2 ⟨rfl,c,hc,rfl⟩ R hR
      have fin:∀b:Bool,lowC c=b→R [some (.str (sgn c))] (.bl b) H2:=fun b e=>by
       refine hR _ _ _ ha ⟨sm.upd2 hacc,⟨_,rfl⟩,?_⟩
       rw[List.take_add_one,show z.cps.toList[i]? = some c by rw[← hc];simp,← e]
       simp
      walk_at"rd"
      rw[ltS_a]
      refine rd_ite2 (fun hx=>?_) (fun hx=>?_)
      ·walk_at"rd"
       rw[ltS_z]
       simp only[Bool.not_eq_true',decide_eq_false_iff_not]at hx
       refine fin _ ?_
       unfold lowC
       rw[decide_eq_true (by omega),Bool.true_and]
       by_cases h9:c≤122
       ·rw[decide_eq_true h9,decide_eq_false (by omega)];rfl
       ·rw[decide_eq_false h9,decide_eq_true (by omega)];rfl
      ·simp only[Bool.not_eq_false',decide_eq_true_eq]at hx
       refine fin _ ?_
       unfold lowC
       rw[decide_eq_false (by omega),Bool.false_and]
     ·rintro vs σc H' hl ha ⟨sm,_,rfl⟩
      refine⟨rfl,?_⟩
      rw[lz,List.take_length]at ha
      have hbs:SqL K H' acc ((z.cps.toList.map lowC).map V.bl):=SqL.of (by rw[ha,List.map_map];rfl)
      walk_at"rd"
      refine rd_all hbs ?_
      have eall:(z.cps.toList.map lowC).all id=z.cps.toList.all lowC:=by rw[List.all_map];rfl
      rw[eall]
      have k1:=k H' sm
      have e:Mt.keyD (.str z)=z.cps.toList.all lowC:=by
       rw[Mt.keyD_s,decide_eq_true l1,decide_eq_true l2];rfl
      rwa [e]at k1
   ·walk_at"rd"
    simp only[decide_eq_false_iff_not]at h1
    exact short (by omega)
  | _=>dsimp only[isStrD];walk_at"rd";exact k0
noncomputable def sp_is_value (K:PySem.W.Frag):Sp:=fun vs H Q _=>∃(N:List Addr)(x:V)(d:PyData),vs = [x]∧Dt K N H x d∧Q (.bl (Mt.withinD (-1000000000000000000) 1000000000000000000 d)) H
abbrev gis_value (P:Program)(w:World)(K:PySem.W.Frag)(mg:Str→Option Value)(base:Heap)(a:Adr):Prop:=FnOk P w K mg base CX0 3 a.f_is_value a.d_is_value ["thing"] (sp_is_value K)
theorem ok_is_value (T:Txt P K mg a)(G0:gis_within P w K mg base a):gis_value P w K mg base a:=by
 refine T.F_is_value.ok sc_is_value (fun vs H Q E h=>?_) (fun cdv A outer s H vs Q E hr h=>?_)
 ·obtain⟨N,x,d,rfl,_⟩:=h;rfl
 ·obtain⟨N,x,d,rfl,hd,k⟩:=h
  refine exW ⟨_,(qss_one (qs_ret (qe_call G0 (hr.mono (by decide)) (by rfl) T.m_is_within T.k_is_within T.bd_is_within .nil pass0 (qa (pv 0) (qa (pe_un un_neg (pe_glob (by rfl) T.c_MOST.1 T.c_MOST.2)) (qa (pe_glob (by rfl) T.c_MOST.1 T.c_MOST.2) qa_nil)))))),?_⟩
  try dsimp only[cxOf]
  walk_at"rd"
  exact⟨N,x,d,-1000000000000000000,1000000000000000000,rfl,hd,k⟩
noncomputable def sp_is_word (K:PySem.W.Frag):Sp:=fun vs H Q _=>∃(N:List Addr)(x:V)(d:PyData)(w:Str),vs = [x,.str w]∧Dt K N H x d∧Q (.bl (Mt.strEq w d)) H
abbrev gis_word (P:Program)(w:World)(K:PySem.W.Frag)(mg:Str→Option Value)(base:Heap)(a:Adr):Prop:=FnOk P w K mg base CX0 1 a.f_is_word a.d_is_word ["thing","word"] (sp_is_word K)
theorem ok_is_word (T:Txt P K mg a)  : gis_word P w K mg base a:=by
 refine T.F_is_word.ok sc_is_word (fun vs H Q E h=>?_) (fun cdv A outer s H vs Q E hr h=>?_)
 ·obtain⟨N,x,d,w,rfl,_⟩:=h;rfl
 ·obtain⟨N,x,d,w,rfl,hd,k⟩:=h
  refine exW ⟨_,(qss_one (qs_ret (pe_and (qe_callB cn_isi (by rfl) T.b_isinstance (by decide +kernel) (qa (pv 0) (qa (pe_bltn (by rfl) T.b_str (by decide +kernel) (v:=.ty "str") rfl) qa_nil))) (pe_one (pe_cmpR op_eq (pv 0) (pv 1) (nomark _)))))),?_⟩
  try dsimp only[cxOf]
  walk_at"rd"
  cases hd with
  | str s =>
   dsimp only[isStrD]
   walk_at"rd"
   have e:decide (V.str s=V.str w)=Mt.strEq w (.str s):=by
    show _=decide (s=w)
    by_cases h:s=w
    ·subst h;simp
    ·simp[h]
   rw[e]
   exact k
  | _=>dsimp only[isStrD];walk_at"rd";exact k
noncomputable def sp_is_set (K:PySem.W.Frag):Sp:=fun vs H Q _=>∃(N:List Addr)(x:V)(ds:List PyData),vs = [x]∧Dt K N H x (.tuple ds)∧(PyData.tuple ds).weight≤1000000∧∀H',Same H H'→Q (.bl (Mt.setL ds)) H'
abbrev gis_set (P:Program)(w:World)(K:PySem.W.Frag)(mg:Str→Option Value)(base:Heap)(a:Adr):Prop:=FnOk P w K mg base CX0 4 a.f_is_set a.d_is_set ["thing"] (sp_is_set K)
theorem ok_is_set (T:Txt P K mg a)(G7:gis_key P w K mg base a)(G18:gis_value P w K mg base a)(G8:gis_word P w K mg base a):gis_set P w K mg base a:=by
 refine T.F_is_set.ok sc_is_set (fun vs H Q E h=>?_) (fun cdv A outer s H vs Q E hr h=>?_)
 ·obtain⟨N,x,ds,rfl,_⟩:=h;rfl
 ·obtain⟨N,x,ds,rfl,hd,hw,k⟩:=h
  refine exW ⟨_,(qss_one (qs_ret (pe_and (pe_cmpR op_eq (qe_callB cn_len (by rfl) T.b_len (by decide +kernel) (qa (pv 0) qa_nil)) pe_int (nomark _)) (pe_and (qe_call G8 (hr.mono (by decide)) (by rfl) T.m_is_word T.k_is_word T.bd_is_word .nil pass0 (qa (pe_ix ix_tup (pv 0) pe_int (fun _ _=>rfl)) (qa pe_str qa_nil))) (pe_and (qe_call G7 (hr.mono (by decide)) (by rfl) T.m_is_key T.k_is_key T.bd_is_key .nil pass0 (qa (pe_ix ix_tup (pv 0) pe_int (fun _ _=>rfl)) qa_nil)) (pe_one (qe_call G18 (hr.mono (by decide)) (by rfl) T.m_is_value T.k_is_value T.bd_is_value .nil pass0 (qa (pe_ix ix_tup (pv 0) pe_int (fun _ _=>rfl)) qa_nil)))))))),?_⟩
  try dsimp only[cxOf]
  have k0:=k H (Same.refl H)
  obtain⟨b,ys,rfl,q,r⟩:=dt_tuple hd
  have ly:=r.length
  walk_at"rq"
  by_cases hl:ys.length=3
  ·rw[show decide (V.int (ys.length:Int)=V.int 3)=true from decide_eq_true (by rw[hl];rfl)]
   obtain⟨y1,y2,y3,e1,e2,e3,rfl,rfl,r1,r2,r3⟩:=dt_3 r hl
   refine rd_iteT ?_
   walk_at"rq"
   refine⟨N,y1,e1,_,rfl,r1,?_⟩
   simp only[Mt.setL_3]at k k0
   cases h1:Mt.strEq "set" e1 with
   | false=>rw[h1]at k0;refine⟨_,rfl,?_⟩;refine rd_iteF ?_;exact k0
   | true =>
    refine⟨_,rfl,?_⟩
    refine rd_iteT ?_
    walk_at"rq"
    refine⟨N,y2,e2,rfl,r2,PyData.wt_at (i:=1) rfl hw,fun H1 s1=>?_⟩
    cases h2:Mt.keyD e2 with
    | false=>
     have k1:=k H1 s1
     rw[h1,h2]at k1;refine⟨_,rfl,?_⟩;refine rd_iteF ?_;exact k1
    | true =>
     refine⟨_,rfl,?_⟩
     refine rd_iteT ?_
     have q:=s1.tupS q
     walk_at"rq"
     refine⟨N,y3,e3,rfl,r3.ext (Ext.same s1),?_⟩
     have k1:=k H1 s1
     rw[h1,h2]at k1
     exact k1
  ·rw[show decide (V.int (ys.length:Int)=V.int 3)=false from decide_eq_false (fun z=>hl (by injection z with z;omega))]
   refine rd_iteF ?_
   rw[Mt.setL_len (by omega)]at k0
   exact k0
noncomputable def sp_is_cut (K:PySem.W.Frag):Sp:=fun vs H Q _=>∃(N:List Addr)(x:V)(ds:List PyData),vs = [x]∧Dt K N H x (.tuple ds)∧(PyData.tuple ds).weight≤1000000∧∀H',Same H H'→Q (.bl (Mt.cutL ds)) H'
abbrev gis_cut (P:Program)(w:World)(K:PySem.W.Frag)(mg:Str→Option Value)(base:Heap)(a:Adr):Prop:=FnOk P w K mg base CX0 2 a.f_is_cut a.d_is_cut ["thing"] (sp_is_cut K)
theorem ok_is_cut (T:Txt P K mg a)(G7:gis_key P w K mg base a)(G8:gis_word P w K mg base a):gis_cut P w K mg base a:=by
 refine T.F_is_cut.ok sc_is_cut (fun vs H Q E h=>?_) (fun cdv A outer s H vs Q E hr h=>?_)
 ·obtain⟨N,x,ds,rfl,_⟩:=h;rfl
 ·obtain⟨N,x,ds,rfl,hd,hw,k⟩:=h
  refine exW ⟨_,(qss_one (qs_ret (pe_and (pe_cmpR op_eq (qe_callB cn_len (by rfl) T.b_len (by decide +kernel) (qa (pv 0) qa_nil)) pe_int (nomark _)) (pe_and (qe_call G8 (hr.mono (by decide)) (by rfl) T.m_is_word T.k_is_word T.bd_is_word .nil pass0 (qa (pe_ix ix_tup (pv 0) pe_int (fun _ _=>rfl)) (qa pe_str qa_nil))) (pe_one (qe_call G7 (hr.mono (by decide)) (by rfl) T.m_is_key T.k_is_key T.bd_is_key .nil pass0 (qa (pe_ix ix_tup (pv 0) pe_int (fun _ _=>rfl)) qa_nil))))))),?_⟩
  try dsimp only[cxOf]
  have k0:=k H (Same.refl H)
  obtain⟨b,ys,rfl,q,r⟩:=dt_tuple hd
  have ly:=r.length
  walk_at"rq"
  by_cases hl:ys.length=2
  ·rw[show decide (V.int (ys.length:Int)=V.int 2)=true from decide_eq_true (by rw[hl];rfl)]
   obtain⟨y1,y2,e1,e2,rfl,rfl,r1,r2⟩:=dt_2 r hl
   refine rd_iteT ?_
   walk_at"rq"
   refine⟨N,y1,e1,_,rfl,r1,?_⟩
   simp only[Mt.cutL_2]at k k0
   cases h1:Mt.strEq "cut" e1 with
   | false=>rw[h1]at k0;refine⟨_,rfl,?_⟩;refine rd_iteF ?_;exact k0
   | true =>
    refine⟨_,rfl,?_⟩
    refine rd_iteT ?_
    walk_at"rq"
    refine⟨N,y2,e2,rfl,r2,PyData.wt_at (i:=1) rfl hw,fun H1 s1=>?_⟩
    have k1:=k H1 s1
    rw[h1]at k1
    exact k1
  ·rw[show decide (V.int (ys.length:Int)=V.int 2)=false from decide_eq_false (fun z=>hl (by injection z with z;omega))]
   refine rd_iteF ?_
   rw[Mt.cutL_len (by omega)]at k0
   exact k0
noncomputable def sp_is_row (K:PySem.W.Frag):Sp:=fun vs H Q _=>∃(N:List Addr)(x:V)(d:PyData),vs = [x]∧Dt K N H x d∧d.weight≤1000000∧∀H',Same H H'→Q (.bl (Mt.rowD d)) H'
abbrev gis_row (P:Program)(w:World)(K:PySem.W.Frag)(mg:Str→Option Value)(base:Heap)(a:Adr):Prop:=FnOk P w K mg base CX0 5 a.f_is_row a.d_is_row ["thing"] (sp_is_row K)
theorem ok_is_row (T:Txt P K mg a)(G19:gis_cut P w K mg base a)(G20:gis_set P w K mg base a):gis_row P w K mg base a:=by
 refine T.F_is_row.ok sc_is_row (fun vs H Q E h=>?_) (fun cdv A outer s H vs Q E hr h=>?_)
 ·obtain⟨N,x,d,rfl,_⟩:=h;rfl
 ·obtain⟨N,x,d,rfl,hd,hw,k⟩:=h
  refine exW ⟨_,(qss_one (qs_ret (pe_and (qe_callB cn_isi (by rfl) T.b_isinstance (by decide +kernel) (qa (pv 0) (qa (pe_bltn (by rfl) T.b_tuple (by decide +kernel) (v:=.ty "tuple") rfl) qa_nil))) (pe_one (pe_or (qe_call G20 (hr.mono (by decide)) (by rfl) T.m_is_set T.k_is_set T.bd_is_set .nil pass0 (qa (pv 0) qa_nil)) (pe_one (qe_call G19 (hr.mono (by decide)) (by rfl) T.m_is_cut T.k_is_cut T.bd_is_cut .nil pass0 (qa (pv 0) qa_nil)))))))),?_⟩
  try dsimp only[cxOf]
  have k0:=k H (Same.refl H)
  walk_at"rq"
  cases ht:isTupD d with
  | false =>
   rw[Mt.rowD_tup ht]at k0
   exact k0
  | true =>
   obtain⟨es,rfl⟩:=Mt.tup_of ht
   refine rd_iteT ?_
   walk_at"rq"
   refine⟨N,x,es,rfl,hd,hw,fun H1 s1=>?_⟩
   have k1:=k H1 s1
   rw[Mt.rowD_t]at k1
   cases h1:Mt.setL es with
   | true=>rw[h1]at k1;refine⟨_,rfl,?_⟩;refine rd_iteT ?_;exact k1
   | false =>
    refine⟨_,rfl,?_⟩
    refine rd_iteF ?_
    walk_at"rq"
    refine⟨N,x,es,rfl,hd.ext (Ext.same s1),hw,fun H2 s2=>?_⟩
    have k2:=k H2 (s1.trans s2)
    rw[Mt.rowD_t]at k2
    rw[h1]at k2
    exact k2
noncomputable def sp_Log_init (K:PySem.W.Frag)(a:Adr):Sp:=fun vs H Q E=>∃(p dx:Addr)(N:List Addr)(hv fv:V)(d e:PyData),vs = [.ref p,hv,fv]∧H p=some (.ins a.C_Log dx [])∧p∈N∧Dt K N H hv d∧Dt K N H fv e ∧
  ((Mt.histD d=false∧∀H',Same H H'→E (.ref a.C_NoHistory) none H') ∨
   (Mt.histD d=true∧Mt.withinD 0 1000000 e=false∧∀(H1:Hp) dx,Same H H1→H1 dx=none→E (.ref a.C_NoPlace) (some dx) (upd H1 dx (.xd [("place",fv)]))) ∨
   (∃(hs:List (Int×Int)) (fl:Int),d = .tuple (hs.map Mt.pr)∧Mt.HOK hs∧fv = .int fl∧e = .int fl∧0≤fl∧fl≤1000000∧∀(ra:Addr) (H':Hp),H ra=none→K.lookup ra=none→LgAt K N a.C_Log H' p hv hs fl ra [] []→(∀b o,H b=some o→b≠p→H' b=some o)→Q .non H'))
abbrev gLog_init (P:Program)(w:World)(K:PySem.W.Frag)(mg:Str→Option Value)(base:Heap)(a:Adr):Prop:=FnOk P w K mg base (CX1 P w) 7 a.f_Log_init a.d_Log_init ["self","history","floor"] (sp_Log_init K a)
theorem ok_Log_init (T:Txt P K mg a)(G6:grequire_history P w K mg base a)(G21:grequire_place P w K mg base a):gLog_init P w K mg base a:=by
 refine T.F_Log_init.okX sc_Log_init (fun vs H Q E h=>?_) (fun cdv A outer s H vs Q E hr h=>?_)
 ·obtain⟨p,dx,N,hv,fv,d,e,rfl,_⟩:=h;rfl
 ·obtain⟨p,dx,N,hv,fv,d,e,rfl,hp,hpN,hd,he,k⟩:=h
  refine exW ⟨_,(qss_cons (qs_expr (qe_callX G6 (hr.mono (by decide)) (by rfl) T.m_require_history T.k_require_history T.bd_require_history .nil px1 (qa (pv 1) qa_nil)))
   (qss_cons (qs_expr (qe_callX G21 (hr.mono (by decide)) (by rfl) T.m_require_place T.k_require_place T.bd_require_place .nil px1 (qa (pv 2) qa_nil)))
   (qss_cons (qs_fld (pv 0) (pv 1) (by rfl))
   (qss_cons (qs_fld (pv 0) (pv 2) (by rfl))
   (qss_one (qs_fld (pv 0) (qe_lstK qa_nil) (by rfl))))))),?_⟩
  try dsimp only[cxOf]
  walk_at"rq"
  rcases k with ⟨hh,k⟩ | ⟨hh,hw,k⟩ | ⟨hs,fl,rfl,ho,rfl,rfl,f0,f1,k⟩
  ·exact⟨N,hv,d,rfl,hd,fun z=>(by rw[hh]at z;cases z),fun _ H1 s1=>k _ s1⟩
  ·refine⟨N,hv,d,rfl,hd,fun _ H1 s1=>?_,fun z=>(by rw[hh]at z;cases z)⟩
   walk_at"rq"
   exact⟨N,fv,e,rfl,he.ext (Ext.same s1),fun z=>(by rw[hw]at z;cases z),fun _ dx2 n2=>k H1 dx2 s1 n2⟩
  ·refine⟨N,hv,_,rfl,hd,fun _ H1 s1=>?_,fun z=>(by rw[ho.hist]at z;cases z)⟩
   have hp1:=s1 _ _ hp
   have hd1:=hd.ext (Ext.same s1)
   walk_at"rq"
   refine⟨N,_,.int fl,rfl,.int fl,fun _=>?_,fun z=>(by simp[Mt.withinD]at z;omega)⟩
   walk_at"rq"
   refine⟨p,_,dx,_,rfl,hp1,T.cl_Log,T.na_Log_past,by decide,?_⟩
   walk_at"rq"
   refine⟨p,_,dx,_,rfl,upd_same,T.cl_Log,T.na_Log_cut_off,by simp[putF],?_⟩
   walk_at"rq"
   refine⟨sz (by simp),fun ra H2 hra kra s2 g2=>?_⟩
   have hx:∀ {b:Addr}{o:HO},H1 b=some o→b≠p→(upd (upd H1 p (.ins a.C_Log dx (putF "past" hv []))) p (.ins a.C_Log dx (putF "cut_off" (.int fl) (putF "past" hv [])))) b=some o:=fun {b o} e n=>by rw[upd_ne n,upd_ne n];exact e
   have hra1:H1 ra=none:=by
    cases e:H1 ra with
    | none=>rfl
    | some u =>
     by_cases z:ra=p
     ·rw[z,upd_same]at hra;cases hra
     ·rw[hx e z]at hra;cases hra
   have hra0:H ra=none:=by
    cases e:H ra with
    | none=>rfl
    | some u=>rw[s1 _ _ e]at hra1;cases hra1
   have n1:p≠ra:=ne_of_none hp1 hra1
   walk_at"rq"
   refine⟨p,_,dx,_,rfl,s2 _ _ upd_same,T.cl_Log,T.na_Log_kept_rows,by simp only[putF];split <;> simp,?_⟩
   have x:Ext N H1 (upd H2 p (.ins a.C_Log dx (loF hv fl ra))):=fun b o e n=>by
    have nb:b≠p:=fun z=>n (by rw[z];exact hpN)
    rw[upd_ne nb];exact s2 _ _ (hx e nb)
   refine k ra _ hra0 kra ⟨⟨dx,upd_same⟩,hd1.ext x,ho,by rw[upd_ne n1.symm];exact g2,.nil,by simp,f0,f1,by simp⟩ fun b o e hb=>?_
   rw[upd_ne hb]
   exact s2 _ _ (hx (s1 _ _ e) hb)
noncomputable def sp_Log_end (K:PySem.W.Frag)(a:Adr):Sp:=fun vs H Q _=>∃(N:List Addr)(p:Addr)(hv:V)(hs:List (Int×Int))(fl:Int)(ra:Addr)(ws:List V)(ds:List PyData),vs = [.ref p]∧LgAt K N a.C_Log H p hv hs fl ra ws ds∧Q (.int (fl+ds.length)) H
abbrev gLog_end (P:Program)(w:World)(K:PySem.W.Frag)(mg:Str→Option Value)(base:Heap)(a:Adr):Prop:=FnOk P w K mg base CX0 1 a.f_Log_end a.d_Log_end ["self"] (sp_Log_end K a)
theorem ok_Log_end (T:Txt P K mg a)  : gLog_end P w K mg base a:=by
 refine T.F_Log_end.ok sc_Log_end (fun vs H Q E h=>?_) (fun cdv A outer s H vs Q E hr h=>?_)
 ·obtain⟨N,p,hv,hs,fl,ra,ws,ds,rfl,_⟩:=h;rfl
 ·obtain⟨N,p,hv,hs,fl,ra,ws,ds,rfl,L,k⟩:=h
  obtain⟨dx,h1⟩:=L.ob
  refine exW ⟨_,(qss_one (qs_ret (pe_op op_add (pe_fld (pv 0) (by rfl)) (qe_callB cn_len (by rfl) T.b_len (by decide +kernel) (qa (pe_fld (pv 0) (by rfl)) qa_nil))))),?_⟩
  try dsimp only[cxOf]
  walk_at"rq"
  refine⟨p,_,dx,_,_,rfl,h1,T.cl_Log,T.na_Log_cut_off,loF_c,?_⟩
  walk_at"rq"
  refine⟨p,_,dx,_,_,rfl,h1,T.cl_Log,T.na_Log_kept_rows,loF_r,?_⟩
  walk_at"rq"
  refine rd_lenL (SqL.of L.r) ?_
  walk_at"rq"
  rw[L.len]
  exact k
noncomputable def sp_Log_floor (K:PySem.W.Frag)(a:Adr):Sp:=fun vs H Q _=>∃(N:List Addr)(p:Addr)(hv:V)(hs:List (Int×Int))(fl:Int)(ra:Addr)(ws:List V)(ds:List PyData),vs = [.ref p]∧LgAt K N a.C_Log H p hv hs fl ra ws ds∧Q (.int fl) H
abbrev gLog_floor (P:Program)(w:World)(K:PySem.W.Frag)(mg:Str→Option Value)(base:Heap)(a:Adr):Prop:=FnOk P w K mg base CX0 1 a.f_Log_floor a.d_Log_floor ["self"] (sp_Log_floor K a)
theorem ok_Log_floor (T:Txt P K mg a)  : gLog_floor P w K mg base a:=by
 refine T.F_Log_floor.ok sc_Log_floor (fun vs H Q E h=>?_) (fun cdv A outer s H vs Q E hr h=>?_)
 ·obtain⟨N,p,hv,hs,fl,ra,ws,ds,rfl,_⟩:=h;rfl
 ·obtain⟨N,p,hv,hs,fl,ra,ws,ds,rfl,L,k⟩:=h
  obtain⟨dx,h1⟩:=L.ob
  refine exW ⟨_,(qss_one (qs_ret (pe_fld (pv 0) (by rfl)))),?_⟩
  try dsimp only[cxOf]
  walk_at"rq"
  refine⟨p,_,dx,_,_,rfl,h1,T.cl_Log,T.na_Log_cut_off,loF_c,?_⟩
  walk_at"rq"
  exact k
noncomputable def sp_Log_line (K:PySem.W.Frag)(a:Adr):Sp:=fun vs H Q _=>∃(N:List Addr)(p:Addr)(hv:V)(hs:List (Int×Int))(fl:Int)(ra:Addr)(ws:List V)(ds:List PyData)(hs1:List (Int×Int))(ll lf:Int),vs = [.ref p]∧LgAt K N a.C_Log H p hv hs fl ra ws ds∧hs=hs1 ++ [(ll,lf)]∧Q (.int ll) H
abbrev gLog_line (P:Program)(w:World)(K:PySem.W.Frag)(mg:Str→Option Value)(base:Heap)(a:Adr):Prop:=FnOk P w K mg base CX0 1 a.f_Log_line a.d_Log_line ["self"] (sp_Log_line K a)
theorem ok_Log_line (T:Txt P K mg a)  : gLog_line P w K mg base a:=by
 refine T.F_Log_line.ok sc_Log_line (fun vs H Q E h=>?_) (fun cdv A outer s H vs Q E hr h=>?_)
 ·obtain⟨N,p,hv,hs,fl,ra,ws,ds,hs1,ll,lf,rfl,_⟩:=h;rfl
 ·obtain⟨N,p,hv,hs,fl,ra,ws,ds,hs1,ll,lf,rfl,L,rfl,k⟩:=h
  obtain⟨dx,h1⟩:=L.ob
  obtain⟨hq,xs,rfl,hn,hqs,hr⟩:=dt_tupN L.h
  have hr':=hr
  rw[List.map_append,List.map_cons,List.map_nil]at hr'
  obtain⟨zs,y,rfl,r1,r2⟩:=DtAll.snoc hr'
  obtain⟨q,rfl,hq2,nq⟩:=Dt.pair r2
  refine exW ⟨_,(qss_one (qs_ret (pe_ix ix_tup (pe_ix ix_tup (pe_fld (pv 0) (by rfl)) (pe_un un_neg pe_int) (fun _ _=>rfl)) pe_int (fun _ _=>rfl)))),?_⟩
  try dsimp only[cxOf]
  walk_at"rq"
  refine⟨p,_,dx,_,_,rfl,h1,T.cl_Log,T.na_Log_past,loF_p,?_⟩
  walk_at"rq"
  refine rd_ixT hqs (atI_last zs _) ?_
  walk_at"rq"
  exact k
noncomputable def sp_Log_history (K:PySem.W.Frag)(a:Adr):Sp:=fun vs H Q _=>∃(N:List Addr)(p:Addr)(hv:V)(hs:List (Int×Int))(fl:Int)(ra:Addr)(ws:List V)(ds:List PyData),vs = [.ref p]∧LgAt K N a.C_Log H p hv hs fl ra ws ds∧Q hv H
abbrev gLog_history (P:Program)(w:World)(K:PySem.W.Frag)(mg:Str→Option Value)(base:Heap)(a:Adr):Prop:=FnOk P w K mg base CX0 1 a.f_Log_history a.d_Log_history ["self"] (sp_Log_history K a)
theorem ok_Log_history (T:Txt P K mg a)  : gLog_history P w K mg base a:=by
 refine T.F_Log_history.ok sc_Log_history (fun vs H Q E h=>?_) (fun cdv A outer s H vs Q E hr h=>?_)
 ·obtain⟨N,p,hv,hs,fl,ra,ws,ds,rfl,_⟩:=h;rfl
 ·obtain⟨N,p,hv,hs,fl,ra,ws,ds,rfl,L,k⟩:=h
  obtain⟨dx,h1⟩:=L.ob
  refine exW ⟨_,(qss_one (qs_ret (pe_fld (pv 0) (by rfl)))),?_⟩
  try dsimp only[cxOf]
  walk_at"rq"
  refine⟨p,_,dx,_,_,rfl,h1,T.cl_Log,T.na_Log_past,loF_p,?_⟩
  exact k
noncomputable def sp_Log_require_kept_from (K:PySem.W.Frag)(a:Adr):Sp:=fun vs H Q E=>∃(N:List Addr)(p:Addr)(hv:V)(hs:List (Int×Int))(fl:Int)(ra:Addr)(ws:List V)(ds:List PyData)(M:List Addr)(x:V)(d:PyData),vs = [.ref p,x]∧LgAt K N a.C_Log H p hv hs fl ra ws ds∧Dt K M H x d ∧
  ((∃pl:Int,d = .int pl∧fl≤pl∧pl≤fl+ds.length∧Q .non H) ∨
   (∃pl:Int,d = .int pl∧0≤pl∧pl<fl∧∀dx,H dx=none→E (.ref a.C_TooOld) (some dx) (upd H dx (.xd [("since",.int fl)]))) ∨
   (Mt.withinD 0 (fl+ds.length) d=false∧∀dx,H dx=none→E (.ref a.C_NoPlace) (some dx) (upd H dx (.xd [("place",x)]))))
abbrev gLog_require_kept_from (P:Program)(w:World)(K:PySem.W.Frag)(mg:Str→Option Value)(base:Heap)(a:Adr):Prop:=FnOk P w K mg base (CX1 P w) 3 a.f_Log_require_kept_from a.d_Log_require_kept_from ["self","place"] (sp_Log_require_kept_from K a)
theorem ok_Log_require_kept_from (T:Txt P K mg a)(G1:gLog_end P w K mg base a)(G0:gis_within P w K mg base a):gLog_require_kept_from P w K mg base a:=by
 refine T.F_Log_require_kept_from.okX sc_Log_require_kept_from (fun vs H Q E h=>?_) (fun cdv A outer s H vs Q E hr h=>?_)
 ·obtain⟨N,p,hv,hs,fl,ra,ws,ds,M,x,d,rfl,_⟩:=h;rfl
 ·obtain⟨N,p,hv,hs,fl,ra,ws,ds,M,x,d,rfl,L,hx,k⟩:=h
  obtain⟨dx,h1⟩:=L.ob
  have f0:=L.f0
  refine exW ⟨_,(qss_cons (qs_if (pt_not (pt_val (qe_call G0 (hr.mono (by decide)) (by rfl) T.m_is_within T.k_is_within T.bd_is_within .nil pass0 (qa (pv 1) (qa pe_int (qa (pe_meth0 (pv 0) T.cl_Log T.mt_Log_end G1 (hr.mono (by decide)) T.bd_Log_end .nil pass0 (by rfl)) qa_nil)))) (by intro _;rfl)))
    (qss_one (qs_raise1 px1 (by rfl) (hr.mono (by decide)) (by rfl) T.mC_NoPlace T.Z_NoPlace (qa (pv 1) qa_nil) (by rfl) (by decide)))
    qss_nil)
   (qss_one (qs_if (pt_cmpR op_lt (pv 1) (pe_fld (pv 0) (by rfl)) (nomark _))
    (qss_one (qs_raise1 px1 (by rfl) (hr.mono (by decide)) (by rfl) T.mC_TooOld T.Z_TooOld (qa (pe_fld (pv 0) (by rfl)) qa_nil) (by rfl) (by decide)))
    qss_nil))),?_⟩
  try dsimp only[cxOf]
  walk_at"rq"
  refine⟨p,dx,_,rfl,h1,loF_no (by decide +kernel) (by decide +kernel) (by decide +kernel),?_⟩
  walk_at"rq"
  refine⟨N,p,hv,hs,fl,ra,ws,ds,rfl,L,?_⟩
  walk_at"rq"
  refine⟨M,x,d,0,fl+ds.length,rfl,hx,?_⟩
  rcases k with ⟨pl,rfl,p0,p1,k⟩ | ⟨pl,rfl,p0,p1,k⟩ | ⟨hw,k⟩
  ·obtain rfl:=hx.ref_int
   rw[show Mt.withinD 0 (fl+ds.length) (.int pl)=true by simp[Mt.withinD];omega]
   walk_at"rq"
   refine⟨p,_,dx,_,_,rfl,h1,T.cl_Log,T.na_Log_cut_off,loF_c,?_⟩
   walk_at"rq"
   rw[decide_eq_false (by omega:¬ pl<fl)]
   walk_at"rq"
   exact k
  ·obtain rfl:=hx.ref_int
   rw[show Mt.withinD 0 (fl+ds.length) (.int pl)=true by simp[Mt.withinD];omega]
   walk_at"rq"
   refine⟨p,_,dx,_,_,rfl,h1,T.cl_Log,T.na_Log_cut_off,loF_c,?_⟩
   walk_at"rq"
   rw[decide_eq_true p1]
   walk_at"rq"
   refine⟨p,_,dx,_,_,rfl,h1,T.cl_Log,T.na_Log_cut_off,loF_c,?_⟩
   walk_at"rq"
   exact⟨_,rfl,k⟩
  ·rw[hw]
   walk_at"rq"
   exact⟨_,rfl,k⟩
noncomputable def sp_Log_put (K:PySem.W.Frag)(a:Adr):Sp:=fun vs H Q E=>∃(N:List Addr)(p:Addr)(hv:V)(hs:List (Int×Int))(fl:Int)(ra:Addr)(ws:List V)(ds:List PyData)(x:V)(d:PyData),vs = [.ref p,x]∧LgAt K N a.C_Log H p hv hs fl ra ws ds∧Dt K N H x d∧d.weight≤1000000 ∧
  ((ra∈N∧ds.length<900∧Mt.rowD d=true∧Mt.Itm 1000 3 d∧∀H',LgAt K N a.C_Log H' p hv hs fl ra (ws ++ [x]) (ds ++ [d])→Ext [ra] H H'→Q (.int (fl+ds.length+1)) H') ∨
   (Mt.rowD d=false∧∀H',Same H H'→E (.ref a.C_NoRow) none H'))
abbrev gLog_put (P:Program)(w:World)(K:PySem.W.Frag)(mg:Str→Option Value)(base:Heap)(a:Adr):Prop:=FnOk P w K mg base (CX1 P w) 6 a.f_Log_put a.d_Log_put ["self","row"] (sp_Log_put K a)
theorem ok_Log_put (T:Txt P K mg a)(G1:gLog_end P w K mg base a)(G22:gis_row P w K mg base a):gLog_put P w K mg base a:=by
 refine T.F_Log_put.okX sc_Log_put (fun vs H Q E h=>?_) (fun cdv A outer s H vs Q E hr h=>?_)
 ·obtain⟨N,p,hv,hs,fl,ra,ws,ds,x,d,rfl,_⟩:=h;rfl
 ·obtain⟨N,p,hv,hs,fl,ra,ws,ds,x,d,rfl,L,hx,hwt,k⟩:=h
  refine exW ⟨_,(qss_cons (qs_if (pt_not (pt_val (qe_call G22 (hr.mono (by decide)) (by rfl) T.m_is_row T.k_is_row T.bd_is_row .nil pass0 (qa (pv 1) qa_nil)) (by intro _;rfl)))
    (qss_one (qs_raise0i px1 (by rfl) (hr.mono (by decide)) (by rfl) T.mC_NoRow T.Z_NoRow (by decide)))
    qss_nil)
   (qss_cons (qs_expr (qe_append (pe_fld (pv 0) (by rfl)) (qa (pv 1) qa_nil) (by rfl) (by rfl) (by rfl) (by rfl) (by rfl)))
   (qss_one (qs_ret (pe_meth0 (pv 0) T.cl_Log T.mt_Log_end G1 (hr.mono (by decide)) T.bd_Log_end .nil pass0 (by rfl)))))),?_⟩
  try dsimp only[cxOf]
  obtain⟨dx,h1⟩:=L.ob
  walk_at"rq"
  refine⟨N,x,d,rfl,hx,hwt,fun H1 s1=>?_⟩
  rcases k with ⟨hra,hn,hrw,hi,k⟩ | ⟨hrw,k⟩
  ·rw[hrw]
   have L1:=L.same s1
   obtain⟨dx1,h11⟩:=L1.ob
   walk_at"rq"
   refine⟨p,_,dx1,_,_,rfl,h11,T.cl_Log,T.na_Log_kept_rows,loF_r,.inl ⟨rfl,_,SqL.of L1.r⟩,?_⟩
   walk_at"rq"
   have lw:=L1.len
   refine⟨ra,ws,x,rfl,rfl,L1.r,by rw[lw,sizeLine_eq];omega,?_⟩
   have L2':=L1.push (hx.ext (Ext.same s1)) ⟨hrw,hi⟩ hra (by omega)
   have x2:Ext [ra] H (upd H1 ra (.lst (ws ++ [x]))):=(Ext.same s1).trans (Ext.at (by simp))
   generalize upd H1 ra (.lst (ws ++ [x]))=H2 at L2' x2 ⊢
   obtain⟨dx2,h2⟩:=L2'.ob
   walk_at"rq"
   refine⟨p,dx2,_,rfl,h2,loF_no (by decide +kernel) (by decide +kernel) (by decide +kernel),?_⟩
   walk_at"rq"
   refine⟨N,p,hv,hs,fl,ra,_,_,rfl,L2',?_⟩
   have:=k H2 L2' x2
   rw[List.length_append,List.length_singleton,show fl+((ds.length+1:Nat):Int)=fl+ds.length+1 by omega]
   exact this
  ·rw[hrw]
   walk_at"rq"
   exact k _ s1
noncomputable def sp_Log_rows (K:PySem.W.Frag)(a:Adr):Sp:=fun vs H Q E=>∃(N:List Addr)(p:Addr)(hv:V)(hs:List (Int×Int))(fl:Int)(ra:Addr)(ws:List V)(ds:List PyData)(M:List Addr)(x m:V)(d e:PyData),vs = [.ref p,x,m]∧LgAt K N a.C_Log H p hv hs fl ra ws ds∧Dt K M H x d∧Dt K M H m e ∧
  ((∃pl:Int,d = .int pl∧0≤pl∧pl<fl∧∀dx,H dx=none→E (.ref a.C_TooOld) (some dx) (upd H dx (.xd [("since",.int fl)]))) ∨
   (Mt.withinD 0 (fl+ds.length) d=false∧∀dx,H dx=none→E (.ref a.C_NoPlace) (some dx) (upd H dx (.xd [("place",x)]))) ∨
   (∃pl:Int,d = .int pl∧fl≤pl∧pl≤fl+ds.length ∧
     ((e ≠ .none∧Mt.countD e=false∧∀dx,H dx=none→E (.ref a.C_NoCount) (some dx) (upd H dx (.xd [("what",.str (Str.ofString "many"))]))) ∨
      (e = .none∧∀(t:Addr) (H':Hp),H t=none→Same H H'→H' t=some (.tup (ws.drop (pl - fl).toNat))→Q (.ref t) H') ∨
      (∃j:Int,e = .int j∧0≤j∧∀(t:Addr) (H':Hp),H t=none→Same H H'→H' t=some (.tup ((ws.drop (pl - fl).toNat).take j.toNat))→Q (.ref t) H'))))
abbrev gLog_rows (P:Program)(w:World)(K:PySem.W.Frag)(mg:Str→Option Value)(base:Heap)(a:Adr):Prop:=FnOk P w K mg base (CX1 P w) 4 a.f_Log_rows a.d_Log_rows ["self","place","many"] (sp_Log_rows K a)
theorem ok_Log_rows (T:Txt P K mg a)(G23:gLog_require_kept_from P w K mg base a)(G24:gis_count P w K mg base a):gLog_rows P w K mg base a:=by
 refine T.F_Log_rows.okX sc_Log_rows (fun vs H Q E h=>?_) (fun cdv A outer s H vs Q E hr h=>?_)
 ·obtain⟨N,p,hv,hs,fl,ra,ws,ds,M,x,m,d,e,rfl,_⟩:=h;rfl
 ·obtain⟨N,p,hv,hs,fl,ra,ws,ds,M,x,m,d,e,rfl,L,hx,hm,k⟩:=h
  obtain⟨dx,h1⟩:=L.ob
  have f0:=L.f0
  have lw:=L.len
  refine exW ⟨_,(qss_cons (qs_expr (qe_methX (pv 0) T.cl_Log T.mt_Log_require_kept_from G23 (hr.mono (by decide)) T.bd_Log_require_kept_from px1 (qa (pv 1) qa_nil) (by rfl) (by rfl) (by rfl)))
   (qss_cons (qs_if (pw_and (pt_cmpR on_notN (pv 2) pe_non (nomark _)) (pw_and1 (pt_not (pt_val (qe_call G24 (hr.mono (by decide)) (by rfl) T.m_is_count T.k_is_count T.bd_is_count .nil pass0 (qa (pv 2) qa_nil)) (by intro _;rfl))))).pt
    (qss_one (qs_raise1 px1 (by rfl) (hr.mono (by decide)) (by rfl) T.mC_NoCount T.Z_NoCount (qa pe_str qa_nil) (by rfl) (by decide)))
    qss_nil)
   (qss_cons (qs_set (i:=3) sc_Log_rows.nd rfl (Or.inl rfl) (pe_slice sl_list (pe_fld (pv 0) (by rfl)) (po_some (pe_op op_sub (pv 1) (pe_fld (pv 0) (by rfl)))) po_none))
   (qss_one (qs_ret (qe_callTy cn_tuple (by rfl) T.b_tuple (by decide +kernel) (qa (pe_ifExp (pt_cmpR on_isN (pv 2) pe_non (nomark _)) (pv 3) (pe_slice sl_list (pv 3) po_none (po_some (pv 2)))) qa_nil))))))),?_⟩
  try dsimp only[cxOf]
  walk_at"rq"
  refine⟨p,dx,_,rfl,h1,loF_no (by decide +kernel) (by decide +kernel) (by decide +kernel),?_⟩
  walk_at"rq"
  refine⟨N,p,hv,hs,fl,ra,ws,ds,M,x,d,rfl,L,hx,?_⟩
  rcases k with ⟨pl,rfl,p0,p1,k⟩ | ⟨hw,k⟩ | ⟨pl,rfl,p0,p1,k⟩
  ·exact .inr (.inl ⟨pl,rfl,p0,p1,k⟩)
  ·exact .inr (.inr ⟨hw,k⟩)
  ·obtain rfl:=hx.ref_int
   refine .inl ⟨pl,rfl,p0,p1,?_⟩
   walk_at"rq"
   have nn:∀ {y:V}{e:PyData},Dt K M H y e→e ≠ .none→decide (y=V.non)=false:=fun h hn=>by
    cases h <;> first |exact absurd rfl hn |rfl
   rcases k with ⟨en,ec,k⟩ | ⟨rfl,k⟩ | ⟨j,rfl,j0,k⟩
   ·rw[nn hm en]
    refine rd_iteT ?_
    walk_at"rq"
    refine⟨M,m,e,rfl,hm,?_⟩
    rw[ec]
    walk_at"rq"
    exact⟨_,rfl,k⟩
   ·cases hm
    rw[decide_eq_true rfl]
    refine rd_iteF ?_
    walk_at"rq"
    refine⟨p,_,dx,_,_,rfl,h1,T.cl_Log,T.na_Log_kept_rows,loF_r,?_⟩
    walk_at"rq"
    refine⟨p,_,dx,_,_,rfl,h1,T.cl_Log,T.na_Log_cut_off,loF_c,?_⟩
    walk_at"rq"
    refine rd_slL (SqL.of L.r) fun l2 n2=>?_
    rw[cutV_from (by omega) (by omega)]
    have s2:=Same.upd (o:=.lst (ws.drop (pl - fl).toNat)) n2
    have g2:upd H l2 (.lst (ws.drop (pl - fl).toNat)) l2=some (.lst (ws.drop (pl - fl).toNat)):=upd_same
    generalize upd H l2 (.lst (ws.drop (pl - fl).toNat))=H2 at s2 g2 ⊢
    walk_at"rq"
    intro l3 n3
    exact k l3 _ (s2.free n3) (s2.trans (Same.upd n3)) upd_same
   ·obtain rfl:=hm.ref_int
    refine rd_iteT ?_
    walk_at"rq"
    refine⟨M,_,_,rfl,hm,?_⟩
    rw[show Mt.countD (.int j)=true by simp[Mt.countD];omega]
    walk_at"rq"
    refine⟨p,_,dx,_,_,rfl,h1,T.cl_Log,T.na_Log_kept_rows,loF_r,?_⟩
    walk_at"rq"
    refine⟨p,_,dx,_,_,rfl,h1,T.cl_Log,T.na_Log_cut_off,loF_c,?_⟩
    walk_at"rq"
    refine rd_slL (SqL.of L.r) fun l2 n2=>?_
    rw[cutV_from (by omega) (by omega)]
    have s2:=Same.upd (o:=.lst (ws.drop (pl - fl).toNat)) n2
    have g2:upd H l2 (.lst (ws.drop (pl - fl).toNat)) l2=some (.lst (ws.drop (pl - fl).toNat)):=upd_same
    generalize upd H l2 (.lst (ws.drop (pl - fl).toNat))=H2 at s2 g2 ⊢
    walk_at"rq"
    intro l3 n3
    have n2':=s2.free n3
    rw[show cutV (ws.drop (pl - fl).toNat) none (some j)=(ws.drop (pl - fl).toNat).take j.toNat from ?_]
    ·dsimp only[tNil]
     have s3:=Same.upd (o:=.lst ((ws.drop (pl - fl).toNat).take j.toNat)) n3
     refine rd_tupleL (SqL.of upd_same) fun l4 n4=>?_
     exact k l4 _ (s2.free (s3.free n4)) ((s2.trans s3).trans (Same.upd n4)) upd_same
    ·have le:(ws.drop (pl - fl).toNat).length≤ws.length:=by simp
     by_cases hj:j≤(ws.drop (pl - fl).toNat).length
     ·exact cutV_to j0 hj
     ·rw[List.take_of_length_le (by omega)]
      obtain⟨n,rfl⟩:=Int.eq_ofNat_of_zero_le j0
      unfold cutV
      rw[HT.sIx_nat,HT.sIx_none,List.drop_zero,Nat.sub_zero,List.take_of_length_le (by omega)]
noncomputable def sp_Log_add_rows (K:PySem.W.Frag)(a:Adr):Sp:=fun vs H Q E=>∃(N:List Addr)(p:Addr)(hv:V)(hs:List (Int×Int))(fl:Int)(ra:Addr)(ws:List V)(ds:List PyData)(hv2:V)(hs2 hs3:List (Int×Int))(l2 f2:Int)(ll lf:Int)(hs1:List (Int×Int))(M:List Addr)(x:V)(d:PyData)(tb:Addr)(us:List V)(es:List PyData),vs = [.ref p,hv2,x,.ref tb]∧LgAt K N a.C_Log H p hv hs fl ra ws ds∧hs=hs1 ++ [(ll,lf)]∧Dt K N H hv2 (.tuple (hs2.map Mt.pr))∧Mt.HOK hs2∧hs2=hs3 ++ [(l2,f2)]∧Dt K M H x d∧SqT K H tb us∧DtAll K N H us es∧tb∉N∧(∀e∈es,Mt.rowD e=true∧Mt.Itm 1000 3 e) ∧
  ((Mt.withinD 0 (fl+ds.length) d=false∧∀dx,H dx=none→E (.ref a.C_Gap) (some dx) (upd H dx (.xd [("place",.int (fl+ds.length))]))) ∨
   (∃pl:Int,d = .int pl∧0≤pl∧pl≤fl+ds.length∧ra∈N∧p∈N∧fl+ds.length≤1000∧ds.length+es.length≤900 ∧
     ∀(hv':V) (hs':List (Int×Int)) (H':Hp),((hv'=hv2∧hs'=hs2∧ll<l2)∨(hv'=hv∧hs'=hs∧l2≤ll))→LgAt K N a.C_Log H' p hv' hs' fl ra (ws ++ us.drop (fl+ds.length - pl).toNat) (ds ++ es.drop (fl+ds.length - pl).toNat)→Ext [p,ra] H H'→Q (.int ((es.drop (fl+ds.length - pl).toNat).length:Nat)) H'))
abbrev gLog_add_rows (P:Program)(w:World)(K:PySem.W.Frag)(mg:Str→Option Value)(base:Heap)(a:Adr):Prop:=FnOk P w K mg base (CX1 P w) 3 a.f_Log_add_rows a.d_Log_add_rows ["self","history","place","rows"] (sp_Log_add_rows K a)
theorem ok_Log_add_rows (T:Txt P K mg a)(G1:gLog_end P w K mg base a)(G9:gLog_line P w K mg base a)(G0:gis_within P w K mg base a):gLog_add_rows P w K mg base a:=by
 refine T.F_Log_add_rows.okX sc_Log_add_rows (fun vs H Q E h=>?_) (fun cdv A outer s H vs Q E hr h=>?_)
 ·obtain⟨N,p,hv,hs,fl,ra,ws,ds,hv2,hs2,hs3,l2,f2,ll,lf,hs1,M,x,d,tb,us,es,rfl,_⟩:=h;rfl
 ·obtain⟨N,p,hv,hs,fl,ra,ws,ds,hv2,hs2,hs3,l2,f2,ll,lf,hs1,M,x,d,tb,us,es,rfl,L,ehs,hd2,ho2,ehs2,hx,qt,rt,nt,gt,k⟩:=h
  obtain⟨dx,h1⟩:=L.ob
  have f0:=L.f0
  have lw:=L.len
  have lu:=rt.length
  refine exW ⟨_,(qss_cons (qs_set (i:=4) sc_Log_add_rows.nd rfl (Or.inl rfl) (pe_meth0 (pv 0) T.cl_Log T.mt_Log_end G1 (hr.mono (by decide)) T.bd_Log_end .nil pass0 (by rfl)))
   (qss_cons (qs_if (pt_not (pt_val (qe_call G0 (hr.mono (by decide)) (by rfl) T.m_is_within T.k_is_within T.bd_is_within .nil pass0 (qa (pv 2) (qa pe_int (qa (pv 4) qa_nil)))) (by intro _;rfl)))
    (qss_one (qs_raise1 px1 (by rfl) (hr.mono (by decide)) (by rfl) T.mC_Gap T.Z_Gap (qa (pv 4) qa_nil) (by rfl) (by decide)))
    qss_nil)
   (qss_cons (qs_expr (qe_extT (pe_fld (pv 0) (by rfl)) (qa (pe_slice sl_tupG (pv 3) (po_some (pe_op op_sub (pv 4) (pv 2))) po_none) qa_nil) (by rfl) (by rfl) (by rfl) (by rfl) (by rfl)))
   (qss_cons (qs_if (pt_cmpR op_gt (pe_ix ix_tup (pe_ix ix_tup (pv 1) (pe_un un_neg pe_int) (fun _ _=>rfl)) pe_int (fun _ _=>rfl)) (pe_meth0 (pv 0) T.cl_Log T.mt_Log_line G9 (hr.mono (by decide)) T.bd_Log_line .nil pass0 (by rfl)) (nomark _))
    (qss_one (qs_fld (pv 0) (pv 1) (by rfl)))
    qss_nil)
   (qss_one (qs_ret (pe_op op_sub (pe_meth0 (pv 0) T.cl_Log T.mt_Log_end G1 (hr.mono (by decide)) T.bd_Log_end .nil pass0 (by rfl)) (pv 4)))))))),?_⟩
  try dsimp only[cxOf]
  walk_at"rq"
  refine⟨p,dx,_,rfl,h1,loF_no (by decide +kernel) (by decide +kernel) (by decide +kernel),?_⟩
  walk_at"rq"
  refine⟨N,p,hv,hs,fl,ra,ws,ds,rfl,L,?_⟩
  walk_at"rq"
  refine⟨M,x,d,0,fl+ds.length,rfl,hx,?_⟩
  rcases k with ⟨hw,k⟩ | ⟨pl,rfl,p0,p1,hra,hpN,n1,n9,k⟩
  ·rw[hw]
   walk_at"rq"
   exact⟨_,rfl,k⟩
  obtain rfl:=hx.ref_int
  rw[show Mt.withinD 0 (fl+ds.length) (.int pl)=true by simp[Mt.withinD];omega]
  walk_at"rq"
  refine⟨p,_,dx,_,_,rfl,h1,T.cl_Log,T.na_Log_kept_rows,loF_r,.inl ⟨rfl,_,SqL.of L.r⟩,?_⟩
  walk_at"rq"
  intro t2 H2 ht2 s2 q2
  obtain⟨m,em⟩:∃m:Nat,fl+(ds.length:Int) - pl=m:=⟨(fl+(ds.length:Int) - pl).toNat,by omega⟩
  rw[em]at q2 k
  rw[Int.toNat_natCast]at k
  have ec:cutV us (some (m:Int)) none=us.drop m:=by
   by_cases hm:m≤us.length
   ·rw[cutV_from (by omega) (by omega),Int.toNat_natCast]
   ·unfold cutV
    have e:HT.sIx us.length 0 (some (m:Int))=min m us.length:=HT.sIx_nat _ _ m
    rw[e,HT.sIx_none,Nat.min_eq_right (by omega),List.drop_of_length_le (Nat.le_refl _),List.drop_of_length_le (by omega),List.take_nil]
  rw[ec]at q2
  have L2':=L.same s2
  have r2:=(rt.ext (Ext.same s2)).drop m
  walk_at"rq"
  have x3:Ext N H2 (upd H2 ra (.lst (ws ++ us.drop m))):=Ext.at hra
  have ld:(es.drop m).length≤es.length:=by rw[List.length_drop];omega
  have ldu:(us.drop m).length=(es.drop m).length:=by rw[List.length_drop,List.length_drop,lu]
  refine rd_extT L2'.r q2 (by rw[lw,ldu,sizeLine_eq];omega) ?_
  have L3:LgAt K N a.C_Log (upd H2 ra (.lst (ws ++ us.drop m))) p hv hs fl ra (ws ++ us.drop m) (ds ++ es.drop m) :=
   ⟨L2'.ob.imp fun _ e=>by rw[upd_ne L2'.pr];exact e,L2'.h.ext x3,L.ho,upd_same,(L2'.d.ext x3).append (r2.ext x3),fun e he=>by
    rcases List.mem_append.mp he with he |he
    ·exact L.g e he
    ·exact gt e (List.mem_of_mem_drop he),L.f0,L.f1,by rw[List.length_append];omega⟩
  have y3:Ext [p,ra] H (upd H2 ra (.lst (ws ++ us.drop m))):=(Ext.same s2).trans (Ext.at (by simp))
  have hd3:=(hd2.ext (Ext.same s2)).ext x3
  generalize upd H2 ra (.lst (ws ++ us.drop m))=H3 at L3 y3 hd3 ⊢
  obtain⟨hp2,xs2,rfl,hn2,hq2,hr2⟩:=dt_tupN hd3
  have hr2':=hr2
  rw[ehs2,List.map_append,List.map_cons,List.map_nil]at hr2'
  obtain⟨zs,y,rfl,r1,r5⟩:=DtAll.snoc hr2'
  obtain⟨q5,rfl,hq5,_⟩:=Dt.pair r5
  obtain⟨dx3,h3⟩:=L3.ob
  have eln:∀ {H':Hp}{hv':V}{hs':List (Int×Int)},LgAt K N a.C_Log H' p hv' hs' fl ra (ws ++ us.drop m) (ds ++ es.drop m)→fl+((ds ++ es.drop m).length:Int) - (fl+ds.length)=((es.drop m).length:Nat):=fun _=>by rw[List.length_append];omega
  walk_at"rq"
  refine rd_ixT hq2 (atI_last zs _) ?_
  walk_at"rq"
  refine⟨p,dx3,_,rfl,h3,loF_no (by decide +kernel) (by decide +kernel) (by decide +kernel),?_⟩
  walk_at"rq"
  refine⟨N,p,hv,hs,fl,ra,_,_,hs1,ll,lf,rfl,L3,ehs,?_⟩
  walk_at"rq"
  refine rd_ite2 (fun hc=>?_) (fun hc=>?_)
  ·have hlt:ll<l2:=of_decide_eq_true hc
   walk_at"rq"
   refine⟨p,_,dx3,_,rfl,h3,T.cl_Log,T.na_Log_past,by rw[loF_eq];simp,?_⟩
   rw[putF_p]
   have L4:=L3.pastTo hpN hd3 ho2 (dx:=dx3)
   have y4:Ext [p,ra] H (upd H3 p (.ins a.C_Log dx3 (loF (.ref hp2) fl ra))):=y3.trans (Ext.at (by simp))
   generalize upd H3 p (.ins a.C_Log dx3 (loF (.ref hp2) fl ra))=H4 at L4 y4 ⊢
   obtain⟨dx4,h4⟩:=L4.ob
   walk_at"rq"
   refine⟨p,dx4,_,rfl,h4,loF_no (by decide +kernel) (by decide +kernel) (by decide +kernel),?_⟩
   walk_at"rq"
   refine⟨N,p,_,_,fl,ra,_,_,rfl,L4,?_⟩
   walk_at"rq"
   rw[eln L4]
   exact k _ _ _ (.inl ⟨rfl,rfl,hlt⟩) L4 y4
  ·have hle:l2≤ll:=Int.not_lt.mp (of_decide_eq_false hc)
   walk_at"rq"
   refine⟨p,dx3,_,rfl,h3,loF_no (by decide +kernel) (by decide +kernel) (by decide +kernel),?_⟩
   walk_at"rq"
   refine⟨N,p,_,_,fl,ra,_,_,rfl,L3,?_⟩
   walk_at"rq"
   rw[eln L3]
   exact k _ _ _ (.inr ⟨rfl,rfl,hle⟩) L3 y3
noncomputable def sp_Log_fork (K:PySem.W.Frag)(a:Adr):Sp:=fun vs H Q E=>∃(N:List Addr)(p:Addr)(hv:V)(hs:List (Int×Int))(fl:Int)(ra:Addr)(ws:List V)(ds:List PyData)(M:List Addr)(x:V)(d:PyData)(hs1:List (Int×Int))(ll lf:Int),vs = [.ref p,x]∧LgAt K N a.C_Log H p hv hs fl ra ws ds∧(∀b∈N,H b≠none)∧Dt K M H x d∧hs.filter (fun q=>decide (q.2≤fl+ds.length))=hs1 ++ [(ll,lf)]∧fl+ds.length≤1000000 ∧
  ((Mt.withinD (ll+1) 1000000000 d=false∧∀H' dx,Same H H'→H' dx=none→E (.ref a.C_NoCount) (some dx) (upd H' dx (.xd [("what",.str (Str.ofString "line"))]))) ∨
   (∃ui:Int,d = .int ui∧ll<ui∧ui≤1000000000∧hs1.length+1=60∧∀H' dx,Same H H'→H' dx=none→E (.ref a.C_Full) (some dx) (upd H' dx (.xd [("what",.str (Str.ofString "lines"))]))) ∨
   (∃ui:Int,d = .int ui∧ll<ui∧ui≤1000000000∧hs1.length+1≠60∧p∈N∧∀(hv':V) (H':Hp),LgAt K N a.C_Log H' p hv' (hs1 ++ [(ll,lf),(ui,fl+ds.length)]) fl ra ws ds→Ext [p] H H'→Q .non H'))
abbrev gLog_fork (P:Program)(w:World)(K:PySem.W.Frag)(mg:Str→Option Value)(base:Heap)(a:Adr):Prop:=FnOk P w K mg base (CX1 P w) 8 a.f_Log_fork a.d_Log_fork ["self","line"] (sp_Log_fork K a)
theorem ok_Log_fork (T:Txt P K mg a)(G1:gLog_end P w K mg base a)(G25:gextended P w K mg base a):gLog_fork P w K mg base a:=by
 refine T.F_Log_fork.okX sc_Log_fork (fun vs H Q E h=>?_) (fun cdv A outer s H vs Q E hr h=>?_)
 ·obtain⟨N,p,hv,hs,fl,ra,ws,ds,M,x,d,hs1,ll,lf,rfl,_⟩:=h;rfl
 ·obtain⟨N,p,hv,hs,fl,ra,ws,ds,M,xa,da,hs1,ll,lf,rfl,L,hN,hxa,ef,e1,k⟩:=h
  obtain⟨dx,h1⟩:=L.ob
  refine exW ⟨_,(qss_cons (qs_set (i:=2) sc_Log_fork.nd rfl (Or.inr rfl) (pe_meth0 (pv 0) T.cl_Log T.mt_Log_end G1 (hr.mono (by decide)) T.bd_Log_end .nil pass0 (by rfl)))
   (qss_cons (qs_set (i:=3) sc_Log_fork.nd rfl (Or.inl rfl) (qe_callTy (cn_tupleA (K:=K) (by rfl)) (by rfl) T.b_tuple (by decide +kernel) (qa (by
    refine' pe_comp (NC:=["pair","end"]) (fr:=[none,some 2]) ?B4 rfl ?hi4 ?hg4 ?ht4 ?he4 (by intro _;rfl)
    case B4=>exact⟨rfl,rfl,by decide +kernel,by decide +kernel,rfl,⟨trivial,⟨rfl,rfl,Or.inl rfl⟩,trivial⟩⟩
    case hi4=>exact(pi_tup (pe_fld (pv 0) (by rfl)))
    case hg4=>intro _ _ _;exact(pg_name (i:=0) (show (["pair","end"]:List Str).Nodup by decide +kernel) rfl (Or.inl rfl))
    case ht4=>intro _ _ _;exact(pf_one (pt_cmpR op_le (pe_ix (ix_tupK (K:=K) (by rfl)) (pv 0) pe_int (fun _ _=>rfl)) (pv 1) (nomark _)))
    case he4=>intro _ _ _;exact(pv 0)) qa_nil)))
   (qss_one (qs_fld (pv 0) (qe_callX G25 (hr.mono (by decide)) (by rfl) T.m_extended T.k_extended T.bd_extended .nil px1 (qa (pv 3) (qa (pv 1) (qa (pv 2) qa_nil)))) (by rfl))))),?_⟩
  try dsimp only[cxOf]
  walk_at"rq"
  refine⟨p,dx,_,rfl,h1,loF_no (by decide +kernel) (by decide +kernel) (by decide +kernel),?_⟩
  walk_at"rq"
  refine⟨N,p,hv,hs,fl,ra,ws,ds,rfl,L,?_⟩
  walk_at"rq"
  refine⟨p,_,dx,_,_,rfl,h1,T.cl_Log,T.na_Log_past,loF_p,?_⟩
  walk_at"rq"
  obtain⟨ha,xs,rfl,hnn,hq,hr⟩:=dt_tupN L.h
  have e0:0≤fl+(ds.length:Int):=by have:=L.f0;omega
  have hlx:xs.length=hs.length:=by have:=hr.length;simpa using this
  have l60:=L.ho.len2
  refine⟨ha,rfl,⟨xs,hq⟩,?_⟩
  intro acc na ka
  have nacc:acc∉N:=fun z=>hN acc z na
  have hr2:=DtAll.fresh na ka hr
  refine comp_byF hs.length (Nat.lt_of_le_of_lt l60 (by decide)) (fun i vs σc H'=>Same H H'∧(∃o,σc = [o,some (.int (fl+ds.length))])∧DtAll K (acc :: N) H' vs (((hs.take i).filter (fun q=>decide (q.2≤fl+ds.length))).map Mt.pr)) ⟨Same.upd na,⟨_,rfl⟩,.nil⟩ ?_ ?_
  ·rintro i vs σc H' hi hv hac ⟨sm,⟨o,rfl⟩,r⟩
   obtain⟨v,d,ev,ed,hd⟩:=hr2.at (i:=i) (by simpa using hi)
   have ed2:d=Mt.pr hs[i]:=by
    rw[List.getElem?_map,List.getElem?_eq_getElem hi]at ed
    simpa using ed.symm
   subst ed2
   obtain⟨q,rfl,hq2,nq⟩:=Dt.pair hd
   refine⟨⟨xs,_,sm.tupS hq,ev⟩,?_⟩
   rintro x H'' ⟨rfl,hx⟩ R S hR hS
   obtain rfl:x=V.ref q:=by
    have z:=hx _ (sm.tupS hq)
    rw[ev]at z
    injection z with z
    exact z.symm
   walk_at"rq"
   refine rd_ixT (sm.tupS hq2) (v:=.int hs[i].2) rfl ?_
   walk_at"rq"
   have tk:(hs.take (i+1))=hs.take i ++ [hs[i]]:=by rw[List.take_add_one];simp[hi]
   by_cases hc:hs[i].2≤fl+ds.length
   ·rw[decide_eq_true hc,if_pos rfl]
    walk_at"rq"
    have x1:Ext (acc :: N) H'' (upd H'' acc (.lst (vs ++ [.ref q]))):=Ext.at (by simp)
    refine hR _ _ _ hac ⟨fun b u e=>?_,⟨_,rfl⟩,?_⟩
    ·rw[upd_ne (ne_of_none e na)];exact sm _ _ e
    ·rw[tk,List.filter_append,List.filter_cons_of_pos (by simpa using hc),List.filter_nil,List.map_append]
     exact(r.ext x1).append (.cons ((hd.ext (Ext.same sm)).ext x1) .nil)
   ·rw[decide_eq_false hc,if_neg (by decide)]
    refine hS _ _ hac ⟨sm,⟨_,rfl⟩,?_⟩
    rw[tk,List.filter_append,List.filter_cons_of_neg (by simpa using hc),List.filter_nil,List.append_nil]
    exact r
  ·rintro vs σc H' hv hac ⟨sm,⟨o,rfl⟩,r⟩
   rw[List.take_length,ef]at r
   replace r:=r.sub (N':=N) (fun b hb=>List.mem_cons_of_mem _ hb)
   refine⟨⟨xs,sm.tupS hq,by omega⟩,?_⟩
   have ho:=L.ho.upto e0
   rw[ef]at ho
   have hlf:lf≤fl+ds.length:=by
    have:(ll,lf)∈hs.filter (fun q=>decide (q.2≤fl+ds.length)):=by rw[ef];simp
    simpa using (List.mem_filter.mp this).2
   walk_at"rq"
   intro l H3 hl3 s3 q3
   have nl3:l∉N:=fun z=>by
    rcases hl3 with rfl |h
    ·exact nacc z
    ·cases e:H l with
     | none=>exact hN l z e
     | some u=>rw[sm _ _ e]at h;cases h
   have sm3:=sm.trans s3
   have N3:∀b∈N,H3 b≠none:=fun b hb e=>by
    cases e2:H b with
    | none=>exact hN b hb e2
    | some u=>rw[sm3 _ _ e2]at e;cases e
   walk_at"rq"
   have hsm3:Same H H3:=sm3
   refine⟨N,M,.ref l,xa,da,fl+ds.length,hs1,ll,lf,rfl,.tup q3 nl3 (r.ext (Ext.same s3)),ho,N3,hxa.ext (Ext.same sm3),hlf,e1,?_⟩
   rcases k with ⟨hw,k⟩ | ⟨ui,rfl,u0,u1,n60,k⟩ | ⟨ui,rfl,u0,u1,n60,hpN,k⟩
   ·exact .inl ⟨hw,fun H4 dx4 s4 h4=>k _ _ (sm3.trans s4) h4⟩
   ·exact .inr (.inl ⟨ui,rfl,u0,u1,n60,fun H4 dx4 s4 h4=>k _ _ (sm3.trans s4) h4⟩)
   obtain rfl:=hxa.ref_int
   refine .inr (.inr ⟨ui,rfl,u0,u1,n60,fun q4 H4 s4 hd4=>?_⟩)
   have L4:=L.same (sm3.trans s4)
   obtain⟨dx4,h4⟩:=L4.ob
   walk_at"rq"
   refine⟨p,_,dx4,_,rfl,h4,T.cl_Log,T.na_Log_past,by rw[loF_eq];simp,?_⟩
   rw[putF_p]
   exact k _ _ (L4.pastTo hpN hd4 (ho.more u0 u1 hlf e1 n60)) ((Ext.same (sm3.trans s4)).trans (Ext.at (by simp)))
noncomputable def sp_Log_trim (K:PySem.W.Frag)(a:Adr):Sp:=fun vs H Q E=>∃(N:List Addr)(p:Addr)(hv:V)(hs:List (Int×Int))(fl:Int)(ra:Addr)(ws:List V)(ds:List PyData)(M:List Addr)(x:V)(d:PyData),vs = [.ref p,x]∧LgAt K N a.C_Log H p hv hs fl ra ws ds∧Dt K M H x d ∧
  ((Mt.withinD fl (fl+ds.length) d=false∧∀dx,H dx=none→E (.ref a.C_NoPlace) (some dx) (upd H dx (.xd [("place",x)]))) ∨
   (∃pl:Int,d = .int pl∧ra∈N∧p∈N∧fl≤pl∧pl≤fl+ds.length∧pl≤1000000∧∀(H':Hp),LgAt K N a.C_Log H' p hv hs pl ra (ws.drop (pl - fl).toNat) (ds.drop (pl - fl).toNat)→Ext [p,ra] H H'→Q .non H'))
abbrev gLog_trim (P:Program)(w:World)(K:PySem.W.Frag)(mg:Str→Option Value)(base:Heap)(a:Adr):Prop:=FnOk P w K mg base (CX1 P w) 3 a.f_Log_trim a.d_Log_trim ["self","place"] (sp_Log_trim K a)
theorem ok_Log_trim (T:Txt P K mg a)(G1:gLog_end P w K mg base a)(G0:gis_within P w K mg base a):gLog_trim P w K mg base a:=by
 refine T.F_Log_trim.okX sc_Log_trim (fun vs H Q E h=>?_) (fun cdv A outer s H vs Q E hr h=>?_)
 ·obtain⟨N,p,hv,hs,fl,ra,ws,ds,M,x,d,rfl,_⟩:=h;rfl
 ·obtain⟨N,p,hv,hs,fl,ra,ws,ds,M,x,d,rfl,L,hx,k⟩:=h
  obtain⟨dx,h1⟩:=L.ob
  refine exW ⟨_,(qss_cons (qs_if (pt_not (pt_val (qe_call G0 (hr.mono (by decide)) (by rfl) T.m_is_within T.k_is_within T.bd_is_within .nil pass0 (qa (pv 1) (qa (pe_fld (pv 0) (by rfl)) (qa (pe_meth0 (pv 0) T.cl_Log T.mt_Log_end G1 (hr.mono (by decide)) T.bd_Log_end .nil pass0 (by rfl)) qa_nil)))) (by intro _;rfl)))
    (qss_one (qs_raise1 px1 (by rfl) (hr.mono (by decide)) (by rfl) T.mC_NoPlace T.Z_NoPlace (qa (pv 1) qa_nil) (by rfl) (by decide)))
    qss_nil)
   (qss_cons (qs_delsl (pe_fld (pv 0) (by rfl)) po_none (po_some (pe_op op_sub (pv 1) (pe_fld (pv 0) (by rfl)))))
   (qss_one (qs_fld (pv 0) (pv 1) (by rfl))))),?_⟩
  try dsimp only[cxOf]
  walk_at"rq"
  have f0:=L.f0
  refine⟨p,_,dx,_,_,rfl,h1,T.cl_Log,T.na_Log_cut_off,loF_c,?_⟩
  walk_at"rq"
  refine⟨p,dx,_,rfl,h1,loF_no (by decide +kernel) (by decide +kernel) (by decide +kernel),?_⟩
  walk_at"rq"
  refine⟨N,p,hv,hs,fl,ra,ws,ds,rfl,L,?_⟩
  walk_at"rq"
  refine⟨M,x,d,fl,fl+ds.length,rfl,hx,?_⟩
  rcases k with ⟨hw,k⟩ | ⟨pl,rfl,hra,hpN,p0,p1,p2,k⟩
  ·rw[hw]
   walk_at"rq"
   exact⟨_,rfl,k⟩
  obtain rfl:=hx.ref_int
  rw[show Mt.withinD fl (fl+ds.length) (.int pl)=true by simp[Mt.withinD];omega]
  walk_at"rq"
  refine⟨p,_,dx,_,_,rfl,h1,T.cl_Log,T.na_Log_kept_rows,loF_r,?_⟩
  walk_at"rq"
  refine⟨p,_,dx,_,_,rfl,h1,T.cl_Log,T.na_Log_cut_off,loF_c,?_⟩
  walk_at"rq"
  refine⟨ra,ws,rfl,L.r,?_⟩
  rw[delV_to (by omega) (by rw[L.len];omega)]
  have L1:=L.dropTo (pl - fl).toNat hra
  obtain⟨dx1,h11⟩:=L1.ob
  walk_at"rq"
  refine⟨p,_,dx1,_,rfl,h11,T.cl_Log,T.na_Log_cut_off,by rw[loF_eq];simp,?_⟩
  rw[putF_c]
  exact k _ (L1.floorTo hpN (by omega) p2) ((Ext.at (by simp)).trans (Ext.at (by simp)))
noncomputable def sp_Log___len (K:PySem.W.Frag)(a:Adr):Sp:=fun vs H Q _=>∃(N:List Addr)(p:Addr)(hv:V)(hs:List (Int×Int))(fl:Int)(ra:Addr)(ws:List V)(ds:List PyData),vs = [.ref p]∧LgAt K N a.C_Log H p hv hs fl ra ws ds∧Q (.int ds.length) H
abbrev gLog___len (P:Program)(w:World)(K:PySem.W.Frag)(mg:Str→Option Value)(base:Heap)(a:Adr):Prop:=FnOk P w K mg base CX0 1 a.f_Log___len a.d_Log___len ["self"] (sp_Log___len K a)
theorem ok_Log___len (T:Txt P K mg a)  : gLog___len P w K mg base a:=by
 refine T.F_Log___len.ok sc_Log___len (fun vs H Q E h=>?_) (fun cdv A outer s H vs Q E hr h=>?_)
 ·obtain⟨N,p,hv,hs,fl,ra,ws,ds,rfl,_⟩:=h;rfl
 ·obtain⟨N,p,hv,hs,fl,ra,ws,ds,rfl,L,k⟩:=h
  obtain⟨dx,h1⟩:=L.ob
  refine exW ⟨_,(qss_one (qs_ret (qe_callB cn_len (by rfl) T.b_len (by decide +kernel) (qa (pe_fld (pv 0) (by rfl)) qa_nil)))),?_⟩
  try dsimp only[cxOf]
  walk_at"rq"
  refine⟨p,_,dx,_,_,rfl,h1,T.cl_Log,T.na_Log_kept_rows,loF_r,?_⟩
  walk_at"rq"
  refine rd_lenL (SqL.of L.r) ?_
  rw[L.len]
  exact k
noncomputable def sp_law_state (K:PySem.W.Frag):Sp:=fun vs H Q _=>∃(p:Addr)(ns:List Int),vs = [.ref p]∧SqL K H p (ns.map V.int)∧ns.length≤63∧∀(st:Addr)(H':Hp),StOk K H' st→Same H H'→H st=none→K.lookup st=none→Q (.ref st) H'
abbrev glaw_state (P:Program)(w:World)(K:PySem.W.Frag)(mg:Str→Option Value)(base:Heap)(a:Adr):Prop:=FnOk P w K mg base CX0 1 a.f_law_state a.d_law_state ["_law_script"] (sp_law_state K)
theorem ok_law_state (T:Txt P K mg a)  : glaw_state P w K mg base a:=by
 refine T.F_law_state.ok sc_law_state (fun vs H Q E h=>?_) (fun cdv A outer s H vs Q E hr h=>?_)
 ·obtain⟨p,ns,rfl,_⟩:=h;rfl
 ·obtain⟨p,ns,rfl,hq,hl,k⟩:=h
  refine exW ⟨_,(qss_cons (qs_set (i:=1) sc_law_state.nd rfl (Or.inl rfl) (qe_callTy cn_list (by rfl) T.b_list (by decide +kernel) (qa (pe_slice sl_list (pv 0) po_none (po_some pe_int)) qa_nil)))
   (qss_cons (qs_if (pt_cmpR op_eq (qe_callB cn_len (by rfl) T.b_len (by decide +kernel) (qa (pv 1) qa_nil)) pe_int (nomark _))
    (qss_one (qs_set (i:=1) sc_law_state.nd rfl (Or.inl rfl) (qe_lstK (qa pe_int qa_nil))))
    qss_nil)
   (qss_one (qs_ret (qe_lstK (qa (pv 1) (qa pe_int (qa pe_int (qa pe_int qa_nil))))))))),?_⟩
  try dsimp only[cxOf]
  walk_at"rd"
  intro l1 n1
  have e1:cutV (ns.map V.int) none (some 63)=ns.map V.int:=by
   unfold cutV
   have e:HT.sIx (ns.map V.int).length (ns.map V.int).length (some 63)=min 63 (ns.map V.int).length:=HT.sIx_nat _ _ 63
   rw[e,HT.sIx_none,List.length_map,Nat.min_eq_right hl,List.drop_zero,Nat.sub_zero,← List.length_map (f:=V.int),List.take_length]
  rw[e1]
  walk_at"rd"
  intro l2 n2
  have n1':H l2=none:=(Same.upd n1).free n2
  walk_at"rd"
  have s2:Same H (upd (upd H l1 (.lst (ns.map V.int))) l2 (.lst (ns.map V.int))):=(Same.upd n1).trans (Same.upd n2)
  have fin:∀(c:Addr) (cs:List Int) (H2:Hp),Same H H2→H2 c=some (.lst (cs.map V.int))→1≤cs.length→cs.length≤63→∀q H3,H2 q=none→K.lookup q=none→Same H2 H3→H3 q=some (.lst [.ref c,.int 0,.int 0,.int 91])→Q (.ref q) H3:=fun c cs H2 s hc g1 g2 q H3 hq kq s3 g3=>by
   have nc:c≠q:=ne_of_none hc hq
   exact k q _ ⟨c,cs,0,0,91,g3,s3 _ _ hc,nc,g1,g2,by decide,by decide,by decide,by decide⟩ (s.trans s3) (s.free hq) kq
  refine rd_ite2 (fun hc=>?_) (fun hc=>?_)
  ·walk_at"rd"
   refine⟨sz (by simp),fun l3 H3 n3 _ s3 g3=>?_⟩
   walk_at"rd"
   refine⟨sz (by simp),fun l4 H4 n4 k4 s4 g4=>?_⟩
   exact fin l3 [0] _ (s2.trans s3) g3 (by decide) (by decide) l4 _ n4 k4 s4 g4
  ·walk_at"rd"
   refine⟨sz (by simp),fun l4 H4 n4 k4 s4 g4=>?_⟩
   have hne:ns.length≠0:=fun z=>by
    rw[List.length_map,z]at hc
    simp at hc
   exact fin l2 ns _ s2 upd_same (by omega) hl l4 _ n4 k4 s4 g4
noncomputable def sp_law_next (K:PySem.W.Frag):Sp:=fun vs H Q _=>∃(st:Addr)(b:Int),vs = [.ref st,.int b]∧StOk K H st∧0<b∧b<2147483648 ∧
 ∀(v:Int) (H':Hp),0≤v→v<b→StOkT K H H' st→Ext [st] H H'→Q (.int v) H'
abbrev glaw_next (P:Program)(w:World)(K:PySem.W.Frag)(mg:Str→Option Value)(base:Heap)(a:Adr):Prop:=FnOk P w K mg base CX0 1 a.f_law_next a.d_law_next ["_law_state_here","_law_below"] (sp_law_next K)
theorem ok_law_next (T:Txt P K mg a)  : glaw_next P w K mg base a:=by
 refine T.F_law_next.ok sc_law_next (fun vs H Q E h=>?_) (fun cdv A outer s H vs Q E hr h=>?_)
 ·obtain⟨st,b,rfl,_⟩:=h;rfl
 ·obtain⟨st,b,rfl,S,hb0,hb1,k⟩:=h
  obtain⟨c,cs,p,q,r,h1,h2h,h3,h4,h5,h6,h7,h8,h9⟩:=S.ex
  have h2:SqL K H c (cs.map V.int):=SqL.of h2h
  refine exW ⟨_,(qss_cons (qs_if (pt_cmpR op_gt (pe_ix ix_list (pv 0) pe_int (fun _ _=>rfl)) pe_int (nomark _))
    (qss_cons (qs_set (i:=2) sc_law_next.nd rfl (Or.inl rfl) (pe_op op_mod (pe_ix ix_list (pv 0) pe_int (fun _ _=>rfl)) (pv 1)))
    (qss_cons (qs_asg (pe_op op_fdivB (pe_ix ix_list (pv 0) pe_int (fun _ _=>rfl)) (pv 1)) (pg_sub (pv 0) pe_int set_list (by intro _;rfl)))
    (qss_one (qs_ret (pv 2)))))
    qss_nil)
   (qss_cons (qs_set (i:=3) sc_law_next.nd rfl (Or.inl rfl) (pe_ix ix_list (pv 0) pe_int (fun _ _=>rfl)))
   (qss_cons (qs_set (i:=4) sc_law_next.nd rfl (Or.inl rfl) (pe_ix ix_list (pv 3) (pe_op op_mod (pe_ix ix_list (pv 0) pe_int (fun _ _=>rfl)) (qe_callB cn_len (by rfl) T.b_len (by decide +kernel) (qa (pv 3) qa_nil))) (fun _ _=>rfl)))
   (qss_cons (qs_asg (pe_op op_add (pe_ix ix_list (pv 0) pe_int (fun _ _=>rfl)) pe_int) (pg_sub (pv 0) pe_int set_list (by intro _;rfl)))
   (qss_cons (qs_if (pw_and (pt_cmpR op_ge (pv 4) (pe_op op_pow pe_int pe_int) (nomark _)) (pw_and1 (pt_cmpR op_le (pe_ix ix_list (pv 0) pe_int (fun _ _=>rfl)) (qe_callB cn_len (by rfl) T.b_len (by decide +kernel) (qa (pv 3) qa_nil)) (nomark _)))).pt
    (qss_cons (qs_asg (pe_op op_fdivB (pv 4) (pv 1)) (pg_sub (pv 0) pe_int set_list (by intro _;rfl)))
    (qss_one (qs_ret (pe_op op_mod (pv 4) (pv 1)))))
    qss_nil)
   (qss_cons (qs_asg (pe_op op_mod (pe_op op_add (pe_op op_add (pe_op op_mul (pe_ix ix_list (pv 0) pe_int (fun _ _=>rfl)) pe_int) (pe_op op_mod (pv 4) pe_int)) (pe_op op_mul pe_int (pe_ix ix_list (pv 0) pe_int (fun _ _=>rfl)))) pe_int) (pg_sub (pv 0) pe_int set_list (by intro _;rfl)))
   (qss_one (qs_ret (pe_op op_mod (pe_op op_fdivB (pe_op op_mod (pe_op op_mul (pe_ix ix_list (pv 0) pe_int (fun _ _=>rfl)) pe_int) pe_int) pe_int) (pv 1)))))))))),?_⟩
  try dsimp only[cxOf]
  walk_at"rd"
  have fin:∀(v p' q' r':Int) (H':Hp),H'=upd H st (.lst [.ref c,.int p',.int q',.int r'])→0≤v→v<b→0≤p'→0≤q'→0≤r'→r'<2147483647→Q (.int v) H':=by
   rintro v p' q' r' H' rfl g1 g2 g3 g4 g5 g6
   have e:Ext [st] H (upd H st (.lst [.ref c,.int p',.int q',.int r'])):=Ext.at (by simp)
   exact k v _ g1 g2 ⟨⟨c,cs,p',q',r',upd_same,e _ _ h2h (by simpa using h3),h3,h4,h5,g3,g4,g5,g6⟩,fun c' a e1=>by
    rw[h1]at e1
    have z:c=c':=by
     injection e1 with e1;injection e1 with e1;injection e1 with e1 _;injection e1
    subst z
    exact⟨_,upd_same⟩⟩ e
  refine rd_ite2 (fun hc=>?_) (fun hc=>?_)
  ·have hq:0<q:=of_decide_eq_true hc
   walk_at"rd"
   exact fin _ p (q / b) r _ rfl (Int.emod_nonneg _ (by omega)) (Int.emod_lt_of_pos _ hb0) h6 (Int.ediv_nonneg h7 (by omega)) h8 h9
  ·have hlm:((cs.map V.int).length:Int)=cs.length:=by rw[List.length_map]
   have hl0:(0:Int)<(cs.map V.int).length:=by omega
   walk_at"rd"
   obtain⟨x,hx,_⟩:=atI_ints (ns:=cs) (i:=p % ((cs.map V.int).length:Int)) (Int.emod_nonneg _ (by omega)) (by rw[hlm];exact Int.emod_lt_of_pos _ (by omega))
   refine rd_ixL h2 hx ?_
   walk_at"rd"
   have h2':SqL K (upd H st (.lst [.ref c,.int (p+1),.int q,.int r])) c (cs.map V.int):=(Ext.at (N:=[st]) (by simp)).lst h2 (by simpa using h3)
   refine rd_ite2 (fun hg=>?_) (fun hg=>?_)
   ·walk_at"rd"
    have hx0:(0:Int)≤x:=by
     have:=of_decide_eq_true hg
     have e:(0:Int)≤10 ^ (18:Int).toNat:=by decide
     omega
    refine rd_ite2 (fun hj=>?_) (fun hj=>?_)
    ·walk_at"rd"
     exact fin _ (p+1) (x / b) r _ (upd_upd.trans rfl) (Int.emod_nonneg _ (by omega)) (Int.emod_lt_of_pos _ hb0) (by omega) (Int.ediv_nonneg hx0 (by omega)) h8 h9
    ·walk_at"rd"
     exact fin _ (p+1) q _ _ (upd_upd.trans rfl) (Int.emod_nonneg _ (by omega)) (Int.emod_lt_of_pos _ hb0) (by omega) h7 (Int.emod_nonneg _ (by omega)) (Int.emod_lt_of_pos _ (by omega))
   ·walk_at"rd"
    exact fin _ (p+1) q _ _ (upd_upd.trans rfl) (Int.emod_nonneg _ (by omega)) (Int.emod_lt_of_pos _ hb0) (by omega) h7 (Int.emod_nonneg _ (by omega)) (Int.emod_lt_of_pos _ (by omega))
noncomputable def spr_law_alike (K:PySem.W.Frag)(m:Nat):Sp:=fun vs H Q _=>∃(N M:List Addr)(x y:V)(d:PyData),vs = [x,y]∧Dt K N H x d∧Dt K M H y d∧(Mt.tupOnly d=true∨∃ds,d = .list ds∧Mt.tupOnlyAll ds=true)∧d.depth<m∧∀H',Same H H'→Q (.bl true) H'
theorem spr_law_alike_zero {K:PySem.W.Frag}{vs:List V}{H:Hp}{Q:VK}{E:XK}:¬ spr_law_alike K 0 vs H Q E:=fun ⟨_,_,_,_,_,_,_,_,_,h,_⟩=>absurd h (Nat.not_lt_zero _)
noncomputable def sp_law_alike (K:PySem.W.Frag):Sp:=spr_law_alike K 4
theorem okr_law_alike (T:Txt P K mg a) {k m:Nat}(hk:0≤k)(G3:FnOk P w K mg base CX0 k a.f_law_alike a.d_law_alike ["_law_found","_law_due"] (spr_law_alike K m))  : FnOk P w K mg base CX0 (k+1) a.f_law_alike a.d_law_alike ["_law_found","_law_due"] (spr_law_alike K (m+1)):=by
 refine T.F_law_alike.ok sc_law_alike (fun vs H Q E h=>?_) (fun cdv A outer s H vs Q E hr h=>?_)
 ·obtain⟨N,M,x,y,d,rfl,_⟩:=h;rfl
 ·obtain⟨N,M,x,y,d,rfl,hx,hy,ht,hm,k⟩:=h
  refine exW ⟨_,(qss_cons (qs_if (pt_cmpR on_isN (pv 1) pe_non (nomark _))
    (qss_one (qs_ret (pe_cmpR on_isN (pv 0) pe_non (nomark _))))
    qss_nil)
   (qss_cons (qs_if (pt_val (qe_callB cn_isi (by rfl) T.b_isinstance (by decide +kernel) (qa (pv 1) (qa (pe_bltn (by rfl) T.b_int (by decide +kernel) (v:=.ty "int") rfl) qa_nil))) (by intro _;rfl))
    (qss_one (qs_ret (pe_and (qe_callB cn_isi (by rfl) T.b_isinstance (by decide +kernel) (qa (pv 0) (qa (pe_bltn (by rfl) T.b_int (by decide +kernel) (v:=.ty "int") rfl) qa_nil))) (pe_and (pe_not (qe_callB cn_isi (by rfl) T.b_isinstance (by decide +kernel) (qa (pv 0) (qa (pe_bltn (by rfl) T.b_bool (by decide +kernel) (v:=.ty "bool") rfl) qa_nil)))) (pe_one (pe_cmpR op_eq (pv 0) (pv 1) (nomark _)))))))
    qss_nil)
   (qss_cons (qs_if (pt_val (qe_callB cn_isi (by rfl) T.b_isinstance (by decide +kernel) (qa (pv 1) (qa (pe_bltn (by rfl) T.b_str (by decide +kernel) (v:=.ty "str") rfl) qa_nil))) (by intro _;rfl))
    (qss_one (qs_ret (pe_and (qe_callB cn_isi (by rfl) T.b_isinstance (by decide +kernel) (qa (pv 0) (qa (pe_bltn (by rfl) T.b_str (by decide +kernel) (v:=.ty "str") rfl) qa_nil))) (pe_one (pe_cmpR op_eq (pv 0) (pv 1) (nomark _))))))
    qss_nil)
   (qss_cons (qs_if (pw_and (pt_val (qe_callB cn_isi (by rfl) T.b_isinstance (by decide +kernel) (qa (pv 1) (qa (pe_bltn (by rfl) T.b_list (by decide +kernel) (v:=.ty "list") rfl) qa_nil))) (by intro _;rfl)) (pw_and1 (pt_not (pt_val (qe_callB cn_isi (by rfl) T.b_isinstance (by decide +kernel) (qa (pv 0) (qa (pe_bltn (by rfl) T.b_list (by decide +kernel) (v:=.ty "list") rfl) qa_nil))) (by intro _;rfl))))).pt
    (qss_one (qs_ret pe_bl))
    qss_nil)
   (qss_cons (qs_if (pw_and (pt_val (qe_callB cn_isi (by rfl) T.b_isinstance (by decide +kernel) (qa (pv 1) (qa (pe_bltn (by rfl) T.b_tuple (by decide +kernel) (v:=.ty "tuple") rfl) qa_nil))) (by intro _;rfl)) (pw_and1 (pt_not (pt_val (qe_callB cn_isi (by rfl) T.b_isinstance (by decide +kernel) (qa (pv 0) (qa (pe_bltn (by rfl) T.b_tuple (by decide +kernel) (v:=.ty "tuple") rfl) qa_nil))) (by intro _;rfl))))).pt
    (qss_one (qs_ret pe_bl))
    qss_nil)
   (qss_cons (qs_if (pt_cmpR op_ne (qe_callB cn_len (by rfl) T.b_len (by decide +kernel) (qa (pv 0) qa_nil)) (qe_callB cn_len (by rfl) T.b_len (by decide +kernel) (qa (pv 1) qa_nil)) (nomark _))
    (qss_one (qs_ret pe_bl))
    qss_nil)
   (qss_cons (qs_for PassesOwn.never rfl (qi_zipM (by rfl) T.b_zip (qa (pv 0) (qa (pv 1) qa_nil)) (by rfl) (by rfl)) (pg_tup (n:=2) rfl (pgs_cons (pg_name (i:=2) sc_law_alike.nd rfl (Or.inl rfl)) (pgs_cons (pg_name (i:=3) sc_law_alike.nd rfl (Or.inl rfl)) pgs_nil)))
    (qss_one (qs_if (pt_not (pt_val (qe_call G3 (hr.mono (by omega)) (by rfl) T.m__law_alike T.k__law_alike T.bd__law_alike .nil pass0 (qa (pv 2) (qa (pv 3) qa_nil))) (by intro _;rfl)))
     (qss_one (qs_ret pe_bl))
     qss_nil)) (by intro _;rfl))
   (qss_one (qs_ret pe_bl))))))))),?_⟩
  try dsimp only[cxOf]
  have hx0:=hx
  have hy0:=hy
  cases hy with
  | non =>
   cases hx
   walk_at"rq"
   exact k _ (Same.refl H)
  | int j =>
   cases hx
   walk_at"rq"
   rw[show decide (V.int j=V.int j)=true from decide_eq_true rfl]
   exact k _ (Same.refl H)
  | str t =>
   cases hx
   walk_at"rq"
   rw[show decide (V.str t=V.str t)=true from decide_eq_true rfl]
   exact k _ (Same.refl H)
  | lst q n r =>
   rename_i b ys es
   cases hx with
   | lst q2 n2 r2 =>
    rename_i a2 xs
    have lx:=r2.length
    have ly:=r.length
    have hl:xs.length=ys.length:=by omega
    have hall:Mt.tupOnlyAll es=true:=by
     rcases ht with ht | ⟨ds,e,h⟩
     ·cases ht
     ·cases e;exact h
    have hdep:PyData.depthAll es<m:=by
     have:(PyData.list es).depth=PyData.depthAll es+1:=rfl
     omega
    walk_at"rq"
    rw[show decide (V.int (xs.length:Int)=V.int (ys.length:Int))=true from decide_eq_true (by rw[hl])]
    walk_at"rq"
    refine⟨_,_,rfl,.inr ⟨⟨xs,q2⟩,⟨ys,q⟩,?_⟩⟩
    refine for_zipLW (xs:=xs) (ys:=ys) hl (fun i σ' H'=>∃o2 o3:Option V,σ' = [some (.ref a2),some (.ref b),o2,o3]∧Same H H') ?_ ?_ ?_ ?_
    ·exact⟨none,none,rfl,Same.refl _⟩
    ·rintro i σ' H1 hi ⟨o2,o3,rfl,s1⟩
     exact⟨s1.seq q2,s1.seq q⟩
    ·rintro i x1 y1 p σ' H1 h1 h2 hn ⟨o2,o3,rfl,s1⟩
     obtain⟨d1,f1,f2⟩:=r2.get h1
     obtain⟨e1,g1,g2⟩:=r.get h2
     rw[f1]at g1;cases g1
     have s2:Same H (upd H1 p (.tup [x1,y1])):=s1.trans (Same.upd hn)
     have me:=List.mem_of_getElem? f1
     walk_at"rq"
     refine⟨N,M,x1,y1,d1,rfl,f2.ext (Ext.same s2),g2.ext (Ext.same s2),.inl (Mt.tupOnly_at hall me),Nat.lt_of_le_of_lt (Mt.depth_at (Nat.le_refl _) me) hdep,fun H2 s3=>?_⟩
     walk_at"rq"
     exact⟨some x1,some y1,rfl,s2.trans s3⟩
    ·rintro σ' H1 ⟨o2,o3,rfl,s1⟩
     walk_at"rq"
     exact k _ s1
  | tup q n r =>
   rename_i b ys es
   cases hx with
   | tup q2 n2 r2 =>
    rename_i a2 xs
    have lx:=r2.length
    have ly:=r.length
    have hl:xs.length=ys.length:=by omega
    have hall:Mt.tupOnlyAll es=true:=by
     rcases ht with ht | ⟨ds,e,h⟩
     ·simpa [Mt.tupOnly]using ht
     ·cases e
    have hdep:PyData.depthAll es<m:=by
     have:(PyData.tuple es).depth=PyData.depthAll es+1:=rfl
     omega
    walk_at"rq"
    rw[show decide (V.int (xs.length:Int)=V.int (ys.length:Int))=true from decide_eq_true (by rw[hl])]
    walk_at"rq"
    refine⟨_,_,rfl,.inl ⟨⟨xs,q2⟩,⟨ys,q⟩,?_⟩⟩
    refine for_zipW (xs:=xs) (ys:=ys) hl (fun i σ' H'=>∃o2 o3:Option V,σ' = [some (.ref a2),some (.ref b),o2,o3]∧Same H H') ?_ ?_ ?_ ?_
    ·exact⟨none,none,rfl,Same.refl _⟩
    ·rintro i σ' H1 hi ⟨o2,o3,rfl,s1⟩
     exact⟨s1.tupS q2,s1.tupS q⟩
    ·rintro i x1 y1 p σ' H1 h1 h2 hn ⟨o2,o3,rfl,s1⟩
     obtain⟨d1,f1,f2⟩:=r2.get h1
     obtain⟨e1,g1,g2⟩:=r.get h2
     rw[f1]at g1;cases g1
     have s2:Same H (upd H1 p (.tup [x1,y1])):=s1.trans (Same.upd hn)
     have me:=List.mem_of_getElem? f1
     walk_at"rq"
     refine⟨N,M,x1,y1,d1,rfl,f2.ext (Ext.same s2),g2.ext (Ext.same s2),.inl (Mt.tupOnly_at hall me),Nat.lt_of_le_of_lt (Mt.depth_at (Nat.le_refl _) me) hdep,fun H2 s3=>?_⟩
     walk_at"rq"
     exact⟨some x1,some y1,rfl,s2.trans s3⟩
    ·rintro σ' H1 ⟨o2,o3,rfl,s1⟩
     walk_at"rq"
     exact k _ s1
  | bl b=>rcases ht with ht | ⟨ds,e,h⟩ <;> first |cases ht |cases e
  | dk0 q n=>rcases ht with ht | ⟨ds,e,h⟩ <;> first |cases ht |cases e
  | dk1 q n r=>rcases ht with ht | ⟨ds,e,h⟩ <;> first |cases ht |cases e
theorem rec_law_alike (T:Txt P K mg a)  : ∀m,FnOk P w K mg base CX0 (0+m) a.f_law_alike a.d_law_alike ["_law_found","_law_due"] (spr_law_alike K m)
 | 0=>⟨fun vs H Q E h=>absurd h (spr_law_alike_zero),fun A outer s H args us vs Q E _ _ _ _ h=>absurd h (spr_law_alike_zero)⟩
 | m+1=>okr_law_alike T (Nat.le_add_right _ _) (rec_law_alike T  m) 
abbrev glaw_alike (P:Program)(w:World)(K:PySem.W.Frag)(mg:Str→Option Value)(base:Heap)(a:Adr):Prop:=FnOk P w K mg base CX0 4 a.f_law_alike a.d_law_alike ["_law_found","_law_due"] (sp_law_alike K)
theorem ok_law_alike (T:Txt P K mg a)  : glaw_alike P w K mg base a:=rec_law_alike T  4
noncomputable def sp_law_row (K:PySem.W.Frag):Sp:=fun vs H Q _=>∃(N:List Addr)(st:Addr),vs = [.ref st]∧StOk K H st∧st∈N∧(∀b∈N,H b≠none)∧∀(y:V)(d:PyData)(H':Hp),Dt K N H' y d→Mt.rowD d=true→Mt.Itm 1000 3 d→StOkT K H H' st→Ext [st] H H'→Q y H'
abbrev glaw_row (P:Program)(w:World)(K:PySem.W.Frag)(mg:Str→Option Value)(base:Heap)(a:Adr):Prop:=FnOk P w K mg base CX0 2 a.f_law_row a.d_law_row ["_law_state_here"] (sp_law_row K)
theorem ok_law_row (T:Txt P K mg a)(G2:glaw_next P w K mg base a):glaw_row P w K mg base a:=by
 refine T.F_law_row.ok sc_law_row (fun vs H Q E h=>?_) (fun cdv A outer s H vs Q E hr h=>?_)
 ·obtain⟨N,st,rfl,_⟩:=h;rfl
 ·obtain⟨N,st,rfl,S,hst,hN,k⟩:=h
  refine exW ⟨_,(qss_cons (qs_set (i:=1) sc_law_row.nd rfl (Or.inl rfl) (pe_ix ix_list (qe_lstA (qa pe_str (qa pe_str (qa pe_str (qa pe_str (qa pe_str (qa pe_str qa_nil))))))) (qe_call G2 (hr.mono (by decide)) (by rfl) T.m__law_next T.k__law_next T.bd__law_next .nil pass0 (qa (pv 0) (qa pe_int qa_nil))) (fun _ _=>rfl)))
   (qss_cons (qs_if (pt_cmpR op_eq (qe_call G2 (hr.mono (by decide)) (by rfl) T.m__law_next T.k__law_next T.bd__law_next .nil pass0 (qa (pv 0) (qa pe_int qa_nil))) pe_int (nomark _))
    (qss_one (qs_ret (qe_tupA (qa pe_str (qa (pv 1) qa_nil)))))
    qss_nil)
   (qss_cons (qs_set (i:=2) sc_law_row.nd rfl (Or.inl rfl) (qe_call G2 (hr.mono (by decide)) (by rfl) T.m__law_next T.k__law_next T.bd__law_next .nil pass0 (qa (pv 0) (qa pe_int qa_nil))))
   (qss_cons (qs_if (pt_cmpR op_lt (pv 2) pe_int (nomark _))
    (qss_one (qs_ret (qe_tupA (qa pe_str (qa (pv 1) (qa (pe_op op_sub (qe_call G2 (hr.mono (by decide)) (by rfl) T.m__law_next T.k__law_next T.bd__law_next .nil pass0 (qa (pv 0) (qa pe_int qa_nil))) pe_int) qa_nil))))))
    qss_nil)
   (qss_cons (qs_set (i:=3) sc_law_row.nd rfl (Or.inl rfl) pe_int)
   (qss_cons (qs_for PassesOwn.never rfl (qi_range1 (by rfl) T.b_range (qa pe_int qa_nil) (by rfl)) (pg_name (i:=4) sc_law_row.nd rfl (Or.inl rfl))
    (qss_one (qs_set (i:=3) sc_law_row.nd rfl (Or.inl rfl) (pe_op op_add (pe_op op_mul (pv 3) (pe_op op_pow pe_int pe_int)) (qe_call G2 (hr.mono (by decide)) (by rfl) T.m__law_next T.k__law_next T.bd__law_next .nil pass0 (qa (pv 0) (qa (pe_op op_pow pe_int pe_int) qa_nil)))))) (by intro _;rfl))
   (qss_one (qs_ret (qe_tupA (qa pe_str (qa (pv 1) (qa (pe_ix ix_list (qe_lstA (qa (pe_op op_sub (pe_op op_mod (pv 3) (pe_op op_add (pe_op op_mul pe_int (pe_op op_pow pe_int pe_int)) pe_int)) (pe_op op_pow pe_int pe_int)) (qa (pe_op op_pow pe_int pe_int) (qa (pe_op op_sub pe_int (pe_op op_pow pe_int pe_int)) qa_nil)))) (qe_call G2 (hr.mono (by decide)) (by rfl) T.m__law_next T.k__law_next T.bd__law_next .nil pass0 (qa (pv 0) (qa pe_int qa_nil))) (fun _ _=>rfl)) qa_nil)))))))))))),?_⟩
  try dsimp only[cxOf]
  have p5:(10:Int) ^ (5:Int).toNat=100000:=by decide +kernel
  have p18:(10:Int) ^ (18:Int).toNat=1000000000000000000:=by decide +kernel
  have n1:∀ {q:Addr},q∉N→q ∉ [st]:=fun h z=>h (by rw[List.mem_singleton.mp z];exact hst)
  have fr:∀ {H':Hp}{q:Addr},StOk K H' st→Ext [st] H H'→H' q=none→q∉N:=fun S' x' e z=>trN S' x' hN _ z e
  have i1:∀ {z:Int},-1000000000000000000≤z→z≤1000000000000000000→Mt.Itm 140 0 (.int z):=fun h1 h2=>Mt.itm_int (by omega)
  have setI:∀ {z:Str}{v:Int},Mt.keyD (.str z)=true→-1000000000000000000≤v→v≤1000000000000000000→Mt.rowD (.tuple [.str "set",.str z,.int v])=true∧Mt.Itm 1000 3 (.tuple [.str "set",.str z,.int v]):=fun {z v} kz h1 h2=>by
   constructor
   ·rw[Mt.rowD_t,Mt.setL_3,kz]
    simp only[Mt.withinD,decide_eq_true h1,decide_eq_true h2]
    rfl
   ·refine(Mt.itm_tuple (n:=3) (w:=140) (k:=0) (fun d hd=>?_) (by simp)).mono (by decide) (by decide)
    simp only[List.mem_cons,List.not_mem_nil,or_false]at hd
    rcases hd with rfl |rfl |rfl
    ·exact Mt.itm_str (by unfold Mt.cpsOk;decide +kernel) (by decide +kernel)
    ·exact Mt.key_itm kz
    ·exact i1 h1 h2
  walk_at"rq"
  refine⟨sz (by simp),fun l1 H1 m1 s1 g1=>?_⟩
  have S1:=S.tr0.same s1
  walk_at"rq"
  refine⟨st,6,rfl,S1.toStOk,by decide,by decide,fun v2 H2 a2 b2 S2' x2=>?_⟩
  have S2:=S1.trans S2'
  have x02:Ext [st] H H2:=(Ext.same s1).trans x2
  have g2:=x2 _ _ g1 (n1 (fr S (Ext.refl _) m1))
  obtain⟨j,rfl⟩:=Int.eq_ofNat_of_zero_le a2
  have hj:j<6:=by omega
  obtain⟨z,ez,kz⟩:∃z:Str,atI ([.str (Str.ofString "a"),.str (Str.ofString "b"),.str (Str.ofString "c"),.str (Str.ofString "ab"),.str (Str.ofString "zz"),.str (Str.ofString "abcdefghijkl")]:List V) (j:Int)=some (.str z)∧Mt.keyD (.str z)=true:=by
   match j,hj with
   | 0,_=>exact⟨_,rfl,by decide +kernel⟩
   | 1,_=>exact⟨_,rfl,by decide +kernel⟩
   | 2,_=>exact⟨_,rfl,by decide +kernel⟩
   | 3,_=>exact⟨_,rfl,by decide +kernel⟩
   | 4,_=>exact⟨_,rfl,by decide +kernel⟩
   | 5,_=>exact⟨_,rfl,by decide +kernel⟩
  walk_at"rq"
  refine rd_ixL (SqL.of g2) ez ?_
  walk_at"rq"
  refine⟨st,4,rfl,S2.toStOk,by decide,by decide,fun v3 H3 a3 b3 S3' x3=>?_⟩
  have S3:=S2.trans S3'
  have x03:=x02.trans x3
  walk_at"rq"
  refine rd_ite2 (fun hc=>?_) (fun hc=>?_)
  ·walk_at"rq"
   refine⟨sz (by simp),fun t4 H4 m4 s4 g4=>?_⟩
   refine k _ (.tuple [.str "cut",.str z]) _ (.tup (SqT.of g4) (fr S3.toStOk x03 m4) (.cons (.str _) (.cons (.str _) .nil))) ?_ ?_ (S3.same s4) (x03.trans (Ext.same s4))
   ·rw[Mt.rowD_t,Mt.cutL_2,kz];rfl
   ·refine(Mt.itm_tuple (n:=3) (w:=140) (k:=0) (fun d hd=>?_) (by simp)).mono (by decide) (by decide)
    simp only[List.mem_cons,List.not_mem_nil,or_false]at hd
    rcases hd with rfl |rfl
    ·exact Mt.itm_str (by unfold Mt.cpsOk;decide +kernel) (by decide +kernel)
    ·exact Mt.key_itm kz
  ·walk_at"rq"
   refine⟨st,4,rfl,S3.toStOk,by decide,by decide,fun v4 H4 a4 b4 S4' x4=>?_⟩
   have S4:=S3.trans S4'
   have x04:=x03.trans x4
   walk_at"rq"
   refine rd_ite2 (fun hc=>?_) (fun hc=>?_)
   ·walk_at"rq"
    refine⟨st,9,rfl,S4.toStOk,by decide,by decide,fun v5 H5 a5 b5 S5' x5=>?_⟩
    have S5:=S4.trans S5'
    have x05:=x04.trans x5
    walk_at"rq"
    refine⟨sz (by simp),fun t6 H6 m6 s6 g6=>?_⟩
    obtain⟨r1,r2⟩:=setI kz (v:=v5 - 4) (by omega) (by omega)
    exact k _ _ _ (.tup (SqT.of g6) (fr S5.toStOk x05 m6) (.cons (.str _) (.cons (.str _) (.cons (.int _) .nil)))) r1 r2 (S5.same s6) (x05.trans (Ext.same s6))
   ·walk_at"rq"
    have e62:(2:Int) ^ 62=4611686018427387904:=by decide +kernel
    refine⟨by decide +kernel,by decide +kernel,?_⟩
    refine for_rangeW (fun i σ' H'=>∃(f:Int) (o:Option V),σ' = [some (.ref st),some (.str z),some (.int v4),some (.int f),o]∧0≤f∧StOkT K H H' st∧Ext [st] H H') ?_ ?_ ?_
    ·exact⟨0,_,rfl,Int.le_refl _,S4,x04⟩
    ·rintro i σ' H5 hi ⟨f,o,rfl,f0,S5,x5⟩
     walk_at"rq"
     rw[p5]
     refine⟨st,_,rfl,S5.toStOk,by decide,by decide,fun v6 H6 a6 b6 S6' x6=>?_⟩
     have S6:=S5.trans S6'
     walk_at"rq"
     exact⟨_,_,rfl,by omega,S6,x5.trans x6⟩
    ·rintro σ' H5 ⟨f,o,rfl,f0,S5,x5⟩
     dsimp only
     walk_at"rq"
     rw[p18]
     refine⟨sz (by simp),fun l6 H6 m6 s6 g6=>?_⟩
     have S6:=S5.same s6
     walk_at"rq"
     refine⟨st,3,rfl,S6.toStOk,by decide,by decide,fun v7 H7 a7 b7 S7' x7=>?_⟩
     have S7:=S6.trans S7'
     have x67:Ext [st] H H7:=(x5.trans (Ext.same s6)).trans x7
     have g7:=x7 _ _ g6 (n1 (fr S5.toStOk x5 m6))
     obtain⟨j,rfl⟩:=Int.eq_ofNat_of_zero_le a7
     have hj:j<3:=by omega
     have hf0:=Int.emod_nonneg f (b:=2 * 1000000000000000000+1) (by decide)
     have hf1:=Int.emod_lt_of_pos f (b:=2 * 1000000000000000000+1) (by decide)
     obtain⟨w,ew,w0,w1⟩:∃w:Int,atI ([.int (f % (2 * 1000000000000000000+1) - 1000000000000000000),.int 1000000000000000000,.int (0 - 1000000000000000000)]:List V) (j:Int)=some (.int w)∧-1000000000000000000≤w∧w≤1000000000000000000:=by
      match j,hj with
      | 0,_=>exact⟨_,rfl,by omega,by omega⟩
      | 1,_=>exact⟨_,rfl,by omega,by omega⟩
      | 2,_=>exact⟨_,rfl,by omega,by omega⟩
     refine rd_ixL (SqL.of g7) ew ?_
     walk_at"rq"
     refine⟨sz (by simp),fun t8 H8 m8 s8 g8=>?_⟩
     obtain⟨r1,r2⟩:=setI kz w0 w1
     exact k _ _ _ (.tup (SqT.of g8) (fr S7.toStOk x67 m8) (.cons (.str _) (.cons (.str _) (.cons (.int _) .nil)))) r1 r2 (S7.same s8) (x67.trans (Ext.same s8))
noncomputable def sp_law_names (K:PySem.W.Frag)(a:Adr):Sp:=fun vs H Q _=>∃(x:Addr)(dx:Option Addr),vs = [.ref x]∧H x=some (.ext (ExcIs x (.ref a.C_Gap) dx)) ∧
 ∀l H',Same H H'→H' l=some (.lst [.str "Gap"])→Q (.ref l) H'
abbrev glaw_names (P:Program)(w:World)(K:PySem.W.Frag)(mg:Str→Option Value)(base:Heap)(a:Adr):Prop:=FnOk P w K mg base CX0 1 a.f_law_names a.d_law_names ["_law_error"] (sp_law_names K a)
theorem ok_law_names (T:Txt P K mg a)  : glaw_names P w K mg base a:=by
 refine T.F_law_names.ok sc_law_names (fun vs H Q E h=>?_) (fun cdv A outer s H vs Q E hr h=>?_)
 ·obtain⟨x,dx,rfl,_⟩:=h;rfl
 ·obtain⟨x,dx,rfl,ex,k⟩:=h
  refine exW ⟨_,(qss_cons (qs_set (i:=1) sc_law_names.nd rfl (Or.inl rfl) (qe_lstA (qa (qe_callB cn_isiX (by rfl) T.b_isinstance (by decide +kernel) (qa (pv 0) (qa (pe_glob (v:=.ref a.C_NoHistory) (by rfl) T.mC_NoHistory rfl) qa_nil))) (qa (qe_callB cn_isiX (by rfl) T.b_isinstance (by decide +kernel) (qa (pv 0) (qa (pe_glob (v:=.ref a.C_NoPlace) (by rfl) T.mC_NoPlace rfl) qa_nil))) (qa (qe_callB cn_isiX (by rfl) T.b_isinstance (by decide +kernel) (qa (pv 0) (qa (pe_glob (v:=.ref a.C_NoCount) (by rfl) T.mC_NoCount rfl) qa_nil))) qa_nil)))))
   (qss_cons (qs_set (i:=1) sc_law_names.nd rfl (Or.inl rfl) (pe_op op_catA (pv 1) (qe_lstA (qa (qe_callB cn_isiX (by rfl) T.b_isinstance (by decide +kernel) (qa (pv 0) (qa (pe_glob (v:=.ref a.C_Full) (by rfl) T.mC_Full rfl) qa_nil))) (qa (qe_callB cn_isiX (by rfl) T.b_isinstance (by decide +kernel) (qa (pv 0) (qa (pe_glob (v:=.ref a.C_TooEarly) (by rfl) T.mC_TooEarly rfl) qa_nil))) (qa (qe_callB cn_isiX (by rfl) T.b_isinstance (by decide +kernel) (qa (pv 0) (qa (pe_glob (v:=.ref a.C_TooOld) (by rfl) T.mC_TooOld rfl) qa_nil))) qa_nil))))))
   (qss_cons (qs_set (i:=1) sc_law_names.nd rfl (Or.inl rfl) (pe_op op_catA (pv 1) (qe_lstA (qa (qe_callB cn_isiX (by rfl) T.b_isinstance (by decide +kernel) (qa (pv 0) (qa (pe_glob (v:=.ref a.C_Gap) (by rfl) T.mC_Gap rfl) qa_nil))) (qa (qe_callB cn_isiX (by rfl) T.b_isinstance (by decide +kernel) (qa (pv 0) (qa (pe_glob (v:=.ref a.C_NoRow) (by rfl) T.mC_NoRow rfl) qa_nil))) (qa (qe_callB cn_isiX (by rfl) T.b_isinstance (by decide +kernel) (qa (pv 0) (qa (pe_glob (v:=.ref a.C_Elder) (by rfl) T.mC_Elder rfl) qa_nil))) qa_nil))))))
   (qss_cons (qs_setLA (i:=2) sc_law_names.nd rfl (Or.inl rfl) (qa pe_str (qa pe_str (qa pe_str (qa pe_str (qa pe_str (qa pe_str (qa pe_str (qa pe_str (qa pe_str qa_nil))))))))) (by first |exact Or.inl rfl |exact Or.inr rfl))
   (qss_one (qs_ret (by
    refine' pe_comp (NC:=["_law_name","_law_so_here"]) (fr:=[none,none]) ?B5 rfl ?hi5 ?hg5 ?ht5 ?he5 (by intro _;rfl)
    case B5=>exact⟨rfl,rfl,by decide +kernel,by decide +kernel,rfl,⟨trivial,trivial,trivial⟩⟩
    case hi5=>exact(qi_zipL (by rfl) T.b_zip (qa (pv 2) (qa (pv 1) qa_nil)) (by rfl) (by rfl))
    case hg5=>intro _ _ _;exact(pg_tupK (K:=K) (n:=2) (by rfl) rfl (pgs_cons (pg_name (i:=0) (show (["_law_name","_law_so_here"]:List Str).Nodup by decide +kernel) rfl (Or.inl rfl)) (pgs_cons (pg_name (i:=1) (show (["_law_name","_law_so_here"]:List Str).Nodup by decide +kernel) rfl (Or.inl rfl)) pgs_nil)))
    case ht5=>intro _ _ _;exact(pf_one (pt_val (pv 1) (by intro _;rfl)))
    case he5=>intro _ _ _;exact(pv 0)))))))),?_⟩
  try dsimp only[cxOf]
  obtain⟨b1,b2,b3,b4,b5,b6,b7,b8,b9,g,i1,i2,i3,i4,i5,i6,i7,i8,i9,hbs⟩:∃b1 b2 b3 b4 b5 b6 b7 b8 b9:Bool,XG K a.C_Gap∧PySem.W.kitOne K (.ref a.C_Gap) (.ref a.C_NoHistory)=some b1∧PySem.W.kitOne K (.ref a.C_Gap) (.ref a.C_NoPlace)=some b2∧PySem.W.kitOne K (.ref a.C_Gap) (.ref a.C_NoCount)=some b3∧PySem.W.kitOne K (.ref a.C_Gap) (.ref a.C_Full)=some b4∧PySem.W.kitOne K (.ref a.C_Gap) (.ref a.C_TooEarly)=some b5∧PySem.W.kitOne K (.ref a.C_Gap) (.ref a.C_TooOld)=some b6∧PySem.W.kitOne K (.ref a.C_Gap) (.ref a.C_Gap)=some b7∧PySem.W.kitOne K (.ref a.C_Gap) (.ref a.C_NoRow)=some b8∧PySem.W.kitOne K (.ref a.C_Gap) (.ref a.C_Elder)=some b9∧[b1,b2,b3,b4,b5,b6,b7,b8,b9] = [false,false,false,false,false,false,true,false,false] :=
   ⟨_,_,_,_,_,_,_,_,_,T.xg_Gap,T.is_Gap_NoHistory,T.is_Gap_NoPlace,T.is_Gap_NoCount,T.is_Gap_Full,T.is_Gap_TooEarly,T.is_Gap_TooOld,T.is_Gap_Gap,T.is_Gap_NoRow,T.is_Gap_Elder,rfl⟩
  have ty:∀ {H':Hp},Same H H'→TyX K H' (.ref x) (.ref a.C_Gap):=fun s=>.exc (s _ _ ex) g
  walk_at"rd"
  refine rd_isiX (ty (Same.refl _)) rfl i1 ?_
  walk_at"rd"
  refine rd_isiX (ty (Same.refl _)) rfl i2 ?_
  walk_at"rd"
  refine rd_isiX (ty (Same.refl _)) rfl i3 ?_
  walk_at"rd"
  refine⟨sz (by simp),fun l1 H1 n1 s1 e1=>?_⟩
  walk_at"rd"
  refine rd_isiX (ty s1) rfl i4 ?_
  walk_at"rd"
  refine rd_isiX (ty s1) rfl i5 ?_
  walk_at"rd"
  refine rd_isiX (ty s1) rfl i6 ?_
  walk_at"rd"
  refine⟨sz (by simp),fun l2 H2 n2 s2 e2=>?_⟩
  refine rd_catA (s2 _ _ e1) e2 (sz (by simp)) fun l3 H3 n3 s3 e3=>?_
  have t3:=(s1.trans s2).trans s3
  walk_at"rd"
  refine rd_isiX (ty t3) rfl i7 ?_
  walk_at"rd"
  refine rd_isiX (ty t3) rfl i8 ?_
  walk_at"rd"
  refine rd_isiX (ty t3) rfl i9 ?_
  walk_at"rd"
  refine⟨sz (by simp),fun l4 H4 n4 s4 e4=>?_⟩
  refine rd_catA (s4 _ _ e3) e4 (sz (by simp)) fun l5 H5 n5 s5 e5=>?_
  walk_at"rd"
  refine⟨sz (by simp),fun l6 H6 n6 s6 e6=>?_⟩
  have e5':=s6 _ _ e5
  walk_at"rd"
  refine⟨l6,l5,rfl,⟨_,SqL.of e6⟩,⟨_,SqL.of e5'⟩,?_⟩
  intro acc hacc nka
  have t6:Same H H6:=((t3.trans s4).trans s5).trans s6
  have nac6:l6≠acc:=fun z=>by rw[← z,e6]at hacc;cases hacc
  have nac5:l5≠acc:=fun z=>by rw[← z,e5']at hacc;cases hacc
  refine comp_byF 9 (by decide) (fun i vs σc H'=>Same H6 H'∧(∃o1 o2,σc = [o1,o2])∧vs=((["NoHistory","NoPlace","NoCount","Full","TooEarly","TooOld","Gap","NoRow","Elder"].zip [b1,b2,b3,b4,b5,b6,b7,b8,b9]).take i).filterMap fun p=>if p.2 then some (V.str (Str.ofString p.1)) else none) ?_ ?_ ?_
  ·exact⟨(Same.refl H6).upd2 hacc,⟨none,none,rfl⟩,by simp⟩
  ·rintro i vs σc H7 hi hl7 ha7 ⟨s7,⟨o1,o2,rfl⟩,rfl⟩
   have q6:=SqL.of (K:=K) (s7 _ _ e6)
   have q5:=SqL.of (K:=K) (s7 _ _ e5')
   generalize hss:["NoHistory","NoPlace","NoCount","Full","TooEarly","TooOld","Gap","NoRow","Elder"]=ss at *
   generalize hbl:[b1,b2,b3,b4,b5,b6,b7,b8,b9]=bs at *
   have w6:SqL K H7 l6 (ss.map fun s=>V.str (Str.ofString s)):=by rw[← hss];exact q6
   have w5:SqL K H7 l5 (bs.map V.bl):=by rw[← hbl];exact q5
   obtain⟨s',hs'⟩:∃s',ss[i]? = some s':=⟨_,List.getElem?_eq_getElem (by rw[← hss];exact hi)⟩
   obtain⟨b',hb'⟩:∃b',bs[i]? = some b':=⟨_,List.getElem?_eq_getElem (by rw[← hbl];exact hi)⟩
   have hz:(ss.zip bs)[i]? = some (s',b'):=by rw[List.getElem?_zip_eq_some];exact⟨hs',hb'⟩
   have tk:(ss.zip bs).take (i+1)=(ss.zip bs).take i ++ [(s',b')]:=by rw[List.take_succ,hz];rfl
   have g6:(ss.map fun s=>V.str (Str.ofString s))[i]? = some (V.str (Str.ofString s')):=by rw[List.getElem?_map,hs'];rfl
   have g5:(bs.map V.bl)[i]? = some (V.bl b'):=by rw[List.getElem?_map,hb'];rfl
   refine⟨⟨_,_,_,_,w6,w5,g6,g5⟩,?_⟩
   rintro y H8 ⟨t,y1,y2,ht,hy1,hy2,rfl,rfl⟩ R S hR hS
   have ey1:=hy1 _ w6
   have ey2:=hy2 _ w5
   rw[g6]at ey1;cases ey1
   rw[g5]at ey2;cases ey2
   have nt:acc≠t:=fun z=>by rw[z,ht]at ha7;cases ha7
   have s78:Same H7 (upd H7 t (.tup [.str (Str.ofString s'),.bl b'])):=Same.upd ht
   walk_at"rd"
   cases b' with
   | true =>
    walk_at"rd"
    refine hR _ _ _ (by rw[upd_ne nt];exact ha7) ⟨(s7.trans s78).upd2 hacc,⟨_,_,rfl⟩,?_⟩
    rw[tk,List.filterMap_append];rfl
   | false =>
    walk_at"rd"
    refine hS _ _ (by rw[upd_ne nt];exact ha7) ⟨s7.trans s78,⟨_,_,rfl⟩,?_⟩
    rw[tk,List.filterMap_append];simp
  ·rintro vs σc H7 hl7 ha7 ⟨s7,_,rfl⟩
   refine⟨⟨_,_,SqL.of (s7 _ _ e6),SqL.of (s7 _ _ e5'),.inl (by simp)⟩,?_⟩
   walk_at"rd"
   refine k acc H7 (t6.trans s7) ?_
   rw[ha7]
   simp only[List.cons.injEq,and_true]at hbs
   obtain⟨rfl,rfl,rfl,rfl,rfl,rfl,rfl,rfl,rfl⟩:=hbs
   rfl
noncomputable def sp_law_at (K:PySem.W.Frag):Sp:=fun vs H Q _=>∃(N:List Addr)(hp:Addr)(hs:List (Int×Int))(pl:Int),vs = [.ref hp,.int pl]∧Mt.HOK hs∧Dt K N H (.ref hp) (.tuple (hs.map Mt.pr))∧0≤pl∧pl≤1000000∧∀H',Same H H'→Q (.int (Mt.lineOf hs pl)) H'
abbrev glaw_at (P:Program)(w:World)(K:PySem.W.Frag)(mg:Str→Option Value)(base:Heap)(a:Adr):Prop:=FnOk P w K mg base CX0 1 a.f_law_at a.d_law_at ["_law_past","_law_place"] (sp_law_at K)
theorem ok_law_at (T:Txt P K mg a)  : glaw_at P w K mg base a:=by
 refine T.F_law_at.ok sc_law_at (fun vs H Q E h=>?_) (fun cdv A outer s H vs Q E hr h=>?_)
 ·obtain⟨N,hp,hs,pl,rfl,_⟩:=h;rfl
 ·obtain⟨N,hp,hs,pl,rfl,ho,hd,h0,h1,k⟩:=h
  refine exW ⟨_,(qss_cons (qs_set (i:=2) sc_law_at.nd rfl (Or.inl rfl) (pe_ix ix_tup (pe_ix ix_tup (pv 0) pe_int (fun _ _=>rfl)) pe_int (fun _ _=>rfl)))
   (qss_cons (qs_for PassesOwn.never rfl (pi_tup (pv 0)) (pg_tup (n:=2) rfl (pgs_cons (pg_name (i:=3) sc_law_at.nd rfl (Or.inl rfl)) (pgs_cons (pg_name (i:=4) sc_law_at.nd rfl (Or.inl rfl)) pgs_nil)))
    (qss_one (qs_if (pt_cmpR op_lt (pv 4) (pv 1) (nomark _))
     (qss_one (qs_set (i:=2) sc_law_at.nd rfl (Or.inl rfl) (pv 3)))
     qss_nil)) (by intro _;rfl))
   (qss_one (qs_ret (pv 2))))),?_⟩
  try dsimp only[cxOf]
  have s1:=Same.refl H
  have hd1:=hd
  walk_at"rd"
  cases hd1 with
  | tup hq hn hr =>
   rename_i xs
   have g1:=ho.len1
   have hl:=hr.length
   rw[List.length_map]at hl
   obtain⟨v0,d0,f1,f2,f3⟩:=hr.at (i:=0) (by rw[List.length_map];omega)
   obtain⟨l0,fk0,hs1,rfl⟩:∃l0 fk0 hs1,hs=(l0,fk0) :: hs1:=by
    cases hs with
    | nil=>simp at g1
    | cons p r=>exact⟨p.1,p.2,r,rfl⟩
   have e0:d0=Mt.pr (l0,fk0):=by simpa using f2.symm
   rw[e0]at f3
   obtain⟨q0,rfl,hq0,_⟩:=f3.pair
   refine rd_ixT hq (atI_nat (j:=0) f1) ?_
   walk_at"rd"
   refine⟨_,rfl,⟨xs,hq⟩,?_⟩
   refine for_tupW (xs:=xs) (fun i σ' H'=>∃o3 o4:Option V,σ' = [some (.ref hp),some (.int pl),some (.int ((((l0,fk0) :: hs1).take i).foldl (Mt.stepL pl) l0)),o3,o4]∧H'=H) ?_ ?_ ?_ ?_
   ·exact⟨_,_,rfl,rfl⟩
   ·rintro i σ' H2 hi ⟨o3,o4,rfl,rfl⟩
    exact hq
   ·rintro i x σ' H2 hx ⟨o3,o4,rfl,rfl⟩
    obtain⟨d,e1,e2⟩:=hr.get hx
    rw[List.getElem?_map]at e1
    obtain⟨⟨l,f⟩,hlf,rfl⟩:=Option.map_eq_some_iff.mp e1
    obtain⟨q,rfl,hq2,_⟩:=e2.pair
    walk_at"rd"
    rw[Mt.lineOf_take hlf]
    refine rd_ite2 (fun c1=>?_) (fun c1=>?_)
    ·walk_at"rd"
     refine⟨some (.int l),some (.int f),?_,rfl⟩
     rw[show Mt.stepL pl (((((l0,fk0) :: hs1).take i)).foldl (Mt.stepL pl) l0) (l,f)=l from if_pos (of_decide_eq_true c1)]
     rfl
    ·walk_at"rd"
     refine⟨some (.int l),some (.int f),?_,rfl⟩
     rw[show Mt.stepL pl (((((l0,fk0) :: hs1).take i)).foldl (Mt.stepL pl) l0) (l,f)=_ from if_neg (of_decide_eq_false c1)]
     rfl
   ·rintro σ' H2 ⟨o3,o4,rfl,rfl⟩
    walk_at"rd"
    have e:((l0,fk0) :: hs1).take xs.length=(l0,fk0) :: hs1:=by rw[hl];exact List.take_length
    rw[e]
    exact k _ s1
noncomputable def sp_law_so (K:PySem.W.Frag)(a:Adr):Sp:=fun vs H Q _=>∃(N:List Addr)(p:Addr)(hv:V)(hs:List (Int×Int))(fl:Int)(ra:Addr)(ws:List V)(ds:List PyData)(M:List Addr)(hw rl:Addr)(us:List V)(es:List PyData),vs = [.ref p,.ref hw,.int fl,.ref rl]∧LgAt K N a.C_Log H p hv hs fl ra ws ds∧Dt K M H (.ref hw) (.tuple (hs.map Mt.pr))∧H rl=some (.lst us)∧DtAll K M H us es∧ds=es.drop fl.toNat∧fl≤es.length∧∀H',Same H H'→Q (.bl true) H'
abbrev glaw_so (P:Program)(w:World)(K:PySem.W.Frag)(mg:Str→Option Value)(base:Heap)(a:Adr):Prop:=FnOk P w K mg base CX0 5 a.f_law_so a.d_law_so ["_law_log","_law_past","_law_low","_law_rows"] (sp_law_so K a)
theorem ok_law_so (T:Txt P K mg a)(G26:gLog___len P w K mg base a)(G1:gLog_end P w K mg base a)(G27:gLog_floor P w K mg base a)(G28:gLog_history P w K mg base a)(G9:gLog_line P w K mg base a)(G10:gLog_rows P w K mg base a)(G3:glaw_alike P w K mg base a):glaw_so P w K mg base a:=by
 refine T.F_law_so.ok sc_law_so (fun vs H Q E h=>?_) (fun cdv A outer s H vs Q E hr h=>?_)
 ·obtain⟨N,p,hv,hs,fl,ra,ws,ds,M,hw,rl,us,es,rfl,_⟩:=h;rfl
 ·obtain⟨N,p,hv,hs,fl,ra,ws,ds,M,hw,rl,us,es,rfl,L,hp,q,r,eds,hfl,k⟩:=h
  obtain⟨dx,h1⟩:=L.ob
  have f0:=L.f0
  have lw:=L.len
  have lu:=r.length
  have ldes:fl+(ds.length:Int)=es.length:=by rw[eds,List.length_drop];omega
  obtain⟨rt,rdp⟩:=Mt.rows_only fun d h=>(L.g d h).1
  have ho:=L.ho
  obtain⟨hs1,ll,lf,rfl⟩:=ho.snoc
  obtain⟨hq,hys,e0,hn,hqs,hr0⟩:=dt_tupN hp
  cases e0
  rw[List.map_append,List.map_cons,List.map_nil]at hr0
  obtain⟨zs,y,rfl,r1,r2⟩:=DtAll.snoc hr0
  obtain⟨q1,rfl,hq2,nq⟩:=Dt.pair r2
  refine exW ⟨_,(qss_cons (qs_if (pw_or (pt_not (pt_val (qe_call G3 (hr.mono (by decide)) (by rfl) T.m__law_alike T.k__law_alike T.bd__law_alike .nil pass0 (qa (pe_meth0 (pv 0) T.cl_Log T.mt_Log_history G28 (hr.mono (by decide)) T.bd_Log_history .nil pass0 (by rfl)) (qa (pv 1) qa_nil))) (by intro _;rfl))) (pw_or1 (pt_not (pt_val (qe_call G3 (hr.mono (by decide)) (by rfl) T.m__law_alike T.k__law_alike T.bd__law_alike .nil pass0 (qa (qe_lstA (qa (pe_meth0 (pv 0) T.cl_Log T.mt_Log_floor G27 (hr.mono (by decide)) T.bd_Log_floor .nil pass0 (by rfl)) (qa (pe_meth0 (pv 0) T.cl_Log T.mt_Log_end G1 (hr.mono (by decide)) T.bd_Log_end .nil pass0 (by rfl)) qa_nil))) (qa (qe_lstA (qa (pv 2) (qa (qe_callB cn_len (by rfl) T.b_len (by decide +kernel) (qa (pv 3) qa_nil)) qa_nil))) qa_nil))) (by intro _;rfl))))).pt
    (qss_one (qs_ret pe_bl))
    qss_nil)
   (qss_cons (qs_if (pw_or (pt_not (pt_val (qe_call G3 (hr.mono (by decide)) (by rfl) T.m__law_alike T.k__law_alike T.bd__law_alike .nil pass0 (qa (pe_meth0 (pv 0) T.cl_Log T.mt_Log_line G9 (hr.mono (by decide)) T.bd_Log_line .nil pass0 (by rfl)) (qa (pe_ix ix_tup (pe_ix ix_tup (pv 1) (pe_un un_neg pe_int) (fun _ _=>rfl)) pe_int (fun _ _=>rfl)) qa_nil))) (by intro _;rfl))) (pw_or1 (pt_not (pt_val (qe_call G3 (hr.mono (by decide)) (by rfl) T.m__law_alike T.k__law_alike T.bd__law_alike .nil pass0 (qa (qe_callB (cn_lenO T.mt_Log___len G26 (hr.mono (by decide)) T.bd_Log___len pass0) (by rfl) T.b_len (by decide +kernel) (qa (pv 0) qa_nil)) (qa (pe_op op_sub (qe_callB cn_len (by rfl) T.b_len (by decide +kernel) (qa (pv 3) qa_nil)) (pv 2)) qa_nil))) (by intro _;rfl))))).pt
    (qss_one (qs_ret pe_bl))
    qss_nil)
   (qss_one (qs_ret (qe_call G3 (hr.mono (by decide)) (by rfl) T.m__law_alike T.k__law_alike T.bd__law_alike .nil pass0 (qa (qe_methXD (pv 0) T.cl_Log T.mt_Log_rows G10 (hr.mono (by decide)) T.dK_Log_rows (.cons (show RelV .non .none from rfl) .nil) px0 (qa (pv 2) qa_nil) (by rfl) (by rfl) (by rfl)) (qa (qe_callTy (cn_tupleA (K:=K) (by rfl)) (by rfl) T.b_tuple (by decide +kernel) (qa (pe_slice (sl_listA (K:=K) (by rfl)) (pv 3) (po_some (pv 2)) po_none) qa_nil)) qa_nil))))))),?_⟩
  try dsimp only[cxOf]
  walk_at"rq"
  refine⟨p,dx,_,rfl,h1,loF_no (by decide +kernel) (by decide +kernel) (by decide +kernel),?_⟩
  walk_at"rq"
  refine⟨N,p,hv,_,fl,ra,ws,ds,rfl,L,?_⟩
  walk_at"rq"
  refine⟨N,M,hv,.ref hw,_,rfl,L.h,hp,.inl (by simp only[Mt.tupOnly];exact Mt.map_tupOnly _),by have:=Mt.map_depth (hs1 ++ [(ll,lf)]);simp only[PyData.depth];omega,fun H2 s2=>?_⟩
  walk_at"rq"
  refine⟨p,dx,_,rfl,s2 _ _ h1,loF_no (by decide +kernel) (by decide +kernel) (by decide +kernel),?_⟩
  have Lb:=L.same s2
  walk_at"rq"
  refine⟨N,p,hv,_,fl,ra,ws,ds,rfl,Lb,?_⟩
  walk_at"rq"
  refine⟨p,dx,_,rfl,s2 _ _ h1,loF_no (by decide +kernel) (by decide +kernel) (by decide +kernel),?_⟩
  walk_at"rq"
  refine⟨N,p,hv,_,fl,ra,ws,ds,rfl,Lb,?_⟩
  walk_at"rq"
  refine⟨sz (by simp),fun la H3 na s3 e3=>?_⟩
  have q3:SqL K H3 rl us:=SqL.of (s3 _ _ (s2 _ _ q))
  walk_at"rq"
  refine⟨sz (by simp),fun lb H4 nb s4 e4=>?_⟩
  have s34:=s3.trans s4
  have tri:∀ {H':Hp}{l:Addr}{x y:Int},H' l=some (.lst [.int x,.int y])→Dt K [] H' (.ref l) (.list [.int x,.int y]):=fun z=>.lst (SqL.of z) (by simp) (.cons (.int _) (.cons (.int _) .nil))
  walk_at"rq"
  refine⟨[],[],_,_,_,rfl,tri (s4 _ _ e3),tri (by rw[lu,← ldes]at e4;exact e4),.inr ⟨_,rfl,rfl⟩,by simp[PyData.depth,PyData.depthAll],fun H5 s5=>?_⟩
  have sA:Same H H5:=(s2.trans s34).trans s5
  have LA:=L.same sA
  obtain⟨dx5,h5⟩:=LA.ob
  walk_at"rq"
  refine⟨p,dx5,_,rfl,h5,loF_no (by decide +kernel) (by decide +kernel) (by decide +kernel),?_⟩
  walk_at"rq"
  refine⟨N,p,hv,_,fl,ra,ws,ds,hs1,ll,lf,rfl,LA,rfl,?_⟩
  walk_at"rq"
  refine rd_ixT (sA.tupS hqs) (atI_last zs _) ?_
  walk_at"rq"
  refine rd_ixT (sA.tupS hq2) rfl ?_
  walk_at"rq"
  refine⟨[],[],_,_,_,rfl,.int ll,.int ll,.inl rfl,by simp[PyData.depth],fun H6 s6=>?_⟩
  have sB:=sA.trans s6
  have LB:=L.same sB
  obtain⟨dx6,h6⟩:=LB.ob
  have q6:SqL K H6 rl us:=SqL.of (sB _ _ q)
  walk_at"rq"
  refine⟨p,dx6,_,rfl,h6,⟨N,p,hv,_,fl,ra,ws,ds,rfl,LB,?_⟩⟩
  have hn0:(ds.length:Int)<2 ^ 63:=by have:=L.n;omega
  refine⟨_,rfl,by omega,hn0,?_⟩
  walk_at"rq"
  refine⟨[],[],_,_,.int ds.length,rfl,.int _,by rw[lu,← ldes,show fl+(ds.length:Int) - fl=ds.length by omega];exact .int _,.inl rfl,by simp[PyData.depth],fun H7 s7=>?_⟩
  have sC:=sB.trans s7
  have LC:=L.same sC
  obtain⟨dx7,h7⟩:=LC.ob
  walk_at"rq"
  refine⟨p,dx7,_,rfl,h7,loF_no (by decide +kernel) (by decide +kernel) (by decide +kernel),?_⟩
  walk_at"rq"
  refine⟨N,p,hv,_,fl,ra,ws,ds,[],_,_,_,_,rfl,LC,.int fl,.non,.inr (.inr ⟨fl,rfl,Int.le_refl _,by omega,.inr (.inl ⟨rfl,fun t H8 nt s8 g8=>?_⟩)⟩)⟩
  rw[show (fl - fl).toNat=0 by omega,List.drop_zero]at g8
  have sD:=sC.trans s8
  have wk:∀ {M:List Addr}{H':Hp}{vs:List V}{cs:List PyData},Same H H'→DtAll K M H vs cs→DtAll K [] H' vs cs:=fun s r=>(r.ext (Ext.same s)).weaken (by simp)
  have rdt:Dt K [] H8 (.ref t) (.tuple ds):=.tup (SqT.of g8) (by simp) (wk sD L.d)
  have q8:SqL K H8 rl us:=SqL.of (sD _ _ q)
  walk_at"rq"
  intro l9 H9 n9 s9 g9
  rw[cutV_from f0 (by omega)]at g9
  have r9:DtAll K M H (us.drop fl.toNat) ds:=by rw[eds];exact r.drop _
  walk_at"rq"
  intro l10 H10 _ s10 g10
  have sE:=sD.trans (s9.trans s10)
  walk_at"rq"
  refine⟨[],[],_,_,.tuple ds,rfl,rdt.ext (Ext.same (s9.trans s10)),.tup g10 (by simp) (wk sE r9),.inl (by simpa [Mt.tupOnly]using rt),by simp only[PyData.depth];omega,fun H11 s11=>?_⟩
  exact k _ (sE.trans s11)
noncomputable def sp_law_gap_so (K:PySem.W.Frag)(a:Adr):Sp:=fun vs H Q _=>∃(N:List Addr)(p:Addr)(hv:V)(hs:List (Int×Int))(fl:Int)(ra:Addr)(ws:List V)(ds:List PyData)(hv2:V)(hs2:List (Int×Int))(pl:Int)(tb:Addr)(us:List V)(es:List PyData),vs = [.ref p,hv2,.int pl,.ref tb]∧LgAt K N a.C_Log H p hv hs fl ra ws ds∧Dt K N H hv2 (.tuple (hs2.map Mt.pr))∧Mt.HOK hs2∧SqT K H tb us∧DtAll K N H us es∧tb∉N∧(∀e∈es,Mt.rowD e=true∧Mt.Itm 1000 3 e)∧fl+ds.length<pl∧∀H',Same H H'→Q (.bl true) H'
abbrev glaw_gap_so (P:Program)(w:World)(K:PySem.W.Frag)(mg:Str→Option Value)(base:Heap)(a:Adr):Prop:=FnOk P w K mg base CX0 5 a.f_law_gap_so a.d_law_gap_so ["_law_log","_law_past","_law_place","_law_rows"] (sp_law_gap_so K a)
theorem ok_law_gap_so (T:Txt P K mg a)(G11:gLog_add_rows P w K mg base a)(G1:gLog_end P w K mg base a)(G3:glaw_alike P w K mg base a)(G29:glaw_names P w K mg base a):glaw_gap_so P w K mg base a:=by
 refine T.F_law_gap_so.ok sc_law_gap_so (fun vs H Q E h=>?_) (fun cdv A outer s H vs Q E hr h=>?_)
 ·obtain⟨N,p,hv,hs,fl,ra,ws,ds,hv2,hs2,pl,tb,us,es,rfl,_⟩:=h;rfl
 ·obtain⟨N,p,hv,hs,fl,ra,ws,ds,hv2,hs2,pl,tb,us,es,rfl,L,hd2,ho2,qt,rt,nt,gt,hpl,k⟩:=h
  obtain⟨dx0,h1⟩:=L.ob
  have f0:=L.f0
  obtain⟨hs1,ll,lf,ehs⟩:=L.ho.snoc
  obtain⟨hs3,l2,f2,ehs2⟩:=ho2.snoc
  refine exW ⟨_,(qss_cons (qs_set (i:=4) sc_law_gap_so.nd rfl (Or.inl rfl) pe_non)
   (qss_cons (qs_try (i:=5) (c:="LineError") sc_law_gap_so.nd rfl rfl (by rfl) T.mC_LineError rfl rfl rfl (fun _ _ XR hx =>
    (qss_one (qs_expr (qe_methX (pv 0) T.cl_Log T.mt_Log_add_rows G11 (hr.mono (by decide)) T.bd_Log_add_rows hx (qa (pv 1) (qa (pv 2) (qa (pv 3) qa_nil))) (by rfl) (by rfl) (by rfl))))) (fun _ =>
    (qss_one (qs_set (i:=4) sc_law_gap_so.nd rfl (Or.inl rfl) (pv 5)))) (by decide))
   (qss_cons (qs_if (pw_or (pt_cmpR on_isN (pv 4) pe_non (nomark _)) (pw_or (pt_not (pt_val (qe_callB cn_isiX (by rfl) T.b_isinstance (by decide +kernel) (qa (pv 4) (qa (pe_bltn (by rfl) T.b_ValueError (by decide +kernel) (v:=.ty "ValueError") rfl) qa_nil))) (by intro _;rfl))) (pw_or1 (pt_cmpR (on_neD hr) (qe_call G29 (hr.mono (by decide)) (by rfl) T.m__law_names T.k__law_names T.bd__law_names .nil pass0 (qa (pv 4) qa_nil)) (qe_lstA (qa pe_str qa_nil)) (nomark _))))).pt
    (qss_one (qs_ret pe_bl))
    qss_nil)
   (qss_one (qs_ret (qe_call G3 (hr.mono (by decide)) (by rfl) T.m__law_alike T.k__law_alike T.bd__law_alike .nil pass0 (qa (pe_xat (pv 4) (by rfl)) (qa (pe_meth0 (pv 0) T.cl_Log T.mt_Log_end G1 (hr.mono (by decide)) T.bd_Log_end .nil pass0 (by rfl)) qa_nil)))))))),?_⟩
  try dsimp only[cxOf]
  have fin1:∀ {H1:Hp}{dx ee:Addr}{C:Addr}{f:Str}{z:V},Same H H1→H1 dx=none→upd H1 dx (.xd [(f,z)]) ee=none →
    Same H (upd (upd H1 dx (.xd [(f,z)])) ee (.ext (ExcIs ee (.ref C) (some dx))))∧upd (upd H1 dx (.xd [(f,z)])) ee (.ext (ExcIs ee (.ref C) (some dx))) dx=some (.xd [(f,z)]):=fun {H1 dx ee C f z} s hdx he0=>by
   have nx:dx≠ee:=fun q=>by rw[q,upd_same]at he0;cases he0
   exact⟨s.trans ((Same.upd hdx).trans (Same.upd he0)),by rw[upd_ne nx];exact upd_same⟩
  have one:∀ {H':Hp}{p:Addr}{s:Str},H' p=some (.lst [.str s])→Dt K [] H' (.ref p) (.list [.str s]):=fun z=>.lst (SqL.of z) (by simp) (.cons (.str _) .nil)
  have same1:∀s:Str,PyData.eqv (.list [.str s]) (.list [.str s])=true:=fun s=>by simp[PyData.eqv,PyData.eqvAll]
  walk_at"rq"
  refine⟨p,_,_,rfl,h1,loF_no (by decide +kernel) (by decide +kernel) (by decide +kernel),?_⟩
  walk_at"rq"
  refine⟨N,p,hv,hs,fl,ra,ws,ds,hv2,hs2,hs3,l2,f2,ll,lf,hs1,[],.int pl,.int pl,tb,us,es,rfl,L,ehs,hd2,ho2,ehs2,.int pl,qt,rt,nt,gt,.inl ⟨by simp[Mt.withinD];omega,fun dx hdx=>⟨T.ex_Gap_LineError,fun ee he0=>?_⟩⟩⟩
  obtain⟨s2,g2⟩:=fin1 (C:=a.C_Gap) (Same.refl H) hdx he0
  have ex:upd (upd H dx (.xd [("place",.int (fl+ds.length))])) ee (.ext (ExcIs ee (.ref a.C_Gap) (some dx))) ee=some (.ext (ExcIs ee (.ref a.C_Gap) (some dx))):=upd_same
  generalize upd (upd H dx (.xd [("place",.int (fl+ds.length))])) ee (.ext (ExcIs ee (.ref a.C_Gap) (some dx)))=H2 at s2 g2 ex ⊢
  have ty:∀ {H':Hp},Same H2 H'→TyX K H' (.ref ee) (.ref a.C_Gap):=fun s=>.exc (s _ _ ex) T.xg_Gap
  walk_at"rq"
  refine rd_isiX (ty (Same.refl _)) rfl T.is_Gap_ValueError ?_
  walk_at"rq"
  refine⟨ee,some dx,rfl,ex,fun l3 H3 s3 g3=>?_⟩
  walk_at"rq"
  refine⟨sz (by simp),fun l4 H4 n4 s4 g4=>?_⟩
  refine rd_neD (N:=[]) (one (s4 _ _ g3)) (one g4) (by decide +kernel) (by decide +kernel) ?_
  rw[same1]
  have s24:=s3.trans s4
  have L4:=L.same (s2.trans s24)
  obtain⟨dx4,h4⟩:=L4.ob
  walk_at"rq"
  refine⟨ee,_,dx,_,_,_,rfl,s24 _ _ ex,T.xg_Gap,T.Z_Gap.xc,T.Z_Gap.x1.no,s24 _ _ g2,rfl,?_⟩
  walk_at"rq"
  refine⟨p,dx4,_,rfl,h4,loF_no (by decide +kernel) (by decide +kernel) (by decide +kernel),?_⟩
  walk_at"rq"
  refine⟨N,p,hv,hs,fl,ra,ws,ds,rfl,L4,?_⟩
  walk_at"rq"
  refine⟨[],[],_,_,.int (fl+ds.length),rfl,.int _,.int _,.inl rfl,by simp[PyData.depth],fun H5 s5=>?_⟩
  exact k _ ((s2.trans s24).trans s5)
noncomputable def sp_law_handed (K:PySem.W.Frag)(a:Adr):Sp:=fun vs H Q _=>∃(st:Addr)(x0:V)(N:List Addr)(p:Addr)(hv:V)(hs:List (Int×Int))(fl:Int)(ra:Addr)(ws:List V)(ds:List PyData)(pt hp rl:Addr)(ex:List (Int×Int))(us:List V)(es:List PyData)(low:Int)(en:Nat),vs = [.ref st,x0,.ref p,.ref pt]∧StOk K H st∧LgAt K N a.C_Log H p hv hs fl ra ws ds∧(∀b∈N,H b≠none)∧st∈N∧p∈N∧ra∈N∧p≠st∧ra≠st∧rl≠st∧rl≠p∧rl≠ra∧(∀c b,H st=some (.lst (.ref c :: b))→ra≠c) ∧
 H pt=some (.lst [.ref hp,.ref rl,.int low,.int en])∧fl+ds.length=en∧Dt K N H (.ref hp) (.tuple ((hs ++ ex).map Mt.pr))∧Mt.HOK (hs ++ ex)∧H rl=some (.lst us)∧DtAll K N H us es∧(∀e∈es,Mt.rowD e=true∧Mt.Itm 1000 3 e)∧ds=(es.take en).drop fl.toNat∧en≤es.length∧es.length≤40∧0≤low∧low≤es.length ∧
 ∀(l:Addr) (b:Bool) (m:Nat) (hv':V) (hs':List (Int×Int)) (ws':List V) (ds':List PyData) (H':Hp),H' l=some (.lst [.bl true,.int (en+m),.bl b])→LgAt K N a.C_Log H' p hv' hs' fl ra ws' ds'→fl+ds'.length=(en:Int)+m→ds'=(es.take (en+m)).drop fl.toNat→en+m≤es.length→((b=true∧hs'=hs ++ ex)∨(b=false∧hs'=hs∧m=0))→StOkT K H H' st→Ext [st,p,ra] H H'→Q (.ref l) H'
abbrev glaw_handed (P:Program)(w:World)(K:PySem.W.Frag)(mg:Str→Option Value)(base:Heap)(a:Adr):Prop:=FnOk P w K mg base CX0 6 a.f_law_handed a.d_law_handed ["_law_state_here","_law_first","_law_second","_law_parts"] (sp_law_handed K a)
theorem ok_law_handed (T:Txt P K mg a)(G11:gLog_add_rows P w K mg base a)(G3:glaw_alike P w K mg base a)(G30:glaw_gap_so P w K mg base a)(G2:glaw_next P w K mg base a):glaw_handed P w K mg base a:=by
 refine T.F_law_handed.ok sc_law_handed (fun vs H Q E h=>?_) (fun cdv A outer s H vs Q E hr h=>?_)
 ·obtain⟨st,x0,N,p,hv,hs,fl,ra,ws,ds,pt,hp,rl,ex,us,es,low,en,rfl,_⟩:=h;rfl
 ·obtain⟨st,x0,N,p,hv,hs,fl,ra,ws,ds,pt,hp,rl,ex,us,es,low,en,rfl,S,L,hN,hst,hpN,hra,nps,nrs,nls,nlp,nlr,ncc,gpt,efl,hd,hho,grl,rr,gr,eds,en1,e40,low0,low1,k⟩:=h
  have f0:=L.f0
  have lu:=rr.length
  have lx:∀ {H1 H2:Hp},LgAt K N a.C_Log H1 p hv hs fl ra ws ds→Ext [st] H1 H2→LgAt K N a.C_Log H2 p hv hs fl ra ws ds:=fun L x=>L.ext x (by simpa using hst) (by simpa using nps) (by simpa using nrs)
  have nst:∀ {H':Hp}{q:Addr},StOk K H' st→H' q=none→q ∉ [st]:=fun S z e=>S.ne z (List.mem_singleton.mp e)
  refine exW ⟨_,(qss_cons (qs_asg (pv 3) (pg_lst (n:=4) rfl (pgs_cons (pg_name (i:=4) sc_law_handed.nd rfl (Or.inl rfl)) (pgs_cons (pg_name (i:=5) sc_law_handed.nd rfl (Or.inl rfl)) (pgs_cons (pg_name (i:=6) sc_law_handed.nd rfl (Or.inl rfl)) (pgs_cons (pg_name (i:=7) sc_law_handed.nd rfl (Or.inl rfl)) pgs_nil)))) (by rfl) (by rfl)))
   (qss_cons (qs_set (i:=8) sc_law_handed.nd rfl (Or.inl rfl) (pe_ix ix_list (qe_lstA (qa (pv 7) (qa (qe_call G2 (hr.mono (by decide)) (by rfl) T.m__law_next T.k__law_next T.bd__law_next .nil pass0 (qa (pv 0) (qa (pe_op op_add (pv 7) pe_int) qa_nil))) (qa (pe_op op_add (pe_op op_add (pv 7) pe_int) (qe_call G2 (hr.mono (by decide)) (by rfl) T.m__law_next T.k__law_next T.bd__law_next .nil pass0 (qa (pv 0) (qa pe_int qa_nil)))) qa_nil)))) (qe_call G2 (hr.mono (by decide)) (by rfl) T.m__law_next T.k__law_next T.bd__law_next .nil pass0 (qa (pv 0) (qa pe_int qa_nil))) (fun _ _=>rfl)))
   (qss_cons (qs_set (i:=8) sc_law_handed.nd rfl (Or.inl rfl) (qe_callB (cn_max (by rfl)) (by rfl) T.b_max (by decide +kernel) (qa (pv 6) (qa (qe_callB (cn_min (by rfl)) (by rfl) T.b_min (by decide +kernel) (qa (pv 8) (qa (qe_callB cn_len (by rfl) T.b_len (by decide +kernel) (qa (pv 5) qa_nil)) qa_nil))) qa_nil))))
   (qss_cons (qs_set (i:=9) sc_law_handed.nd rfl (Or.inl rfl) (pe_ix ix_list (qe_lstA (qa pe_int (qa pe_int (qa pe_int (qa pe_int qa_nil))))) (qe_call G2 (hr.mono (by decide)) (by rfl) T.m__law_next T.k__law_next T.bd__law_next .nil pass0 (qa (pv 0) (qa pe_int qa_nil))) (fun _ _=>rfl)))
   (qss_cons (qs_set (i:=10) sc_law_handed.nd rfl (Or.inl rfl) (qe_callTy (cn_tupleA (K:=K) (by rfl)) (by rfl) T.b_tuple (by decide +kernel) (qa (pe_slice (sl_listA (K:=K) (by rfl)) (pv 5) (po_some (pv 8)) (po_some (pe_op op_add (pv 8) (pv 9)))) qa_nil)))
   (qss_cons (qs_if (pt_cmpR op_gt (pv 8) (pv 7) (nomark _))
    (qss_one (qs_ret (qe_lstA (qa (qe_call G30 (hr.mono (by decide)) (by rfl) T.m__law_gap_so T.k__law_gap_so T.bd__law_gap_so .nil pass0 (qa (pv 2) (qa (pv 4) (qa (pv 8) (qa (pv 10) qa_nil))))) (qa (pv 7) (qa pe_bl qa_nil))))))
    qss_nil)
   (qss_cons (qs_set (i:=11) sc_law_handed.nd rfl (Or.inl rfl) (qe_callB (cn_max (by rfl)) (by rfl) T.b_max (by decide +kernel) (qa pe_int (qa (pe_op op_sub (pe_op op_add (pv 8) (qe_callB cn_len (by rfl) T.b_len (by decide +kernel) (qa (pv 10) qa_nil))) (pv 7)) qa_nil))))
   (qss_cons (qs_set (i:=12) sc_law_handed.nd rfl (Or.inl rfl) (qe_methX (pv 2) T.cl_Log T.mt_Log_add_rows G11 (hr.mono (by decide)) T.bd_Log_add_rows px0 (qa (pv 4) (qa (pv 8) (qa (pv 10) qa_nil))) (by rfl) (by rfl) (by rfl)))
   (qss_one (qs_ret (qe_lstA (qa (pe_and (qe_call G3 (hr.mono (by decide)) (by rfl) T.m__law_alike T.k__law_alike T.bd__law_alike .nil pass0 (qa (pv 12) (qa (pv 11) qa_nil))) (pe_one (pe_cmpR (on_eqD hr) (pv 10) (qe_callTy (cn_tupleA (K:=K) (by rfl)) (by rfl) T.b_tuple (by decide +kernel) (qa (pe_slice (sl_listA (K:=K) (by rfl)) (pv 5) (po_some (pv 8)) (po_some (pe_op op_add (pv 8) (pv 9)))) qa_nil)) (nomark _)))) (qa (pe_op op_add (pv 7) (pv 11)) (qa pe_bl qa_nil)))))))))))))),?_⟩
  try dsimp only[cxOf]
  walk_at"rq"
  refine⟨st,_,rfl,S,by omega,by omega,fun v1 H1 a1 b1 S1' x1=>?_⟩
  have S1:=S.tr0.trans S1'
  walk_at"rq"
  refine⟨st,3,rfl,S1.toStOk,by decide,by decide,fun v2 H2 a2 b2 S2' x2=>?_⟩
  have S2:=S1.trans S2'
  walk_at"rq"
  refine⟨sz (by simp),fun l3 H3 m3 s3 g3=>?_⟩
  have S3:=S2.same s3
  walk_at"rq"
  refine⟨st,3,rfl,S3.toStOk,by decide,by decide,fun v4 H4 a4 b4 S4' x4=>?_⟩
  have S4:=S3.trans S4'
  obtain⟨b,eb,hb0⟩:∃b:Int,atI ([.int en,.int v1,.int ((en:Int)+1+v2)]:List V) v4=some (.int b)∧0≤b:=by
   rcases(by omega:v4=0∨v4=1∨v4=2)with rfl |rfl |rfl
   ·exact⟨_,rfl,by omega⟩
   ·exact⟨_,rfl,by omega⟩
   ·exact⟨_,rfl,by omega⟩
  refine rd_ixL (SqL.of (x4 _ _ g3 (nst S2.toStOk m3))) eb ?_
  have x04:Ext [st] H H4:=x1.trans (x2.trans ((Ext.same s3).trans x4))
  have grl4:=x04 _ _ grl (by simpa using nls)
  walk_at"rq"
  obtain⟨pl,epl,pl1⟩:∃pl:Nat,(if (if (us.length:Int)<b then (us.length:Int) else b) > low then (if (us.length:Int)<b then (us.length:Int) else b) else low)=pl∧pl≤es.length:=by
   refine⟨(if (if (us.length:Int)<b then (us.length:Int) else b) > low then (if (us.length:Int)<b then (us.length:Int) else b) else low).toNat,?_,?_⟩ <;> split <;> split <;> omega
  rw[epl]
  refine⟨sz (by simp),fun l5 H5 m5 s5 g5=>?_⟩
  have S5:=S4.same s5
  walk_at"rq"
  refine⟨st,4,rfl,S5.toStOk,by decide,by decide,fun v6 H6 a6 b6 S6' x6=>?_⟩
  have S6:=S5.trans S6'
  obtain⟨tp,et⟩:∃tp:Nat,atI ([.int 0,.int 1,.int 3,.int 20]:List V) v6=some (.int (tp:Int)):=by
   rcases(by omega:v6=0∨v6=1∨v6=2∨v6=3)with rfl |rfl |rfl |rfl
   ·exact⟨0,rfl⟩
   ·exact⟨1,rfl⟩
   ·exact⟨3,rfl⟩
   ·exact⟨20,rfl⟩
  refine rd_ixL (SqL.of (x6 _ _ g5 (nst S4.toStOk m5))) et ?_
  have x06:Ext [st] H H6:=x04.trans ((Ext.same s5).trans x6)
  have grl6:=x06 _ _ grl (by simpa using nls)
  walk_at"rq"
  intro l7 H7 m7 s7 g7
  rw[cutV_in (by omega) (by omega) (by omega),Int.toNat_natCast,Int.toNat_natCast]at g7
  walk_at"rq"
  intro t8 H8 ht8 s8 q8
  have s68:=s7.trans s8
  have S8:=S6.same s68
  have x08:Ext [st] H H8:=x06.trans (Ext.same s68)
  have x08N:Ext N H H8:=x08.up hst
  have N8:∀b∈N,H8 b≠none:=trN S8.toStOk x08 hN
  have N6:∀b∈N,H6 b≠none:=trN S6.toStOk x06 hN
  have nt8:t8∉N:=by
   rcases ht8 with rfl |h
   ·exact fun z=>N6 _ z m7
   ·exact fun z=>N6 _ z (s7.free h)
  have L8:=lx L x08
  have rt8:=((rr.ext x08N).drop pl).take tp
  have gt8:∀e∈(es.drop pl).take tp,Mt.rowD e=true∧Mt.Itm 1000 3 e:=fun e he=>gr e (List.mem_of_mem_drop (List.mem_of_mem_take he))
  have hd8:=hd.ext x08N
  have grl8:=s68 _ _ grl6
  obtain⟨fln,rfl⟩:=Int.eq_ofNat_of_zero_le f0
  rw[Int.toNat_natCast]at eds k
  have ncc8:∀c b,H8 st=some (.lst (.ref c :: b))→ra≠c:=fun c b e=>by
   obtain⟨c',b',e',_⟩:=S.cell
   obtain⟨b2,e2⟩:=S8.keep c' b' e'
   rw[e]at e2
   have z:c=c':=by injection e2 with e2;injection e2 with e2;injection e2 with e2 _;injection e2
   subst z
   exact ncc c b' e'
  walk_at"rq"
  refine rd_ite2 (fun hc=>?_) (fun hc=>?_)
  ·have hgt:(en:Int)<pl:=of_decide_eq_true hc
   walk_at"rq"
   refine⟨N,p,hv,hs,fln,ra,ws,ds,.ref hp,hs ++ ex,pl,t8,_,_,rfl,L8,hd8,hho,q8,rt8,nt8,gt8,by omega,fun H9 s9=>?_⟩
   walk_at"rq"
   refine⟨sz (by simp),fun l10 H10 m10 s10 g10=>?_⟩
   have s810:=s9.trans s10
   exact k l10 false 0 hv hs ws ds H10 (by simpa using g10) (L8.same s810) (by omega) (by simpa using eds) (by omega) (.inr ⟨rfl,rfl,rfl⟩) (S8.same s810) ((x08.trans (Ext.same s810)).mono (by simp))
  ·have hle:(pl:Int)≤en:=Int.not_lt.mp (of_decide_eq_false hc)
   have hle':pl≤en:=by omega
   have lt8:((us.drop pl).take tp).length=((es.drop pl).take tp).length:=rt8.length
   have flen:fln≤en:=by omega
   obtain⟨m,em,m1,m2,m3'⟩:=Mt.rows_more (tp:=tp) hle' flen en1
   obtain⟨hs1,ll,lf,ehs⟩:=L.ho.snoc
   obtain⟨hs3,l2,f2,ehs2⟩:=hho.snoc
   obtain⟨dx8,h8⟩:=L8.ob
   have l40:((es.drop pl).take tp).length≤40:=by rw[List.length_take,List.length_drop];omega
   walk_at"rq"
   rw[lt8,← m3']
   refine⟨p,dx8,_,rfl,h8,loF_no (by decide +kernel) (by decide +kernel) (by decide +kernel),?_⟩
   walk_at"rq"
   refine⟨N,p,hv,hs,fln,ra,ws,ds,.ref hp,hs ++ ex,hs3,l2,f2,ll,lf,hs1,[],.int pl,.int pl,t8,_,_,rfl,L8,ehs,hd8,hho,ehs2,.int pl,q8,rt8,nt8,gt8,.inr ⟨pl,rfl,by omega,by omega,hra,hpN,by omega,by omega,fun hv9 hs9 H9 hc9 L9 x9=>?_⟩⟩
   rw[show ((fln:Int)+ds.length - pl).toNat=en - pl by omega]at L9
   rw[show ((fln:Int)+ds.length - pl).toNat=en - pl by omega,em]
   have hs9e:hs9=hs ++ ex:=by
    rcases hc9 with ⟨_,rfl,_⟩ | ⟨_,rfl,hl⟩
    ·rfl
    ·have e2:=ehs2
     rw[ehs]at e2 hho
     have:=hho.pre_last e2 hl
     rw[this,List.append_nil]
   have nx9:∀b,b≠p→b≠ra→b ∉ [p,ra]:=fun b h1 h2=>by simp[h1,h2]
   have grl9:=x9 _ _ grl8 (nx9 _ nlp nlr)
   have q9:SqT K H9 t8 ((us.drop pl).take tp):=x9.tup q8 (nx9 _ (fun z=>nt8 (z ▸ hpN)) (fun z=>nt8 (z ▸ hra)))
   have S9:StOkT K H8 H9 st:=StOkT.of S8.toStOk x9 (fun c b e=>by
    have c1:=ncc8 c b e
    refine nx9 c (fun z=>?_) (Ne.symm c1)
    subst z
    obtain⟨c2,b2,e2,_,hc2⟩:=S8.toStOk.cell
    obtain⟨c3,cs,p3,q3,r3,g1,g2,_⟩:=S8.toStOk.ex
    rw[e]at g1
    have z2:c=c3:=by injection g1 with g1;injection g1 with g1;injection g1 with g1 _;injection g1
    subst z2
    rw[h8]at g2;cases g2) (by simp[Ne.symm nps,Ne.symm nrs])
   have x9N:Ext N H8 H9:=x9.mono (fun b hb=>by
    simp only[List.mem_cons,List.not_mem_nil,or_false]at hb
    rcases hb with rfl |rfl
    ·exact hpN
    ·exact hra)
   have rt9:=rt8.ext x9N
   walk_at"rq"
   refine⟨[],[],_,_,.int m,rfl,.int _,.int _,.inl rfl,by simp[PyData.depth],fun H10 s10=>?_⟩
   have grl10:=s10 _ _ grl9
   walk_at"rq"
   intro l11 H11 m11 s11 g11
   rw[cutV_in (by omega) (by omega) (by omega),Int.toNat_natCast,Int.toNat_natCast]at g11
   walk_at"rq"
   intro t12 H12 ht12 s12 q12
   have s912:=s10.trans (s11.trans s12)
   have rt12:=(rt9.ext (Ext.same s912)).weaken (N':=[]) (by simp)
   have shp:=Mt.itms_shapedT (w:=1000) (k:=3) (fun e he=>(gt8 e he).2) (by decide)
   refine rd_eqD (N:=[]) (.tup (s912.tupS q9) (by simp) rt12) (.tup q12 (by simp) rt12) shp shp ?_
   rw[show PyData.eqv (.tuple ((es.drop pl).take tp)) (.tuple ((es.drop pl).take tp))=true from by rw[PyData.eqv];exact Mt.itms_eqv (fun e he=>(gt8 e he).2)]
   walk_at"rq"
   refine⟨sz (by simp),fun l13 H13 m13 s13 g13=>?_⟩
   have s913:=s912.trans s13
   have e913:ds ++ ((es.drop pl).take tp).drop (en - pl)=(es.take (en+m)).drop fln:=by rw[eds];exact m2
   exact k l13 true m hv9 hs9 _ _ H13 g13 (L9.same s913) (by rw[e913,List.length_drop,List.length_take];omega) e913 m1 (.inl ⟨rfl,hs9e⟩) ((S8.trans S9).same s913) (((x08.mono (by simp)).trans (x9.mono (by simp))).trans (Ext.same s913))
noncomputable def sp_law (K:PySem.W.Frag):Sp:=fun vs H Q _=>∃(p:Addr)(ns:List Int),vs = [.ref p]∧SqL K H p (ns.map V.int)∧ns.length≤63∧∀H',Q (.bl true) H'
abbrev glaw (P:Program)(w:World)(K:PySem.W.Frag)(mg:Str→Option Value)(base:Heap)(a:Adr):Prop:=FnOk P w K mg base CX0 9 a.f_law a.d_law ["_law_script"] (sp_law K)
theorem ok_law (T : Txt P K mg a)(G12:gLog_init P w K mg base a)(G31:gLog_fork P w K mg base a)(G32:gLog_put P w K mg base a)(G10:gLog_rows P w K mg base a)(G33:gLog_trim P w K mg base a)(G3:glaw_alike P w K mg base a)(G13:glaw_at P w K mg base a)(G34:glaw_handed P w K mg base a)(G2:glaw_next P w K mg base a)(G35:glaw_row P w K mg base a)(G14:glaw_so P w K mg base a)(G36:glaw_state P w K mg base a):glaw P w K mg base a:=by
 refine T.F_law.ok sc_law (fun vs H Q E h=>?_) (fun cdv A outer s H vs Q E hr h=>?_)
 ·obtain⟨p,ns,rfl,_⟩:=h;rfl
 ·obtain⟨p,ns,rfl,hq,hl,k⟩:=h
  have rootD:∀H',Dt K [] H' (.ref a.a_ROOT) (.tuple ([(0,0)].map Mt.pr)):=fun H'=>.tup (T.r_ROOT H').1 (by simp) (.cons (.tup (T.r_ROOT H').2 (by simp) (.cons (.int 0) (.cons (.int 0) .nil))) .nil)
  have okR:Mt.HOK [(0,0)]:=⟨by decide,by decide,by simp[Mt.okP],⟨0,[],rfl⟩⟩
  refine exW ⟨_,(qss_cons (qs_set (i:=1) sc_law.nd rfl (Or.inl rfl) (qe_call G36 (hr.mono (by decide)) (by rfl) T.m__law_state T.k__law_state T.bd__law_state .nil pass0 (qa (pv 0) qa_nil)))
   (qss_cons (ps_par2 (i:=2) (j:=3) (by rfl) sc_law.nd rfl rfl (by decide) rfl rfl (qa (qe_make0K T.mk_Log G12 (hr.mono (by decide)) (by rfl) T.mC_Log T.kb0_Log_init px0 (by decide)) (qa (qe_make0K T.mk_Log G12 (hr.mono (by decide)) (by rfl) T.mC_Log T.kb0_Log_init px0 (by decide)) qa_nil)) (by rfl) (by rfl))
   (qss_cons (qs_asg (qe_tupA (qa (qe_tupA (qa (qe_tupA (qa pe_int (qa pe_int qa_nil))) qa_nil)) (qa (qe_tupA (qa (qe_tupA (qa pe_int (qa pe_int qa_nil))) qa_nil)) (qa (qe_lstK qa_nil) qa_nil)))) (pg_tup (n:=3) rfl (pgs_cons (pg_name (i:=4) sc_law.nd rfl (Or.inr rfl)) (pgs_cons (pg_name (i:=5) sc_law.nd rfl (Or.inr rfl)) (pgs_cons (pg_name (i:=6) sc_law.nd rfl (Or.inl rfl)) pgs_nil)))))
   (qss_cons (qs_set (i:=7) sc_law.nd rfl (Or.inl rfl) (qe_lstK (qa pe_int (qa pe_int qa_nil))))
   (qss_cons (qs_set (i:=8) sc_law.nd rfl (Or.inl rfl) pe_int)
   (qss_cons (qs_set (i:=9) sc_law.nd rfl (Or.inl rfl) (qe_lstK qa_nil))
   (qss_cons (qs_for PassesOwn.never rfl (qi_range1 (by rfl) T.b_range (qa (pe_op op_add pe_int (qe_call G2 (hr.mono (by decide)) (by rfl) T.m__law_next T.k__law_next T.bd__law_next .nil pass0 (qa (pv 1) (qa pe_int qa_nil)))) qa_nil) (by rfl)) (pg_name (i:=10) sc_law.nd rfl (Or.inl rfl))
    (qss_cons (qs_set (i:=11) sc_law.nd rfl (Or.inl rfl) (qe_call G2 (hr.mono (by decide)) (by rfl) T.m__law_next T.k__law_next T.bd__law_next .nil pass0 (qa (pv 1) (qa pe_int qa_nil))))
    (qss_cons (qs_if (pt_cmpR op_lt (pv 11) pe_int (nomark _))
     (qss_cons (qs_expr (qe_append (pv 6) (qa (qe_call G35 (hr.mono (by decide)) (by rfl) T.m__law_row T.k__law_row T.bd__law_row .nil pass0 (qa (pv 1) qa_nil)) qa_nil) (by rfl) (by rfl) (by rfl) (by rfl) (by rfl)))
     (qss_one (qs_if (pt_not (pt_val (qe_call G3 (hr.mono (by decide)) (by rfl) T.m__law_alike T.k__law_alike T.bd__law_alike .nil pass0 (qa (qe_methX (pv 2) T.cl_Log T.mt_Log_put G32 (hr.mono (by decide)) T.bd_Log_put px0 (qa (pe_ix ix_list (pv 6) (pe_un un_neg pe_int) (fun _ _=>rfl)) qa_nil) (by rfl) (by rfl) (by rfl)) (qa (qe_callB cn_len (by rfl) T.b_len (by decide +kernel) (qa (pv 6) qa_nil)) qa_nil))) (by intro _;rfl)))
      (qss_one (qs_ret pe_bl))
      qss_nil)))
     (qss_one (qs_if (pw_and (pt_cmpR op_eq (pv 11) pe_int (nomark _)) (pw_and1 (pt_cmpR op_lt (qe_callB cn_len (by rfl) T.b_len (by decide +kernel) (qa (pv 4) qa_nil)) pe_int (nomark _)))).pt
      (qss_cons (qs_set (i:=12) sc_law.nd rfl (Or.inl rfl) (pe_op op_add (pe_op op_add (pe_ix ix_tup (pe_ix ix_tup (pv 4) (pe_un un_neg pe_int) (fun _ _=>rfl)) pe_int (fun _ _=>rfl)) pe_int) (qe_call G2 (hr.mono (by decide)) (by rfl) T.m__law_next T.k__law_next T.bd__law_next .nil pass0 (qa (pv 1) (qa pe_int qa_nil)))))
      (qss_cons (qs_expr (qe_methX (pv 2) T.cl_Log T.mt_Log_fork G31 (hr.mono (by decide)) T.bd_Log_fork px0 (qa (pv 12) qa_nil) (by rfl) (by rfl) (by rfl)))
      (qss_one (qs_set (i:=4) sc_law.nd rfl (Or.inr rfl) (pe_op op_catG (pv 4) (qe_tupA (qa (qe_tupA (qa (pv 12) (qa (qe_callB cn_len (by rfl) T.b_len (by decide +kernel) (qa (pv 6) qa_nil)) qa_nil))) qa_nil)))))))
      (qss_one (qs_if (pt_cmpR op_eq (pv 11) pe_int (nomark _))
       (qss_cons (qs_set (i:=13) sc_law.nd rfl (Or.inl rfl) (qe_call G2 (hr.mono (by decide)) (by rfl) T.m__law_next T.k__law_next T.bd__law_next .nil pass0 (qa (pv 1) (qa pe_int qa_nil))))
       (qss_cons (qs_set (i:=14) sc_law.nd rfl (Or.inl rfl) (qe_lstK (qa (qe_callB cn_len (by rfl) T.b_len (by decide +kernel) (qa (pv 6) qa_nil)) (qa (pv 8) qa_nil))))
       (qss_cons (qs_asg (pe_op op_add (pe_ix ix_list (pv 7) (pv 13) (fun _ _=>rfl)) (qe_call G2 (hr.mono (by decide)) (by rfl) T.m__law_next T.k__law_next T.bd__law_next .nil pass0 (qa (pv 1) (qa (pe_op op_add (pe_op op_sub (pe_ix ix_list (pv 14) (pv 13) (fun _ _=>rfl)) (pe_ix ix_list (pv 7) (pv 13) (fun _ _=>rfl))) pe_int) qa_nil)))) (pg_sub (pv 7) (pv 13) set_list (by intro _;rfl)))
       (qss_one (qs_expr (qe_methX (pe_ix ix_list (qe_lstK (qa (pv 2) (qa (pv 3) qa_nil))) (pv 13) (fun _ _=>rfl)) T.cl_Log T.mt_Log_trim G33 (hr.mono (by decide)) T.bd_Log_trim px0 (qa (pe_ix ix_list (pv 7) (pv 13) (fun _ _=>rfl)) qa_nil) (by rfl) (by rfl) (by rfl)))))))
       (qss_cons (qs_asg (qe_call G34 (hr.mono (by decide)) (by rfl) T.m__law_handed T.k__law_handed T.bd__law_handed .nil pass0 (qa (pv 1) (qa (pv 2) (qa (pv 3) (qa (qe_lstK (qa (pv 4) (qa (pv 6) (qa (pe_ix ix_list (pv 7) pe_int (fun _ _=>rfl)) (qa (pv 8) qa_nil))))) qa_nil))))) (pg_lst (n:=3) rfl (pgs_cons (pg_name (i:=15) sc_law.nd rfl (Or.inl rfl)) (pgs_cons (pg_name (i:=8) sc_law.nd rfl (Or.inl rfl)) (pgs_cons (pg_name (i:=16) sc_law.nd rfl (Or.inl rfl)) pgs_nil))) (by rfl) (by rfl)))
       (qss_cons (qs_if (pt_not (pt_val (pv 15) (by intro _;rfl)))
        (qss_one (qs_ret pe_bl))
        qss_nil)
       (qss_cons (qs_if (pt_val (pv 16) (by intro _;rfl))
        (qss_one (qs_set (i:=5) sc_law.nd rfl (Or.inr rfl) (pv 4)))
        qss_nil)
       (qss_one (qs_expr (qe_append (pv 9) (qa (qe_lstK (qa (qe_methXD (pv 3) T.cl_Log T.mt_Log_rows G10 (hr.mono (by decide)) T.dK_Log_rows (.cons (show RelV .non .none from rfl) .nil) px0 (qa (pe_ix ix_list (pv 7) pe_int (fun _ _=>rfl)) qa_nil) (by rfl) (by rfl) (by rfl)) (qa (qe_callTy (cn_tupleA (K:=K) (by rfl)) (by rfl) T.b_tuple (by decide +kernel) (qa (pe_slice (sl_listA (K:=K) (by rfl)) (pv 6) (po_some (pe_ix ix_list (pv 7) pe_int (fun _ _=>rfl))) (po_some (pv 8))) qa_nil)) qa_nil))) qa_nil) (by rfl) (by rfl) (by rfl) (by rfl) (by rfl))))))))))))
    (qss_one (qs_if (pw_or (pt_not (pt_val (qe_call G14 (hr.mono (by decide)) (by rfl) T.m__law_so T.k__law_so T.bd__law_so .nil pass0 (qa (pv 2) (qa (pv 4) (qa (pe_ix ix_list (pv 7) pe_int (fun _ _=>rfl)) (qa (pv 6) qa_nil))))) (by intro _;rfl))) (pw_or1 (pt_not (pt_val (qe_call G14 (hr.mono (by decide)) (by rfl) T.m__law_so T.k__law_so T.bd__law_so .nil pass0 (qa (pv 3) (qa (pv 5) (qa (pe_ix ix_list (pv 7) pe_int (fun _ _=>rfl)) (qa (pe_slice (sl_listA (K:=K) (by rfl)) (pv 6) po_none (po_some (pv 8))) qa_nil))))) (by intro _;rfl))))).pt
     (qss_one (qs_ret pe_bl))
     qss_nil)))) (by intro _;rfl))
   (qss_cons (qs_if (pt_cmpR (on_neD hr) (by
    refine' pe_comp (NC:=["_law_told","_law_due"]) (fr:=[none,none]) ?B6 rfl ?hi6 ?hg6 ?ht6 ?he6 (by intro _;rfl)
    case B6=>exact⟨rfl,rfl,by decide +kernel,by decide +kernel,rfl,⟨trivial,trivial,trivial⟩⟩
    case hi6=>exact(pi_list (pv 9))
    case hg6=>intro _ _ _;exact(pg_lstK (K:=K) (n:=2) (by rfl) rfl (pgs_cons (pg_name (i:=0) (show (["_law_told","_law_due"]:List Str).Nodup by decide +kernel) rfl (Or.inl rfl)) (pgs_cons (pg_name (i:=1) (show (["_law_told","_law_due"]:List Str).Nodup by decide +kernel) rfl (Or.inl rfl)) pgs_nil)) (by rfl) (by rfl))
    case ht6=>intro _ _ _;exact(pf_one (pt_cmpR (on_neDK (K:=K) (by rfl) hr) (pv 0) (pv 1) (nomark _)))
    case he6=>intro _ _ _;exact pe_int) (qe_lstK qa_nil) (nomark _))
    (qss_one (qs_ret pe_bl))
    qss_nil)
   (qss_one (qs_ret (pe_cmpR (on_eqD hr) (by
    refine' pe_comp (NC:=["_law_place","_law_past","_law_known"]) (fr:=[none,some 4,some 5]) ?B7 rfl ?hi7 ?hg7 ?ht7 ?he7 (by intro _;rfl)
    case B7=>exact⟨rfl,rfl,by decide +kernel,by decide +kernel,rfl,⟨trivial,⟨rfl,rfl,Or.inl rfl⟩,⟨rfl,rfl,Or.inl rfl⟩,trivial⟩⟩
    case hi7=>exact(qi_range2 (by rfl) T.b_range (qa pe_int (qa (pe_op op_add (pv 8) pe_int) qa_nil)) (by rfl) (by rfl))
    case hg7=>intro _ _ _;exact(pg_name (i:=0) (show (["_law_place","_law_past","_law_known"]:List Str).Nodup by decide +kernel) rfl (Or.inl rfl))
    case ht7=>intro _ _ _;exact(pf_one (pt_cmpR op_ne (qe_call G13 (hr.mono (by decide)) (by rfl) T.m__law_at T.k__law_at T.bd__law_at .nil pass0 (qa (pv 2) (qa (pv 0) qa_nil))) (qe_call G13 (hr.mono (by decide)) (by rfl) T.m__law_at T.k__law_at T.bd__law_at .nil pass0 (qa (pv 1) (qa (pv 0) qa_nil))) (nomark _)))
    case he7=>intro _ _ _;exact pe_int) (qe_lstK qa_nil) (nomark _)))))))))))),?_⟩
  try dsimp only[cxOf]
  walk_at"rq"
  refine⟨p,ns,rfl,hq,hl,fun st H1 S1 s1 n1 kst=>?_⟩
  have v1:Lv H1 [st]:=fun q hq z=>by
   obtain⟨xs,e⟩:=S1.at
   rw[List.mem_singleton.mp hq,e]at z;cases z
  walk_at"rq"
  intro p0 x0 np0 nx0 ne0 kn0
  have s0p:Same H1 (upd (upd H1 x0 (.own p0)) p0 (.ins a.C_Log x0 [])):=(Same.upd nx0).trans (Same.upd (by rw[upd_ne (Ne.symm ne0)];exact np0))
  refine⟨p0,x0,[p0],.ref a.a_ROOT,.int 0,_,.int 0,rfl,upd_same,by simp,((rootD _).fresh np0 kn0).ext (Ext.same s0p),.int 0,.inr (.inr ⟨[(0,0)],0,rfl,okR,rfl,rfl,by decide,by decide,fun ra0 H3 nra0 kra0 L0 kp0=>⟨rfl,?_⟩⟩)⟩
  obtain⟨s13,nra0'⟩:=log_new np0 nx0 nra0 kp0
  obtain⟨v3,w1,w2⟩:=v1.log np0 nra0' s13 L0
  have pr0:=L0.pr
  walk_at"rq"
  intro p1 x1 np1 nx1 ne1 kn1
  have s3p:Same H3 (upd (upd H3 x1 (.own p1)) p1 (.ins a.C_Log x1 [])):=(Same.upd nx1).trans (Same.upd (by rw[upd_ne (Ne.symm ne1)];exact np1))
  refine⟨p1,x1,[p1],.ref a.a_ROOT,.int 0,_,.int 0,rfl,upd_same,by simp,((rootD _).fresh np1 kn1).ext (Ext.same s3p),.int 0,.inr (.inr ⟨[(0,0)],0,rfl,okR,rfl,rfl,by decide,by decide,fun ra1 H4 nra1 kra1 L1 kp1=>⟨rfl,?_⟩⟩)⟩
  obtain⟨s34,nra1'⟩:=log_new np1 nx1 nra1 kp1
  obtain⟨v4,w3,w4⟩:=v3.log np1 nra1' s34 L1
  have pr1:=L1.pr
  refine⟨_,_,rfl,?_⟩
  walk_at"rq"
  refine⟨sz (by simp),fun t5 H5 m5 s5 g5=>?_⟩
  walk_at"rq"
  refine⟨sz (by simp),fun t6 H6 m6 s6 g6=>?_⟩
  walk_at"rq"
  refine⟨sz (by simp),fun t7 H7 m7 s7 g7=>?_⟩
  walk_at"rq"
  refine⟨sz (by simp),fun t8 H8 m8 s8 g8=>?_⟩
  walk_at"rq"
  refine⟨sz (by simp),fun rl H9 m9 k9 s9 g9=>?_⟩
  walk_at"rq"
  refine⟨sz (by simp),fun t10 H10 m10 s10 g10=>?_⟩
  walk_at"rq"
  refine⟨sz (by simp),fun fla H11 m11 k11 s11 g11=>?_⟩
  walk_at"rq"
  refine⟨sz (by simp),fun hll H12 m12 k12 s12 g12=>?_⟩
  have s48:=s5.trans (s6.trans (s7.trans s8))
  have s412:=s48.trans (s9.trans (s10.trans (s11.trans s12)))
  have v8:=v4.same s48
  have a1:rl∉p1 :: ra1 :: p0 :: ra0 :: [st]:=fun z=>v8 _ z m9
  have v9:Lv H9 (rl :: p1 :: ra1 :: p0 :: ra0 :: [st]):=fun q hq z=>by
   rcases List.mem_cons.mp hq with rfl |hq
   ·rw[g9]at z;cases z
   ·exact(v8.same s9) q hq z
  have a2:fla∉rl :: p1 :: ra1 :: p0 :: ra0 :: [st]:=fun z=>(v9.same s10) _ z m11
  have v11:Lv H11 (fla :: rl :: p1 :: ra1 :: p0 :: ra0 :: [st]):=fun q hq z=>by
   rcases List.mem_cons.mp hq with rfl |hq
   ·rw[g11]at z;cases z
   ·exact(v9.same (s10.trans s11)) q hq z
  have a3:hll∉fla :: rl :: p1 :: ra1 :: p0 :: ra0 :: [st]:=fun z=>v11 _ z m12
  have nd:(nn8 st p0 ra0 p1 ra1 rl fla hll).Nodup:=by
   refine List.nodup_cons.mpr ⟨a3,List.nodup_cons.mpr ⟨a2,List.nodup_cons.mpr ⟨a1,List.nodup_cons.mpr ⟨?_,List.nodup_cons.mpr ⟨w4,List.nodup_cons.mpr ⟨?_,List.nodup_cons.mpr ⟨w2,by simp⟩⟩⟩⟩⟩⟩⟩
   ·rw[List.mem_cons,not_or];exact⟨pr1,w3⟩
   ·rw[List.mem_cons,not_or];exact⟨pr0,w1⟩
  have m12':H hll=none:=s1.free (s13.free (s34.free (s48.free (s9.free (s10.free (s11.free m12))))))
  have m11':H fla=none:=s1.free (s13.free (s34.free (s48.free (s9.free (s10.free m11)))))
  have m9':H rl=none:=s1.free (s13.free (s34.free (s48.free m9)))
  have rD:∀H',Same H H'→Dt K (nn8 st p0 ra0 p1 ra1 rl fla hll) H' (.ref a.a_ROOT) (.tuple ([(0,0)].map Mt.pr)):=fun H' s =>
   ((((((((rootD H).fresh n1 kst).fresh (s1.free nra0') kra0).fresh (s1.free np0) kn0).fresh (s1.free (s13.free nra1')) kra1).fresh (s1.free (s13.free np1)) kn1).fresh m9' k9).fresh m11' k11).fresh m12' k12 |>.ext (Ext.same s)
  have sH12:Same H H12:=s1.trans (s13.trans (s34.trans s412))
  have pD:∀ {t u:Addr}{Ha Hb Hc:Hp},Same H4 Ha→Ha t=none→Hb t=some (.tup [.int 0,.int 0])→Same Hb Hc→Same Ha Hb→Hb u=none→Same Hc H8→Hc u=some (.tup [.ref t])→Dt K (nn8 st p0 ra0 p1 ra1 rl fla hll) H12 (.ref u) (.tuple ([(0,0)].map Mt.pr)):=fun {t u Ha Hb Hc} sa na gt sb sab nu sc gu=>by
   have nt:t∉p1 :: ra1 :: p0 :: ra0 :: [st]:=fun z=>(v4.same sa) _ z na
   have nu':u∉p1 :: ra1 :: p0 :: ra0 :: [st]:=fun z=>(v4.same (sa.trans sab)) _ z nu
   have d8:Dt K (p1 :: ra1 :: p0 :: ra0 :: [st]) H8 (.ref u) (.tuple ([(0,0)].map Mt.pr)):=.tup (SqT.of (sc _ _ gu)) nu' (.cons (.tup (SqT.of (sc _ _ (sb _ _ gt))) nt (.cons (.int 0) (.cons (.int 0) .nil))) .nil)
   have m11'':H8 fla=none:=s9.free (s10.free m11)
   have m12'':H8 hll=none:=s9.free (s10.free (s11.free m12))
   exact(((d8.fresh m9 k9).fresh m11'' k11).fresh m12'' k12).ext (Ext.same (s9.trans (s10.trans (s11.trans s12))))
  have P12:=pD (Same.refl H4) m5 g5 s6 s5 m6 (s7.trans s8) g6
  have K12:=pD (s5.trans s6) m7 g7 s8 s7 m8 (Same.refl H8) g8
  obtain⟨dx0,ob0⟩:=L0.ob
  obtain⟨dx1,ob1⟩:=L1.ob
  have S12:=S1.same (s13.trans (s34.trans s412))
  have lgN:∀ {p ra:Addr}{dx:Addr},H12 p=some (.ins a.C_Log dx (loF (.ref a.a_ROOT) 0 ra))→H12 ra=some (.lst [])→LgAt K (nn8 st p0 ra0 p1 ra1 rl fla hll) a.C_Log H12 p (.ref a.a_ROOT) [(0,0)] 0 ra [] []:=fun e1 e2=>⟨⟨_,e1⟩,rD _ sH12,okR,e2,.nil,by simp,by decide,by decide,by decide⟩
  have J12:J22 K a.C_Log H12 st p0 ra0 p1 ra1 rl fla hll 0 t6 t8 (.ref a.a_ROOT) (.ref a.a_ROOT) [(0,0)] [] 0 0 [] [] [] [] [] [] 0 [] []:=by
   refine⟨⟨S12,fun c b e z=>?_,P12,K12,.nil,.nil⟩,lgN (s34.trans s412 _ _ ob0) (s34.trans s412 _ _ L0.r),lgN (s412 _ _ ob1) (s412 _ _ L1.r),(s10.trans (s11.trans s12)) _ _ g9,s12 _ _ g11,g12,nd,⟨by simp,by simp,by simp,by simp,by simp,by simp,by simp,by simp,by simp,by simp,by simp,by simp⟩⟩
   obtain⟨c',b',e',ncs,hc'⟩:=S1.cell
   rw[(s13.trans (s34.trans s412)) _ _ e']at e
   obtain rfl:c'=c:=by injection e with e;injection e with e;injection e with e _;injection e
   simp only[nn8,List.mem_cons,List.not_mem_nil,or_false]at z
   rcases z with rfl |rfl |rfl |rfl |rfl |rfl |rfl |rfl
   ·exact hc' (s13.free (s34.free (s48.free (s9.free (s10.free (s11.free m12))))))
   ·exact hc' (s13.free (s34.free (s48.free (s9.free (s10.free m11)))))
   ·exact hc' (s13.free (s34.free (s48.free m9)))
   ·exact hc' (s13.free np1)
   ·exact hc' (s13.free nra1')
   ·exact hc' np0
   ·exact hc' nra0'
   ·exact ncs rfl
  walk_at"rq"
  refine⟨st,19,rfl,S12,by decide,by decide,fun v13 H13 a13 b13 T13 x13=>?_⟩
  have J13:=J12.told T13 x13
  clear s48 s412 v8 a1 v9 a2 v11 a3 m12' m11' m9' rD sH12 pD P12 K12 ob0 ob1 lgN J12 s13 s34 s5 s6 s7 s8 s9 s10 s11 s12 g5 g6 g7 g8 g9 g10 g11 g12 v1 v3 v4 L0 L1 kp0 kp1
  have nd':=nd
  simp only[nn8,List.nodup_cons,List.mem_cons,List.not_mem_nil,or_false,not_or]at nd'
  obtain⟨⟨hA1,hA2,hA3,hA4,hA5,hA6,hA7⟩,⟨hB1,hB2,hB3,hB4,hB5,hB6⟩,⟨hC1,hC2,hC3,hC4,hC5⟩,⟨hD1,hD2,hD3,hD4⟩,⟨hE1,hE2,hE3⟩,⟨hF1,hF2⟩,hG1,_⟩:=nd'
  walk_at"rq"
  refine⟨by omega,by omega,?_⟩
  refine for_rangeW (fun i σ' H'=>∃(hp kp:Addr) (hv0 hv1:V) (hs1 ex:List (Int×Int)) (f0 f1:Int) (ws0 ws1 us:List V) (ds0 ds1 es:List PyData) (en:Nat) (hws:List V) (hds:List PyData) (o10 o11 o12 o13 o14 o15 o16:Option V),σ' = [some (.ref p),some (.ref st),some (.ref p0),some (.ref p1),some (.ref hp),some (.ref kp),some (.ref rl),some (.ref fla),some (.int en),some (.ref hll),o10,o11,o12,o13,o14,o15,o16]∧J22 K a.C_Log H' st p0 ra0 p1 ra1 rl fla hll i hp kp hv0 hv1 hs1 ex f0 f1 ws0 ws1 us ds0 ds1 es en hws hds) ?_ ?_ ?_
  ·exact⟨t6,t8,_,_,_,_,_,_,_,_,_,_,_,_,0,_,_,_,_,_,_,_,_,_,rfl,J13⟩
  ·rintro i σ' H6 hi ⟨hp,kp,hv0,hv1,hs1,ex,f0,f1,ws0,ws1,us,ds0,ds1,es,en,hws,hds,o10,o11,o12,o13,o14,o15,o16,rfl,J6⟩
   have F6:=J6.F
   have n1:=F6.n1
   walk_at"rq"
   refine⟨st,8,rfl,J6.d.S,by decide,by decide,fun w H7 aw bw T7 x7=>?_⟩
   have J7:=J6.told T7 x7
   refine rd_name ?_
   try dsimp only
   refine rd_seqK (fun σ' H'=>∃(hp kp:Addr) (hv0 hv1:V) (hs1 ex:List (Int×Int)) (f0 f1:Int) (ws0 ws1 us:List V) (ds0 ds1 es:List PyData) (en:Nat) (hws:List V) (hds:List PyData) (o10 o11 o12 o13 o14 o15 o16:Option V),σ' = [some (.ref p),some (.ref st),some (.ref p0),some (.ref p1),some (.ref hp),some (.ref kp),some (.ref rl),some (.ref fla),some (.int en),some (.ref hll),o10,o11,o12,o13,o14,o15,o16]∧J22 K a.C_Log H' st p0 ra0 p1 ra1 rl fla hll (i+1) hp kp hv0 hv1 hs1 ex f0 f1 ws0 ws1 us ds0 ds1 es en hws hds) ?_ ?_
   ·clear J6 J7 F6 x7 T7
    rintro σ' H8 ⟨hp,kp,hv0,hv1,hs1,ex,f0,f1,ws0,ws1,us,ds0,ds1,es,en,hws,hds,o10,o11,o12,o13,o14,o15,o16,rfl,J8⟩
    have gf8:=J8.fl
    walk_at"rq"
    refine⟨_,p0,hv0,_,f0,ra0,ws0,ds0,_,hp,rl,us,es,rfl,J8.A,J8.d.P,J8.g,J8.d.R,J8.F.d0,J8.F.l0.2,fun H9 s9=>?_⟩
    have J9:=J8.same s9
    have gf9:=J9.fl
    have gg9:=J9.g
    walk_at"rq"
    intro l10 H10 n10 s10 g10
    have J10:=J9.same s10
    have lu:=J10.d.R.length
    rw[cutV_to (by omega) (by have:=J10.F.le;omega),Int.toNat_natCast]at g10
    walk_at"rq"
    refine⟨_,p1,hv1,hs1,f1,ra1,ws1,ds1,_,kp,l10,_,_,rfl,J10.B,J10.d.Kn,g10,J10.d.R.take en,J10.F.d1,by have:=J10.F.l1;have:=J10.F.le;rw[List.length_take];omega,fun H11 s11=>?_⟩
    walk_at"rq"
    exact⟨_,_,_,_,_,_,_,_,_,_,_,_,_,_,_,_,_,_,_,_,_,_,_,_,rfl,J10.same s11⟩
   ·intro hrest
    have e0:=F6.n0
    have e1:=F6.e1
    have l0':=F6.l0
    have l1':=F6.l1
    have le':=F6.le
    have lu:=J7.d.R.length
    have mN:∀ {x:Addr}{L:List Addr},x∈L→(∀b ∈ [x],b∈L):=fun h b hb=>by rw[List.mem_singleton.mp hb];exact h
    walk_at"rq"
    refine rd_ite2 (fun hc=>?_) (fun hc=>?_)
    ·have gg7:=J7.g
     walk_at"rq"
     refine⟨.inl ⟨rfl,_,SqL.of gg7⟩,?_⟩
     walk_at"rq"
     refine⟨_,st,rfl,J7.d.S,by simp[nn8],J7.th,fun y d H8 hy hrow hitm T8 x8=>?_⟩
     have J8:=J7.told T8 x8
     have gg8:=J8.g
     walk_at"rq"
     refine rd_append gg8 (by rw[sizeLine_eq];omega) ?_
     have x9:Ext [rl] H8 (upd H8 rl (.lst (us ++ [y]))):=Ext.at (by simp)
     have gg9:upd H8 rl (.lst (us ++ [y])) rl=some (.lst (us ++ [y])):=upd_same
     generalize upd H8 rl (.lst (us ++ [y]))=H9 at x9 gg9 ⊢
     have m9:∀b ∈ [rl],b∈nn8 st p0 ra0 p1 ra1 rl fla hll:=mN (by simp[nn8])
     have d9:=J8.d.wr x9 m9 (by simpa using (Ne.symm hC5))
     have A9:=J8.A.ext x9 m9 (by simpa using (Ne.symm hC3)) (by simpa using (Ne.symm hC4))
     have B9:=J8.B.ext x9 m9 (by simpa using (Ne.symm hC1)) (by simpa using (Ne.symm hC2))
     have f9:=x9 _ _ J8.fl (by simpa using hB1)
     have h9:=x9 _ _ J8.hh (by simpa using hA2)
     have y9:=hy.ext (x9.mono m9)
     obtain⟨dx9,ob9⟩:=A9.ob
     walk_at"rq"
     refine⟨p0,dx9,_,rfl,ob9,loF_no (by decide +kernel) (by decide +kernel) (by decide +kernel),?_⟩
     walk_at"rq"
     refine rd_ixL (SqL.of gg9) (atI_last us _) ?_
     walk_at"rq"
     refine⟨_,p0,hv0,_,f0,ra0,ws0,ds0,y,d,rfl,A9,y9,Nat.le_trans hitm.wt (by decide),.inl ⟨by simp[nn8],by omega,hrow,hitm,fun H10 A10 x10=>?_⟩⟩
     have m10:∀b ∈ [ra0],b∈nn8 st p0 ra0 p1 ra1 rl fla hll:=mN (by simp[nn8])
     have d10:=d9.wr x10 m10 (by simpa using (Ne.symm hG1))
     have B10:=B9.ext x10 m10 (by simpa using hD3) (by simpa using hE2)
     have gg10:=x10 _ _ gg9 (by simpa using hC4)
     have f10:=x10 _ _ f9 (by simpa using hB5)
     have h10:=x10 _ _ h9 (by simpa using hA6)
     have y10:=y9.ext (x10.mono m10)
     walk_at"rq"
     refine⟨[],[],_,_,.int (f0+ds0.length+1),rfl,.int _,by rw[List.length_append,List.length_singleton,show ((us.length+1:Nat):Int)=f0+ds0.length+1 by omega];exact .int _,.inl rfl,by simp[PyData.depth],fun H11 s11=>?_⟩
     refine⟨true,rfl,?_⟩
     rw[if_neg (by decide)]
     refine rd_next ?_
     have J10:J22 K a.C_Log H10 st p0 ra0 p1 ra1 rl fla hll (i+1) hp kp hv0 hv1 hs1 ex f0 f1 (ws0 ++ [y]) ws1 (us ++ [y]) (ds0 ++ [d]) ds1 (es ++ [d]) en hws hds :=
      ⟨⟨d10.S,d10.nc,d10.P,d10.Kn,d10.R.append (.cons y10 .nil),d10.D⟩,A10,B10,gg10,f10,h10,nd,F6.push ⟨hrow,hitm⟩⟩
     exact hrest _ _ ⟨_,_,_,_,_,_,_,_,_,_,_,_,_,_,en,_,_,_,_,_,_,_,_,_,rfl,J10.same s11⟩
    ·refine rd_ifK (fun σ' H'=>∃o10,σ' = [some (.ref p),some (.ref st),some (.ref p0),some (.ref p1),some (.ref hp),some (.ref kp),some (.ref rl),some (.ref fla),some (.int en),some (.ref hll),o10,some (.int w),o12,o13,o14,o15,o16]∧H7=H'∧(hs1 ++ ex).length<5) (fun σ' H'=>∃o10,σ' = [some (.ref p),some (.ref st),some (.ref p0),some (.ref p1),some (.ref hp),some (.ref kp),some (.ref rl),some (.ref fla),some (.int en),some (.ref hll),o10,some (.int w),o12,o13,o14,o15,o16]∧H7=H') ?_ ?_ ?_
     ·rintro σ' H' ⟨o10,rfl,rfl,h5⟩
      obtain⟨hsA,ll,lf,ehs⟩:=J7.A.ho.snoc
      obtain⟨hp_,xs,e_,hnn,hqs,hdr⟩:=dt_tupN J7.d.P
      cases e_
      have hdr':=hdr
      rw[ehs,List.map_append,List.map_cons,List.map_nil]at hdr'
      obtain⟨zs,y2,exs,r1,r2⟩:=DtAll.snoc hdr'
      obtain⟨q2,rfl,hqq,nq⟩:=Dt.pair r2
      subst exs
      have hb:=J7.A.ho.bound (ll,lf) (by rw[ehs];simp)
      have hln:=F6.ln (ll,lf) (by rw[ehs];simp)
      dsimp only at hb hln
      have lA:hsA.length+1=(hs1 ++ ex).length:=by rw[ehs];simp
      have ef:(hs1 ++ ex).filter (fun q=>decide (q.2≤f0+(ds0.length:Int)))=hsA ++ [(ll,lf)]:=by
       rw[List.filter_eq_self.mpr (fun q hq=>by have:=(F6.ln q hq).2;simpa [e0]using this),ehs]
      have gg7:=J7.g
      walk_at"rq"
      refine rd_ixT hqs (atI_last zs _) ?_
      walk_at"rq"
      refine⟨st,5,rfl,J7.d.S,by decide,by decide,fun v8 H8 a8 b8 T8 x8=>?_⟩
      have J8:=J7.told T8 x8
      have x8N:=x8.mono (mN (show st∈nn8 st p0 ra0 p1 ra1 rl fla hll by simp[nn8]))
      obtain⟨dx8,ob8⟩:=J8.A.ob
      walk_at"rq"
      refine⟨p0,dx8,_,rfl,ob8,loF_no (by decide +kernel) (by decide +kernel) (by decide +kernel),?_⟩
      walk_at"rq"
      refine⟨_,p0,hv0,_,f0,ra0,ws0,ds0,[],.int (ll+1+v8),.int (ll+1+v8),hsA,ll,lf,rfl,J8.A,J8.th,.int _,ef,by omega,.inr (.inr ⟨_,rfl,by omega,by omega,by omega,by simp[nn8],fun hv9 H9 A9 x9=>?_⟩)⟩
      have m9:∀b ∈ [p0],b∈nn8 st p0 ra0 p1 ra1 rl fla hll:=mN (by simp[nn8])
      have d9:=J8.d.wr x9 m9 (by simpa using (Ne.symm hF2))
      have B9:=J8.B.ext x9 m9 (by simpa using hD2) (by simpa using hE1)
      have gg9:=x9 _ _ J8.g (by simpa using hC3)
      have f9:=x9 _ _ J8.fl (by simpa using hB4)
      have h9:=x9 _ _ J8.hh (by simpa using hA5)
      have q9:=(x9.mono m9).tup (x8N.tup hqs hnn) hnn
      have r9:=(hdr.ext x8N).ext (x9.mono m9)
      have th9:∀b∈nn8 st p0 ra0 p1 ra1 rl fla hll,H9 b≠none:=fun b hb z=>by
       by_cases hbp:b=p0
       ·obtain⟨us,e⟩:=A9.ob;rw[hbp,e]at z;cases z
       ·cases e2:H8 b with
        | none=>exact J8.th b hb e2
        | some u=>rw[x9 _ _ e2 (by simpa using hbp)]at z;cases z
      walk_at"rq"
      refine⟨sz (by simp),fun t10 H10 n10 s10 g10=>?_⟩
      walk_at"rq"
      refine⟨sz (by simp),fun t11 H11 n11 s11 g11=>?_⟩
      walk_at"rq"
      refine rd_catG ((s10.trans s11).tupS q9) (SqT.of g11) (sz (by have:=hdr.length;rw[List.length_map]at this;rw[this];simp only[List.length_singleton];omega)) fun r12 H12 hr12 s12 q12=>?_
      have s912:=s10.trans (s11.trans s12)
      have nt10:t10∉nn8 st p0 ra0 p1 ra1 rl fla hll:=fun z=>th9 _ z n10
      have nt11:t11∉nn8 st p0 ra0 p1 ra1 rl fla hll:=fun z=>th9 _ z (s10.free n11)
      have nr12:r12∉nn8 st p0 ra0 p1 ra1 rl fla hll:=by
       rcases hr12 with rfl |rfl |h
       ·exact hnn
       ·exact nt11
       ·exact fun z=>th9 _ z ((s10.trans s11).free h)
      have ehsN:hsA ++ [(ll,lf),(ll+1+v8,f0+(ds0.length:Int))]=hs1 ++ (ex ++ [(ll+1+v8,f0+(ds0.length:Int))]):=by
       rw[← List.append_assoc,ehs];simp
      rw[ehsN]at A9
      have P12:Dt K (nn8 st p0 ra0 p1 ra1 rl fla hll) H12 (.ref r12) (.tuple ((hs1 ++ (ex ++ [(ll+1+v8,f0+(ds0.length:Int))])).map Mt.pr)):=by
       refine .tup q12 nr12 ?_
       rw[← List.append_assoc,List.map_append]
       refine(r9.ext (Ext.same s912)).append (.cons (.tup (SqT.of (s12 _ _ (s11 _ _ g10))) nt10 (.cons (.int _) (.cons ?_ .nil))) .nil)
       rw[show (us.length:Int)=f0+ds0.length by omega]
       exact .int _
      have J12:J22 K a.C_Log H12 st p0 ra0 p1 ra1 rl fla hll (i+1) r12 kp hv9 hv1 hs1 (ex ++ [(ll+1+v8,f0+(ds0.length:Int))]) f0 f1 ws0 ws1 us ds0 ds1 es en hws hds :=
       ⟨⟨d9.S.same s912,fun c b e=>by
        obtain⟨c',b',e',_⟩:=d9.S.cell
        have e3:=s912 _ _ e'
        rw[e]at e3
        have z:c=c':=by injection e3 with e3;injection e3 with e3;injection e3 with e3 _;injection e3
        subst z
        exact d9.nc c b' e',P12,d9.Kn.ext (Ext.same s912),d9.R.ext (Ext.same s912),d9.D.ext (Ext.same s912)⟩,A9.same s912,B9.same s912,s912 _ _ gg9,s912 _ _ f9,s912 _ _ h9,nd,F6.fork (by omega) h5⟩
      exact hrest _ _ ⟨_,_,_,_,_,_,_,_,_,_,_,_,_,_,en,_,_,_,_,_,_,_,_,_,rfl,J12⟩
     ·rintro σ' H' ⟨o10,rfl,rfl⟩
      walk_at"rq"
      refine rd_ite2 (fun hc=>?_) (fun hc=>?_)
      ·walk_at"rq"
       refine⟨st,2,rfl,J7.d.S,by decide,by decide,fun v8 H8 a8 b8 T8 x8=>?_⟩
       have J8:=J7.told T8 x8
       have gg8:=J8.g
       walk_at"rq"
       refine⟨sz (by simp),fun l9 H9 n9 k9 s9 g9=>?_⟩
       have J9:=J8.same s9
       have gf9:=J9.fl
       refine rd_name ?_
       rcases(by omega:v8=0∨v8=1)with rfl |rfl
       ·walk_at"rq"
        refine⟨st,_,rfl,J9.d.S,by omega,by omega,fun v10 H10 a10 b10 T10 x10=>?_⟩
        have J10:=J9.told T10 x10
        have gf10:=J10.fl
        walk_at"rq"
        rw[show ([V.int f0,V.int f1]:List V).set (Int.toNat 0) (V.int (f0+v10)) = [.int (f0+v10),.int f1]from rfl]
        have x11:Ext [fla] H10 (upd H10 fla (.lst [.int (f0+v10),.int f1])):=Ext.at (by simp)
        have gf11:upd H10 fla (.lst [.int (f0+v10),.int f1]) fla=some (.lst [.int (f0+v10),.int f1]):=upd_same
        have m11:∀b ∈ [fla],b∈nn8 st p0 ra0 p1 ra1 rl fla hll:=mN (by simp[nn8])
        refine⟨sz (by simp),fun l12 H12 n12 k12 s12 g12=>?_⟩
        generalize upd H10 fla (.lst [.int (f0+v10),.int f1])=H11 at x11 gf11 s12 ⊢
        have d11:=J10.d.wr x11 m11 (by simpa using (Ne.symm hB6))
        have A11:=J10.A.ext x11 m11 (by simpa using Ne.symm hB4) (by simpa using Ne.symm hB5)
        have B11:=J10.B.ext x11 m11 (by simpa using Ne.symm hB2) (by simpa using Ne.symm hB3)
        have g11:=x11 _ _ J10.g (by simpa using Ne.symm hB1)
        have h11:=x11 _ _ J10.hh (by simpa using hA1)
        have gf12:=s12 _ _ gf11
        have d12:=d11.ext (Ext.same s12) (d11.S.tr0.same s12)
        obtain⟨dx12,ob12⟩:=(A11.same s12).ob
        walk_at"rq"
        refine⟨p0,dx12,_,rfl,ob12,loF_no (by decide +kernel) (by decide +kernel) (by decide +kernel),?_⟩
        walk_at"rq"
        refine⟨_,p0,hv0,_,f0,ra0,ws0,ds0,[],.int (f0+v10),.int (f0+v10),rfl,A11.same s12,.int _,.inr ⟨f0+v10,rfl,by simp[nn8],by simp[nn8],by omega,by omega,by omega,fun H13 A13 x13=>?_⟩⟩
        have m13:∀b ∈ [p0,ra0],b∈nn8 st p0 ra0 p1 ra1 rl fla hll:=fun b hb=>by
         simp only[List.mem_cons,List.not_mem_nil,or_false]at hb
         rcases hb with rfl |rfl <;> simp[nn8]
        have F13:=F6.trim0 (g:=f0+v10) (by omega) (by omega)
        exact hrest _ _ ⟨_,_,_,_,_,_,_,_,_,_,_,_,_,_,en,_,_,_,_,_,_,_,_,_,rfl,⟨d12.wr x13 m13 (by simpa using ⟨Ne.symm hF2,Ne.symm hG1⟩),A13,(B11.same s12 |>.ext x13 m13 (by simpa using ⟨hD2,hD3⟩) (by simpa using ⟨hE1,hE2⟩)),x13 _ _ (s12 _ _ g11) (by simpa using ⟨hC3,hC4⟩),x13 _ _ gf12 (by simpa using ⟨hB4,hB5⟩),x13 _ _ (s12 _ _ h11) (by simpa using ⟨hA5,hA6⟩),nd,F13⟩⟩
       ·walk_at"rq"
        refine⟨st,_,rfl,J9.d.S,by omega,by omega,fun v10 H10 a10 b10 T10 x10=>?_⟩
        have J10:=J9.told T10 x10
        have gf10:=J10.fl
        walk_at"rq"
        rw[show ([V.int f0,V.int f1]:List V).set (Int.toNat 1) (V.int (f1+v10)) = [.int f0,.int (f1+v10)]from rfl]
        have x11:Ext [fla] H10 (upd H10 fla (.lst [.int f0,.int (f1+v10)])):=Ext.at (by simp)
        have gf11:upd H10 fla (.lst [.int f0,.int (f1+v10)]) fla=some (.lst [.int f0,.int (f1+v10)]):=upd_same
        have m11:∀b ∈ [fla],b∈nn8 st p0 ra0 p1 ra1 rl fla hll:=mN (by simp[nn8])
        refine⟨sz (by simp),fun l12 H12 n12 k12 s12 g12=>?_⟩
        generalize upd H10 fla (.lst [.int f0,.int (f1+v10)])=H11 at x11 gf11 s12 ⊢
        have d11:=J10.d.wr x11 m11 (by simpa using (Ne.symm hB6))
        have A11:=J10.A.ext x11 m11 (by simpa using Ne.symm hB4) (by simpa using Ne.symm hB5)
        have B11:=J10.B.ext x11 m11 (by simpa using Ne.symm hB2) (by simpa using Ne.symm hB3)
        have g11:=x11 _ _ J10.g (by simpa using Ne.symm hB1)
        have h11:=x11 _ _ J10.hh (by simpa using hA1)
        have gf12:=s12 _ _ gf11
        have d12:=d11.ext (Ext.same s12) (d11.S.tr0.same s12)
        obtain⟨dx12,ob12⟩:=(B11.same s12).ob
        walk_at"rq"
        refine⟨p1,dx12,_,rfl,ob12,loF_no (by decide +kernel) (by decide +kernel) (by decide +kernel),?_⟩
        walk_at"rq"
        refine⟨_,p1,hv1,_,f1,ra1,ws1,ds1,[],.int (f1+v10),.int (f1+v10),rfl,B11.same s12,.int _,.inr ⟨f1+v10,rfl,by simp[nn8],by simp[nn8],by omega,by omega,by omega,fun H13 B13 x13=>?_⟩⟩
        have m13:∀b ∈ [p1,ra1],b∈nn8 st p0 ra0 p1 ra1 rl fla hll:=fun b hb=>by
         simp only[List.mem_cons,List.not_mem_nil,or_false]at hb
         rcases hb with rfl |rfl <;> simp[nn8]
        have F13:=F6.trim1 (g:=f1+v10) (by omega) (by omega)
        exact hrest _ _ ⟨_,_,_,_,_,_,_,_,_,_,_,_,_,_,en,_,_,_,_,_,_,_,_,_,rfl,⟨d12.wr x13 m13 (by simpa using ⟨Ne.symm hD4,Ne.symm hE3⟩),(A11.same s12 |>.ext x13 m13 (by simpa using ⟨Ne.symm hD2,Ne.symm hE1⟩) (by simpa using ⟨Ne.symm hD3,Ne.symm hE2⟩)),B13,x13 _ _ (s12 _ _ g11) (by simpa using ⟨hC1,hC2⟩),x13 _ _ gf12 (by simpa using ⟨hB2,hB3⟩),x13 _ _ (s12 _ _ h11) (by simpa using ⟨hA3,hA4⟩),nd,F13⟩⟩
      ·have gf7:=J7.fl
       walk_at"rq"
       refine⟨sz (by simp),fun lt H8 n8 k8 s8 g8=>?_⟩
       have J8:=J7.same s8
       walk_at"rq"
       refine⟨st,_,_,p1,hv1,hs1,f1,ra1,ws1,ds1,lt,hp,rl,ex,us,es,f0,en,rfl,J8.d.S,J8.B,J8.th,by simp[nn8],by simp[nn8],by simp[nn8],hD4,hE3,hC5,hC1,hC2,fun c b e z=>J8.d.nc c b e (z ▸ by simp[nn8]),g8,e1,J8.d.P,J8.A.ho,J8.g,J8.d.R,F6.gr,F6.d1,F6.le,by omega,l0'.1,l0'.2,fun l9 b m hv9 hs9 ws9 ds9 H9 g9 B9 el9 ed9 em9 hb9 T9 x9=>?_⟩
       have m9:∀b ∈ [st,p1,ra1],b∈nn8 st p0 ra0 p1 ra1 rl fla hll:=fun b hb=>by
        simp only[List.mem_cons,List.not_mem_nil,or_false]at hb
        rcases hb with rfl |rfl |rfl <;> simp[nn8]
       have d9:=J8.d.ext (x9.mono m9) T9
       have A9:=J8.A.ext x9 m9 (by simpa using ⟨hF2,Ne.symm hD2,Ne.symm hE1⟩) (by simpa using ⟨hG1,Ne.symm hD3,Ne.symm hE2⟩)
       have gg9:=x9 _ _ J8.g (by simpa using ⟨hC5,hC1,hC2⟩)
       have f9:=x9 _ _ J8.fl (by simpa using ⟨hB6,hB2,hB3⟩)
       have h9:=x9 _ _ J8.hh (by simpa using ⟨hA7,hA3,hA4⟩)
       obtain⟨kp9,ex9,eh9,K9,F9,Kd9⟩:∃kp9 ex9,hs9 ++ ex9=hs1 ++ ex∧(kp9=if b=true then hp else kp)∧F22 i hs9 ex9 f0 f1 es (en+m) ds0 ds9 hds∧Dt K (nn8 st p0 ra0 p1 ra1 rl fla hll) H9 (.ref kp9) (.tuple (hs9.map Mt.pr)):=by
        rcases hb9 with ⟨rfl,rfl⟩ | ⟨rfl,rfl,rfl⟩
        ·exact⟨hp,[],by simp,rfl,F6.added em9 ed9,d9.P⟩
        ·refine⟨kp,ex,rfl,rfl,?_,d9.Kn⟩
         have F:=F6
         exact⟨F.gr,F.d0,F.l0,ed9,F.l1,em9,F.ef,F.l5,F.ln,F.n1,F.hd,F.hn⟩
       refine rd_glst (SqL.of g9) rfl ?_
       refine rd_gcons ?_
       refine rd_name ?_
       refine rd_gcons ?_
       refine rd_name ?_
       refine rd_gcons ?_
       refine rd_name ?_
       refine rd_gnil ?_
       refine rd_seq ?_
       refine rd_if ?_
       refine rd_not ?_
       refine rd_tB ?_
       refine rd_var rfl ?_
       refine⟨true,rfl,?_⟩
       rw[if_neg (by decide)]
       refine rd_next ?_
       try dsimp only
       refine rd_seqK (fun σ' H'=>∃o10 o12 o13 o14,σ' = [some (.ref p),some (.ref st),some (.ref p0),some (.ref p1),some (.ref hp),some (.ref kp9),some (.ref rl),some (.ref fla),some (.int ((en+m:Nat):Int)),some (.ref hll),o10,some (.int w),o12,o13,o14,some (.bl true),some (.bl b)]∧H9=H') ?_ ?_
       ·rintro σ' H' ⟨o10,o12,o13,o14,rfl,rfl⟩
        have J9:J22 K a.C_Log H9 st p0 ra0 p1 ra1 rl fla hll i hp kp9 hv0 hv9 hs9 ex9 f0 f1 ws0 ws9 us ds0 ds9 es (en+m) hws hds :=
         ⟨⟨d9.S,d9.nc,by rw[eh9];exact d9.P,Kd9,d9.R,d9.D⟩,by rw[eh9];exact A9,B9,gg9,f9,h9,nd,F9⟩
        have hlh:=J9.d.D.length
        have hnn:=F6.hn
        obtain⟨dx9,ob9⟩:=B9.ob
        walk_at"rq"
        refine⟨.inl ⟨rfl,_,SqL.of h9⟩,?_⟩
        walk_at"rq"
        refine⟨p1,dx9,_,rfl,ob9,loF_no (by decide +kernel) (by decide +kernel) (by decide +kernel),?_⟩
        walk_at"rq"
        refine⟨_,p1,hv9,hs9,f1,ra1,ws9,ds9,[],_,_,.int f1,.none,rfl,B9,.int _,.non,.inr (.inr ⟨f1,rfl,Int.le_refl _,by omega,.inr (.inl ⟨rfl,fun t10 H10 n10 s10 g10=>?_⟩)⟩)⟩
        rw[show (f1 - f1).toNat=0 by omega,List.drop_zero]at g10
        have J10:=J9.same s10
        have gf10:=J10.fl
        have gg10:=J10.g
        walk_at"rq"
        intro l11 H11 n11 s11 g11
        rw[show ((en+m:Nat):Int)=f1+(((en+m:Nat):Int) - f1)by omega,cutV_in l1'.1 (by omega) (by omega)]at g11
        walk_at"rq"
        intro t12 H12 h12 s12 q12
        walk_at"rq"
        refine⟨sz (by simp),fun l13 H13 n13 k13 s13 g13=>?_⟩
        have s913:=s10.trans (s11.trans (s12.trans s13))
        have J13:=J9.same s913
        have nt10:t10∉nn8 st p0 ra0 p1 ra1 rl fla hll:=J9.fr (Same.refl _) n10
        have nt12:t12∉nn8 st p0 ra0 p1 ra1 rl fla hll:=by
         rcases h12 with rfl |h
         ·exact J9.fr s10 n11
         ·exact J9.fr (s10.trans s11) h
        have nl13:l13∉nn8 st p0 ra0 p1 ra1 rl fla hll:=J9.fr (s10.trans (s11.trans s12)) n13
        have D13:Dt K (nn8 st p0 ra0 p1 ra1 rl fla hll) H13 (.ref l13) (.list [.tuple ds9,.tuple ds9]):=by
         refine .lst (SqL.of g13) nl13 (.cons (.tup (SqT.of ((s11.trans (s12.trans s13)) _ _ g10)) nt10 (B9.d.ext (Ext.same s913))) (.cons (.tup (s13.tupS q12) nt12 ?_) .nil))
         have r:=(J9.d.R.ext (Ext.same s913)).drop f1.toNat |>.take ((((en+m:Nat):Int) - f1).toNat)
         rw[F9.d1,List.drop_take,show en+m - f1.toNat=(((en+m:Nat):Int) - f1).toNat by omega]
         exact r
        walk_at"rq"
        refine rd_append J13.hh (by rw[sizeLine_eq];omega) ?_
        have x14:Ext [hll] H13 (upd H13 hll (.lst (hws ++ [.ref l13]))):=Ext.at (by simp)
        have h14:upd H13 hll (.lst (hws ++ [.ref l13])) hll=some (.lst (hws ++ [.ref l13])):=upd_same
        generalize upd H13 hll (.lst (hws ++ [.ref l13]))=H14 at x14 h14 ⊢
        have m14:∀b ∈ [hll],b∈nn8 st p0 ra0 p1 ra1 rl fla hll:=mN (by simp[nn8])
        have d14:=J13.d.wr x14 m14 (by simpa using (Ne.symm hA7))
        exact hrest _ _ ⟨hp,kp9,hv0,hv9,hs9,ex9,f0,f1,ws0,ws9,us,ds0,ds9,es,en+m,hws ++ [.ref l13],hds ++ [.list [.tuple ds9,.tuple ds9]],_,_,_,_,_,_,_,rfl,⟨⟨d14.S,d14.nc,d14.P,d14.Kn,d14.R,d14.D.append (.cons (D13.ext (x14.mono m14)) .nil)⟩,J13.A.ext x14 m14 (by simpa using Ne.symm hA5) (by simpa using Ne.symm hA6),J13.B.ext x14 m14 (by simpa using Ne.symm hA3) (by simpa using Ne.symm hA4),x14 _ _ J13.g (by simpa using Ne.symm hA2),x14 _ _ J13.fl (by simpa using Ne.symm hA1),h14,nd,F9.held F9.d1⟩⟩
       ·intro hrest2
        subst K9
        refine rd_if ?_
        refine rd_tB ?_
        refine rd_var rfl ?_
        refine⟨b,rfl,?_⟩
        refine rd_ite2 (fun hb=>?_) (fun hb=>?_)
        ·subst hb
         refine rd_asg ?_
         refine rd_var rfl ?_
         refine rd_name ?_
         exact hrest2 _ _ ⟨_,_,_,_,rfl,rfl⟩
        ·subst hb
         refine rd_next ?_
         exact hrest2 _ _ ⟨_,_,_,_,rfl,rfl⟩
     ·intro hA hB
      obtain⟨hp_,xs,e_,hnn,hqs,hdr⟩:=dt_tupN J7.d.P
      cases e_
      have lxs:=hdr.length
      rw[List.length_map]at lxs
      walk_at"rq"
      refine rd_ite2 (fun hc=>?_) (fun hc=>?_)
      ·walk_at"rq"
       refine rd_ite2 (fun hc2=>?_) (fun hc2=>?_)
       ·exact hA _ _ ⟨_,rfl,rfl,by have:=of_decide_eq_true hc2;omega⟩
       ·exact hB _ _ ⟨_,rfl,rfl⟩
      ·exact hB _ _ ⟨_,rfl,rfl⟩
  ·rintro σ' H6 ⟨hp,kp,hv0,hv1,hs1,ex,f0,f1,ws0,ws1,us,ds0,ds1,es,en,hws,hds,o10,o11,o12,o13,o14,o15,o16,rfl,J6⟩
   dsimp only
   walk_at"rq"
   have hlen:=J6.d.D.length
   have hnn:=J6.F.hn
   refine⟨hll,rfl,⟨_,SqL.of J6.hh⟩,?_⟩
   intro acc na ka
   refine comp_byF hws.length (by rw[sizeLine_eq];omega) (fun i vs σc H'=>Same H6 H'∧(∃o1 o2,σc = [o1,o2])∧vs = []) ⟨(Same.refl H6).upd2 na,⟨none,none,rfl⟩,rfl⟩ ?_ ?_
   ·rintro j vs σc H7 hj hl7 ha7 ⟨s7,⟨o1,o2,rfl⟩,rfl⟩
    obtain⟨v,d,ev,ed,hd⟩:=J6.d.D.at (i:=j) (by omega)
    obtain⟨x,rfl,gx⟩:=J6.F.hd d (List.mem_of_getElem? ed)
    refine⟨⟨_,v,SqL.of (s7 _ _ J6.hh),ev⟩,?_⟩
    rintro y H8 ⟨rfl,hy⟩ R S' hR hS
    obtain rfl:y=v:=by
     have z:=hy _ (SqL.of (s7 _ _ J6.hh))
     rw[ev]at z
     injection z with z
     exact z.symm
    have hd8:=hd.ext (Ext.same s7)
    obtain⟨q,ys,rfl,_,hq,hr⟩:=dt_lstN hd8
    obtain⟨y1,y2,rfl,h1,h2⟩:=dt_two hr
    have shp:=Mt.itms_shapedT (w:=1000) (k:=3) (fun e he=>(gx e he).2) (by decide)
    walk_at"rq"
    refine rd_neD h1 h2 shp shp ?_
    rw[show PyData.eqv (.tuple x) (.tuple x)=true from by rw[PyData.eqv];exact Mt.itms_eqv (fun e he=>(gx e he).2)]
    walk_at"rq"
    exact hS _ _ ha7 ⟨s7,⟨_,_,rfl⟩,rfl⟩
   ·rintro vs σc H7 hl7 ha7 ⟨s7,⟨o1,o2,rfl⟩,rfl⟩
    refine⟨⟨_,SqL.of (s7 _ _ J6.hh),Nat.le_refl _⟩,?_⟩
    walk_at"rq"
    refine⟨sz (by simp),fun l8 H8 m8 k8 s8 g8=>?_⟩
    refine rd_neD (N:=[]) (d:=.list []) (e:=.list []) (.lst (SqL.of (s8 _ _ ha7)) (by simp) .nil) (.lst (SqL.of g8) (by simp) .nil) (by decide +kernel) (by decide +kernel) ?_
    rw[show PyData.eqv (.list []) (.list [])=true by decide +kernel]
    have J8:=(J6.same s7).same s8
    have e62:(2:Int) ^ 62=4611686018427387904:=by decide +kernel
    have hle:=J8.F.le
    have hn1:=J8.F.n1
    walk_at"rq"
    refine⟨_,_,rfl,by rw[e62];omega,?_⟩
    rw[show ((en:Int)+1 - 1).toNat=en by omega]
    intro ac2 na2 ka2
    refine comp_byF en (by rw[sizeLine_eq];omega) (fun i vs σc H'=>Same H8 H'∧(∃o1,σc = [o1,some (.ref hp),some (.ref kp)])∧vs = []) ⟨(Same.refl H8).upd2 na2,⟨none,rfl⟩,rfl⟩ ?_ ?_
    ·rintro j vs σc H9 hj hl9 ha9 ⟨s9,⟨o1,rfl⟩,rfl⟩
     refine⟨hj,?_⟩
     rintro x H10 ⟨rfl,rfl⟩ R S' hR hS
     have J9:=J8.same s9
     walk_at"rq"
     refine⟨_,kp,hs1,1+(j:Int),rfl,J9.B.ho,J9.d.Kn,by omega,by omega,fun H11 s11=>?_⟩
     have J11:=J9.same s11
     walk_at"rq"
     refine⟨_,hp,hs1 ++ ex,1+(j:Int),rfl,J11.A.ho,J11.d.P,by omega,by omega,fun H12 s12=>?_⟩
     rw[Mt.lineOf_app (fun z=>by have:=J11.B.ho.len1;rw[z]at this;simp at this) (fun q hq=>by have:=J11.F.ef q hq;omega)]
     walk_at"rq"
     rw[decide_eq_true rfl]
     refine rd_iteF ?_
     have s1112:=s11.trans s12
     exact hS _ _ (s1112 _ _ ha9) ⟨s9.trans s1112,⟨_,rfl⟩,rfl⟩
    ·rintro vs σc H9 hl9 ha9 ⟨s9,⟨o1,rfl⟩,rfl⟩
     refine⟨Nat.le_refl _,?_⟩
     walk_at"rq"
     refine⟨sz (by simp),fun l10 H10 m10 k10 s10 g10=>?_⟩
     refine rd_eqD (N:=[]) (d:=.list []) (e:=.list []) (.lst (SqL.of (s10 _ _ ha9)) (by simp) .nil) (.lst (SqL.of g10) (by simp) .nil) (by decide +kernel) (by decide +kernel) ?_
     rw[show PyData.eqv (.list []) (.list [])=true by decide +kernel]
     exact k _
end
noncomputable abbrev fD (w:World)(n:Addr):FuncData:=fdt (KF w.params) n
theorem txt_mk {w:World}{h:Heap}{mg:Str→Option Value}(X:(KF w.params).In h) (G:h.Ns mainGlobals mg):∃ a,Txt PySem.Challenge.rw_laterline_k22_rows_of_another_log.prog (KF w.params) mg a :=⟨⟨230,fD w 230,237,fD w 237,244,fD w 244,251,fD w 251,260,fD w 260,267,fD w 267,272,fD w 272,279,fD w 279,286,fD w 286,293,fD w 293,298,fD w 298,305,fD w 305,312,fD w 312,319,fD w 319,326,fD w 326,333,fD w 333,348,fD w 348,355,fD w 355,362,fD w 362,369,fD w 369,376,fD w 376,383,fD w 383,397,fD w 397,405,fD w 405,412,fD w 412,431,fD w 431,445,fD w 445,452,fD w 452,473,fD w 473,480,fD w 480,487,fD w 487,494,fD w 494,499,fD w 499,506,fD w 506,513,fD w 513,520,fD w 520,527,fD w 527,532,fD w 532,(.int 1000000000 498),(.int 1000000 457),(.int 60 494),(.int 12 551),(.int 1000000000000000000 549),(.ref 253),253,252,179,200,158,31,462,221,74,95,53,116,137,197,155,218,71,92,50,134⟩,⟨hgv X G,hgv X G,hgv X G,hgv X G,hgv X G,hgv X G,hgv X G,hgv X G,hgv X G,hgv X G,hgv X G,hxk ib_Full "Full.__init__",hxk ib_Gap "Gap.__init__",hxk ib_NoCount "NoCount.__init__",hxk0 ib_NoHistory "NoHistory.__init__",hxk ib_NoPlace "NoPlace.__init__",hxk0 ib_NoRow "NoRow.__init__",hxk ib_TooOld "TooOld.__init__",hxg,hkr,hkr,hkr,hkr,hkr,hkr,hkr,hkr,hkr,hkr,hkr,hxg,hkr,hkr,hkr,hkr,hkr,hkr,hkr,hkr,hkr,hkr,hkr,hxg,hkr,hkr,hkr,hkr,hkr,hkr,hkr,hkr,hkr,hkr,hkr,hxg,hkr,hkr,hkr,hkr,hkr,hkr,hkr,hkr,hkr,hkr,hkr,hxg,hkr,hkr,hkr,hkr,hkr,hkr,hkr,hkr,hkr,hkr,hkr,hxg,hkr,hkr,hkr,hkr,hkr,hkr,hkr,hkr,hkr,hkr,hkr,hxg,hkr,hkr,hkr,hkr,hkr,hkr,hkr,hkr,hkr,hkr,hkr,⟨hgv X G,_,rfl⟩,⟨hgv X G,_,rfl⟩,⟨hgv X G,_,rfl⟩,⟨hgv X G,_,rfl⟩,⟨hgv X G,_,rfl⟩,⟨hgv X G,rfl⟩,fun H=>⟨hsq [(.ref 252)] (.cons rfl .nil),hsq [(.int 0 491),(.int 0 492)] (.cons ⟨_,rfl⟩ (.cons ⟨_,rfl⟩ .nil))⟩,hgn X G,hgn X G,hgn X G,hgn X G,hgn X G,hgn X G,hgn X G,hgn X G,hgn X G,hgn X G,hgn X G,hgn X G,hgn X G,⟨hkr,hkr,hkr,hkr⟩,hkr,hkr,hkr,⟨hkr,hkr,hkr,hkr⟩,hfk,hgv X G,hkr,hb1,hfk,hgv X G,hkr,hb3,hfk,hgv X G,hkr,hb1,hfk,hgv X G,hkr,hb1,hfk,hgv X G,hkr,hb1,hfk,hgv X G,hkr,hb1,hfk,hgv X G,hkr,hb1,hfk,hgv X G,hkr,hb1,hfk,hgv X G,hkr,hb1,hfk,hgv X G,hkr,hb3,hfk,hgv X G,hkr,hb1,hfk,hgv X G,hkr,hb1,hfk,hgv X G,hkr,hb2,hfk,hgv X G,hkr,hb1,hfk,hgv X G,hkr,hb1,hfk,hgv X G,hkr,hb1,hfk,⟨609,kb_peek0 fun u S=>by kernel_rfl⟩,kb_peekR fun u w S=>by kernel_rfl,hfk,⟨hkr,hkr,hkr⟩,hb1,hfk,⟨hkr,hkr,hkr⟩,hb1,hfk,⟨hkr,hkr,hkr⟩,hb1,hfk,⟨hkr,hkr,hkr⟩,hb1,hfk,⟨hkr,hkr,hkr⟩,hb2,hfk,⟨hkr,hkr,hkr⟩,hb2,hfk,⟨hkr,hkr,hkr⟩,binds_peek2 fun u0 u1 S=>by kernel_rfl,hfk,⟨hkr,hkr,hkr⟩,hb4,hfk,⟨hkr,hkr,hkr⟩,hb2,hfk,⟨hkr,hkr,hkr⟩,hb2,hfk,⟨hkr,hkr,hkr⟩,hb1,hfk,hgv X G,hkr,hb1,hfk,hgv X G,hkr,hb2,hfk,hgv X G,hkr,hb2,hfk,hgv X G,hkr,hb1,hfk,hgv X G,hkr,hb1,hfk,hgv X G,hkr,hb2,hfk,hgv X G,hkr,hb4,hfk,hgv X G,hkr,hb4,hfk,hgv X G,hkr,hb4,hfk,hgv X G,hkr,hb1,hbl⟩⟩
theorem all_ok {P:Program}{w:World}{K:PySem.W.Frag}{mg:Str→Option Value}{base:Heap}{a:Adr}(T:Txt P K mg a):glaw P w K mg base a:=by
 have G4:gis_number P w K mg base a:=ok_is_number T 
 have G7:gis_key P w K mg base a:=ok_is_key T 
 have G8:gis_word P w K mg base a:=ok_is_word T 
 have G1:gLog_end P w K mg base a:=ok_Log_end T 
 have G27:gLog_floor P w K mg base a:=ok_Log_floor T 
 have G9:gLog_line P w K mg base a:=ok_Log_line T 
 have G28:gLog_history P w K mg base a:=ok_Log_history T 
 have G26:gLog___len P w K mg base a:=ok_Log___len T 
 have G36:glaw_state P w K mg base a:=ok_law_state T 
 have G2:glaw_next P w K mg base a:=ok_law_next T 
 have G29:glaw_names P w K mg base a:=ok_law_names T 
 have G13:glaw_at P w K mg base a:=ok_law_at T 
 have G0:gis_within P w K mg base a:=ok_is_within T G4
 have G24:gis_count P w K mg base a:=ok_is_count T G4
 have G19:gis_cut P w K mg base a:=ok_is_cut T G7 G8
 have G35:glaw_row P w K mg base a:=ok_law_row T G2
 have G5:gis_place P w K mg base a:=ok_is_place T G0
 have G15:gis_line P w K mg base a:=ok_is_line T G0
 have G18:gis_value P w K mg base a:=ok_is_value T G0
 have G23:gLog_require_kept_from P w K mg base a:=ok_Log_require_kept_from T G1 G0
 have G11:gLog_add_rows P w K mg base a:=ok_Log_add_rows T G1 G9 G0
 have G33:gLog_trim P w K mg base a:=ok_Log_trim T G1 G0
 have G16:gis_line_and_place P w K mg base a:=ok_is_line_and_place T G15 G5
 have G21:grequire_place P w K mg base a:=ok_require_place T G5
 have G20:gis_set P w K mg base a:=ok_is_set T G7 G18 G8
 have G10:gLog_rows P w K mg base a:=ok_Log_rows T G23 G24
 have G3:glaw_alike P w K mg base a:=ok_law_alike T 
 have G17:gis_history P w K mg base a:=ok_is_history T G16
 have G22:gis_row P w K mg base a:=ok_is_row T G19 G20
 have G14:glaw_so P w K mg base a:=ok_law_so T G26 G1 G27 G28 G9 G10 G3
 have G30:glaw_gap_so P w K mg base a:=ok_law_gap_so T G11 G1 G3 G29
 have G6:grequire_history P w K mg base a:=ok_require_history T G17
 have G32:gLog_put P w K mg base a:=ok_Log_put T G1 G22
 have G34:glaw_handed P w K mg base a:=ok_law_handed T G11 G3 G30 G2
 have G25:gextended P w K mg base a:=ok_extended T G0 G6
 have G12:gLog_init P w K mg base a:=ok_Log_init T G6 G21
 have G31:gLog_fork P w K mg base a:=ok_Log_fork T G1 G25
 have G37:glaw P w K mg base a:=ok_law T G12 G31 G32 G10 G33 G3 G13 G34 G2 G35 G14 G36
 exact G37
end My
open PySem PySem.W PyProof.Rows
set_option maxRecDepth 100000 in
set_option maxHeartbeats 0 in
theorem PySem.Challenge.cw_laterline_k22_rows_of_another_log_holds : PySem.Challenge.rw_laterline_k22_rows_of_another_log.Holds := by
  w_on; o_law
  refine PySem.W.holds_open (q:=My.vw) (loose:=My.lo) (Xt:=My.xt) (XP:=PySem.W.XL My.vw My.lv) (Yf:=(PySem.W.kHook My.KF My.KA My.ke).obs) (Ya:=(PySem.W.kHook My.KF My.KA My.ke).val) (YP:=(PySem.W.kHook My.KF My.KA My.ke).says) (N:=8594) My.left (PySem.W.kHook My.KF My.KA My.ke).of (PySem.W.kHook My.KF My.KA My.ke).keeps (fun s e=>PySem.W.xl_of s (Bool.and_eq_true_iff.mp e).1) PySem.W.XL.keeps (by rfl) (by rfl) (by rfl) (fun s e=>PySem.W.recFacts_of (Bool.and_eq_true_iff.mp e).2) (by rfl) (by first | assumption | decide +kernel) (by decide +kernel) ⟨rfl,rfl,rfl,rfl,rfl,by decide +kernel⟩ ?hw ?hc
  case hw=>w_witness2
  k_fill
  refine L2.walk_ofK (l:=PySem.Challenge.rw_laterline_k22_rows_of_another_log) (n:=63) (k:=9) (x:="_law_script") (CX:=L2.CX0) (sp:=My.sp_law) rfl (by decide) rfl ⟨rfl,by decide,by decide,rfl⟩ (fun w h Y=>PySem.W.kIn_of Y) ?F ?S ?C
  case F =>
    intro w mg fa h KX G hmg
    obtain ⟨a,T⟩:=My.txt_mk KX G
    have e0:=hmg.symm.trans T.m_law
    cases e0
    exact ⟨_,T.bl_law,fun base kb nb=>My.all_ok T⟩
  case S=>exact fun K H a ns hl hO hS=>⟨a,ns,rfl,hS,hl,fun _=>rfl⟩
  case C=>exact fun _ _ _ _ z=>z
