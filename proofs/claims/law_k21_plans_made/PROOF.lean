import PyProof.Rows.All
import Wide.All
import OpenK.AllK
import Wide.FinOn
import Lean
import PyProof.EqAt
import PyProof.EqKinds
import PyProof.TupleCall
import PyProof.NeKinds
import KE.KRevIter
import PyProof.AttrMissHeap
import PyProof.ZipIter
import PyProof.DictList
import KE.KItemsList
import KE.KDictOf
import PyProof.Rows.SetFrom
import PyProof.ConsumeWalk
import PyProof.EnumFor
import PyProof.EnumMake
import PyProof.EnumStmt
import PyProof.RaisesMany
import PyProof.Rows.Own
import PyProof.FString
import PyProof.PureStr
import PyProof.FactsAll.str_2
import PyProof.RulesTry
import PyProof.RulesAs
import PyProof.RulesDel
import PyProof.ExcArgsOwn
import PyProof.ExcAttrAll.ValueError
import KE.KIsAll
import OpenK.KOwn
import PyProof.ExcBaseAll.ValueError
import PyProof.Rows.StrInSeq3
import PyProof.Rows.SeqMore2
import KE.KSortTup
import KE.KIntText
import PyProof.Rows.StrSplitJoin
import PyProof.Rows.StrSplitAre
import PyProof.StrWalks
import PyProof.DictWalks
import PyProof.Rows.Range3
import PyProof.StrLawsTight
import PyProof.Rows.StrDigitsNeg
import PyProof.Rows.StrIntSpec
import PyProof.StationsW
import PyProof.Rows.CatchTuple
import PySem.Challenge.RW_forkplan_k21_plans_made
set_option maxHeartbeats 4000000
set_option Elab.async false
set_option linter.all false
set_option maxRecDepth 100000
namespace L2
open PySem
noncomputable def xD (s : Stmt) : Arguments := match s with
 | .FunctionDef _ a _ _ _ _ _ _ _ _ => a
 | _ => { posonlyargs := [], args := [], vararg := none, kwonlyargs := [], kw_defaults := [], kwarg := none, defaults := [] }
noncomputable def xC (s : Stmt) : List Stmt := match s with
 | .FunctionDef _ _ b _ _ _ _ _ _ _ => b
 | _ => []
noncomputable def xB (s : Stmt) : Scope := match s with
 | .FunctionDef _ _ _ _ _ _ sc _ _ _ => sc
 | _ => { kind := .function, names := [], isGenerator := false, isCoroutine := false }
end L2
namespace FP
open PySem
noncomputable def top (i : Nat) : Stmt := PySem.Challenge.pw_forkplan_k21_plans_made.main.body.getD i (.Pass ⟨0, 0, 0, 0⟩)
noncomputable abbrev oF (x : String) (i : Nat) (m : String) (n c : Nat) : Obj := Obj.mk (.type "function") none (Data.func (PySem.W.fnOf (Str.ofString x) (Str.ofString x) (L2.xD (top i)) (L2.xC (top i)) (L2.xB (top i)) .none .none .none (.str (Str.ofString m) n) none (.ref c) .none)) #[]
noncomputable abbrev oE (P : Params) (k : String) (n : Nat) (v : Value) : DictEntry := DictEntry.mk (PyData.keyHash P (Str.ofString k)) (.str (Str.ofString k) n) v
noncomputable abbrev oS (x : String) (n : Nat) : Value := .str (Str.ofString x) n
noncomputable abbrev oR (n : Nat) : Value := .ref n
noncomputable abbrev oI (n : Int) : Value := .int n 0
noncomputable abbrev oC (x : Array Value) : Obj := Obj.mk (.type "code") none (Data.fields x) #[]
noncomputable def topLeft (P : Params) : PySem.W.Frag :=
 (nat_lit 2, (Obj.mk .none none (Data.dict #[] 0) #[])) ::
 (nat_lit 3, (Obj.mk (.type "dict") none (Data.dict #[(oE P "__name__" 165 (.str (Str.ofString "law_forkplan_k21_plans_made") 427)), (oE P "__doc__" 166 .none), (oE P "__package__" 167 .none), (oE P "__loader__" 168 (.builtin "__main__.__loader__#opaque")), (oE P "__spec__" 169 .none), (oE P "__annotations__" 170 (.ref 6)), (oE P "__builtins__" 171 (.ref 4)), (oE P "__file__" 173 (.str (Str.ofString "/claim/cut.py") 172)), (oE P "__cached__" 174 .none), (oE P "ForkError" 206 (.ref 24)), (oE P "NoWorld" 222 (.ref 37)), (oE P "NoName" 238 (.ref 49)), (oE P "NoPlan" 254 (.ref 61)), (oE P "NotSure" 270 (.ref 73)), (oE P "NotPlain" 286 (.ref 85)), (oE P "NoWeights" 302 (.ref 97)), (oE P "TooMany" 318 (.ref 109)), (oE P "NoText" 334 (.ref 121)), (oE P "NoOrder" 350 (.ref 133)), (oE P "named" 362 (.ref 142)), (oE P "is_whole" 369 (.ref 149)), (oE P "plan_of" 380 (.ref 156)), (oE P "followers_of" 386 (.ref 161)), (oE P "is_node_number" 394 (.ref 168)), (oE P "refuse_followers" 403 (.ref 175)), (oE P "refuse_forks" 410 (.ref 182)), (oE P "refuse_name" 418 (.ref 189)), (oE P "thing_named_at" 426 (.ref 196)), (oE P "_law_cell" 436 (.ref 203)), (oE P "_law_stir" 445 (.ref 210)), (oE P "_law_state" 452 (.ref 217)), (oE P "_law_take" 461 (.ref 224)), (oE P "_law_expression" 472 (.ref 231)), (oE P "_law_condition" 483 (.ref 238)), (oE P "_law_deed" 500 (.ref 245)), (oE P "_law_words" 516 (.ref 252)), (oE P "_law_world" 522 (.ref 257)), (oE P "_law_standings" 528 (.ref 262)), (oE P "_law_worth" 534 (.ref 267)), (oE P "_law_holds" 545 (.ref 274)), (oE P "_law_shown" 551 (.ref 279)), (oE P "_law_node" 557 (.ref 284)), (oE P "_law_plan" 563 (.ref 289)), (oE P "_law_leads" 569 (.ref 294)), (oE P "_law_due" 575 (.ref 299)), (oE P "_law_spoiled" 593 (.ref 306)), (oE P "_law_told" 604 (.ref 313)), (oE P "law" 618 (.ref 320))] 48) #[])) ::
 (nat_lit 15, (Obj.mk (.type "tuple") none (Data.seq #[(.type "ValueError")] 0) #[])) ::
 (nat_lit 22, (Obj.mk (.type "tuple") none (Data.seq #[] 0) #[])) ::
 (nat_lit 23, (Obj.mk (.type "dict") none (Data.dict #[(oE P "__module__" 196 (.str (Str.ofString "forkplan.errors") 187)), (oE P "__firstlineno__" 200 (.int 2 199)), (oE P "__static_attributes__" 201 (.ref 22)), (oE P "__weakref__" 203 (.ref 25)), (oE P "__doc__" 204 .none)] 3) #[])) ::
 (nat_lit 24, (Obj.mk (.type "type") none (Data.cls (ClassData.mk (Str.ofString "ForkError") [(.type "ValueError")] [(.ref 24), (.type "ValueError"), (.type "Exception"), (.type "BaseException"), (.type "object")] 23 (Str.ofString "ForkError") Bool.true [] [(.ref 37), (.ref 49), (.ref 61), (.ref 73), (.ref 85), (.ref 97), (.ref 109), (.ref 121), (.ref 133)] Bool.false none Bool.false)) #[(some (.ref 15)), none, (some (.str (Str.ofString "ForkError") 189)), (some (.str (Str.ofString "ForkError") 197)), (some (.builtin "ValueError.__new__")), (some (.bool Bool.true))])) ::
 (nat_lit 25, (Obj.mk (.type "getset_descriptor") none (Data.fields #[(.str (Str.ofString "__weakref__") 202), (.ref 24), (.builtin "ExceptionGroup.__weakref__"), .none]) #[])) ::
 (nat_lit 28, (Obj.mk (.type "tuple") none (Data.seq #[(.ref 24)] 0) #[])) ::
 (nat_lit 35, (Obj.mk (.type "tuple") none (Data.seq #[] 0) #[])) ::
 (nat_lit 36, (Obj.mk (.type "dict") none (Data.dict #[(oE P "__module__" 214 (.str (Str.ofString "forkplan.errors") 187)), (oE P "__firstlineno__" 218 (.int 4 217)), (oE P "__static_attributes__" 219 (.ref 35)), (oE P "__doc__" 220 .none)] 2) #[])) ::
 (nat_lit 37, (Obj.mk (.type "type") none (Data.cls (ClassData.mk (Str.ofString "NoWorld") [(.ref 24)] [(.ref 37), (.ref 24), (.type "ValueError"), (.type "Exception"), (.type "BaseException"), (.type "object")] 36 (Str.ofString "NoWorld") Bool.true [] [] Bool.false none Bool.false)) #[(some (.ref 28)), none, (some (.str (Str.ofString "NoWorld") 207)), (some (.str (Str.ofString "NoWorld") 215)), (some (.builtin "ValueError.__new__")), (some (.bool Bool.true))])) ::
 (nat_lit 40, (Obj.mk (.type "tuple") none (Data.seq #[(.ref 24)] 0) #[])) ::
 (nat_lit 47, (Obj.mk (.type "tuple") none (Data.seq #[] 0) #[])) ::
 (nat_lit 48, (Obj.mk (.type "dict") none (Data.dict #[(oE P "__module__" 230 (.str (Str.ofString "forkplan.errors") 187)), (oE P "__firstlineno__" 234 (.int 6 233)), (oE P "__static_attributes__" 235 (.ref 47)), (oE P "__doc__" 236 .none)] 2) #[])) ::
 (nat_lit 49, (Obj.mk (.type "type") none (Data.cls (ClassData.mk (Str.ofString "NoName") [(.ref 24)] [(.ref 49), (.ref 24), (.type "ValueError"), (.type "Exception"), (.type "BaseException"), (.type "object")] 48 (Str.ofString "NoName") Bool.true [] [] Bool.false none Bool.false)) #[(some (.ref 40)), none, (some (.str (Str.ofString "NoName") 223)), (some (.str (Str.ofString "NoName") 231)), (some (.builtin "ValueError.__new__")), (some (.bool Bool.true))])) ::
 (nat_lit 52, (Obj.mk (.type "tuple") none (Data.seq #[(.ref 24)] 0) #[])) ::
 (nat_lit 59, (Obj.mk (.type "tuple") none (Data.seq #[] 0) #[])) ::
 (nat_lit 60, (Obj.mk (.type "dict") none (Data.dict #[(oE P "__module__" 246 (.str (Str.ofString "forkplan.errors") 187)), (oE P "__firstlineno__" 250 (.int 8 249)), (oE P "__static_attributes__" 251 (.ref 59)), (oE P "__doc__" 252 .none)] 2) #[])) ::
 (nat_lit 61, (Obj.mk (.type "type") none (Data.cls (ClassData.mk (Str.ofString "NoPlan") [(.ref 24)] [(.ref 61), (.ref 24), (.type "ValueError"), (.type "Exception"), (.type "BaseException"), (.type "object")] 60 (Str.ofString "NoPlan") Bool.true [] [] Bool.false none Bool.false)) #[(some (.ref 52)), none, (some (.str (Str.ofString "NoPlan") 239)), (some (.str (Str.ofString "NoPlan") 247)), (some (.builtin "ValueError.__new__")), (some (.bool Bool.true))])) ::
 (nat_lit 64, (Obj.mk (.type "tuple") none (Data.seq #[(.ref 24)] 0) #[])) ::
 (nat_lit 71, (Obj.mk (.type "tuple") none (Data.seq #[] 0) #[])) ::
 (nat_lit 72, (Obj.mk (.type "dict") none (Data.dict #[(oE P "__module__" 262 (.str (Str.ofString "forkplan.errors") 187)), (oE P "__firstlineno__" 266 (.int 10 265)), (oE P "__static_attributes__" 267 (.ref 71)), (oE P "__doc__" 268 .none)] 2) #[])) ::
 (nat_lit 73, (Obj.mk (.type "type") none (Data.cls (ClassData.mk (Str.ofString "NotSure") [(.ref 24)] [(.ref 73), (.ref 24), (.type "ValueError"), (.type "Exception"), (.type "BaseException"), (.type "object")] 72 (Str.ofString "NotSure") Bool.true [] [] Bool.false none Bool.false)) #[(some (.ref 64)), none, (some (.str (Str.ofString "NotSure") 255)), (some (.str (Str.ofString "NotSure") 263)), (some (.builtin "ValueError.__new__")), (some (.bool Bool.true))])) ::
 (nat_lit 76, (Obj.mk (.type "tuple") none (Data.seq #[(.ref 24)] 0) #[])) ::
 (nat_lit 83, (Obj.mk (.type "tuple") none (Data.seq #[] 0) #[])) ::
 (nat_lit 84, (Obj.mk (.type "dict") none (Data.dict #[(oE P "__module__" 278 (.str (Str.ofString "forkplan.errors") 187)), (oE P "__firstlineno__" 282 (.int 12 281)), (oE P "__static_attributes__" 283 (.ref 83)), (oE P "__doc__" 284 .none)] 2) #[])) ::
 (nat_lit 85, (Obj.mk (.type "type") none (Data.cls (ClassData.mk (Str.ofString "NotPlain") [(.ref 24)] [(.ref 85), (.ref 24), (.type "ValueError"), (.type "Exception"), (.type "BaseException"), (.type "object")] 84 (Str.ofString "NotPlain") Bool.true [] [] Bool.false none Bool.false)) #[(some (.ref 76)), none, (some (.str (Str.ofString "NotPlain") 271)), (some (.str (Str.ofString "NotPlain") 279)), (some (.builtin "ValueError.__new__")), (some (.bool Bool.true))])) ::
 (nat_lit 88, (Obj.mk (.type "tuple") none (Data.seq #[(.ref 24)] 0) #[])) ::
 (nat_lit 95, (Obj.mk (.type "tuple") none (Data.seq #[] 0) #[])) ::
 (nat_lit 96, (Obj.mk (.type "dict") none (Data.dict #[(oE P "__module__" 294 (.str (Str.ofString "forkplan.errors") 187)), (oE P "__firstlineno__" 298 (.int 14 297)), (oE P "__static_attributes__" 299 (.ref 95)), (oE P "__doc__" 300 .none)] 2) #[])) ::
 (nat_lit 97, (Obj.mk (.type "type") none (Data.cls (ClassData.mk (Str.ofString "NoWeights") [(.ref 24)] [(.ref 97), (.ref 24), (.type "ValueError"), (.type "Exception"), (.type "BaseException"), (.type "object")] 96 (Str.ofString "NoWeights") Bool.true [] [] Bool.false none Bool.false)) #[(some (.ref 88)), none, (some (.str (Str.ofString "NoWeights") 287)), (some (.str (Str.ofString "NoWeights") 295)), (some (.builtin "ValueError.__new__")), (some (.bool Bool.true))])) ::
 (nat_lit 100, (Obj.mk (.type "tuple") none (Data.seq #[(.ref 24)] 0) #[])) ::
 (nat_lit 107, (Obj.mk (.type "tuple") none (Data.seq #[] 0) #[])) ::
 (nat_lit 108, (Obj.mk (.type "dict") none (Data.dict #[(oE P "__module__" 310 (.str (Str.ofString "forkplan.errors") 187)), (oE P "__firstlineno__" 314 (.int 16 313)), (oE P "__static_attributes__" 315 (.ref 107)), (oE P "__doc__" 316 .none)] 2) #[])) ::
 (nat_lit 109, (Obj.mk (.type "type") none (Data.cls (ClassData.mk (Str.ofString "TooMany") [(.ref 24)] [(.ref 109), (.ref 24), (.type "ValueError"), (.type "Exception"), (.type "BaseException"), (.type "object")] 108 (Str.ofString "TooMany") Bool.true [] [] Bool.false none Bool.false)) #[(some (.ref 100)), none, (some (.str (Str.ofString "TooMany") 303)), (some (.str (Str.ofString "TooMany") 311)), (some (.builtin "ValueError.__new__")), (some (.bool Bool.true))])) ::
 (nat_lit 112, (Obj.mk (.type "tuple") none (Data.seq #[(.ref 24)] 0) #[])) ::
 (nat_lit 119, (Obj.mk (.type "tuple") none (Data.seq #[] 0) #[])) ::
 (nat_lit 120, (Obj.mk (.type "dict") none (Data.dict #[(oE P "__module__" 326 (.str (Str.ofString "forkplan.errors") 187)), (oE P "__firstlineno__" 330 (.int 18 329)), (oE P "__static_attributes__" 331 (.ref 119)), (oE P "__doc__" 332 .none)] 2) #[])) ::
 (nat_lit 121, (Obj.mk (.type "type") none (Data.cls (ClassData.mk (Str.ofString "NoText") [(.ref 24)] [(.ref 121), (.ref 24), (.type "ValueError"), (.type "Exception"), (.type "BaseException"), (.type "object")] 120 (Str.ofString "NoText") Bool.true [] [] Bool.false none Bool.false)) #[(some (.ref 112)), none, (some (.str (Str.ofString "NoText") 319)), (some (.str (Str.ofString "NoText") 327)), (some (.builtin "ValueError.__new__")), (some (.bool Bool.true))])) ::
 (nat_lit 124, (Obj.mk (.type "tuple") none (Data.seq #[(.ref 24)] 0) #[])) ::
 (nat_lit 131, (Obj.mk (.type "tuple") none (Data.seq #[] 0) #[])) ::
 (nat_lit 132, (Obj.mk (.type "dict") none (Data.dict #[(oE P "__module__" 342 (.str (Str.ofString "forkplan.errors") 187)), (oE P "__firstlineno__" 346 (.int 20 345)), (oE P "__static_attributes__" 347 (.ref 131)), (oE P "__doc__" 348 .none)] 2) #[])) ::
 (nat_lit 133, (Obj.mk (.type "type") none (Data.cls (ClassData.mk (Str.ofString "NoOrder") [(.ref 24)] [(.ref 133), (.ref 24), (.type "ValueError"), (.type "Exception"), (.type "BaseException"), (.type "object")] 132 (Str.ofString "NoOrder") Bool.true [] [] Bool.false none Bool.false)) #[(some (.ref 124)), none, (some (.str (Str.ofString "NoOrder") 335)), (some (.str (Str.ofString "NoOrder") 343)), (some (.builtin "ValueError.__new__")), (some (.bool Bool.true))])) ::
 (nat_lit 141, oC #[(oS "named" 353), (oS "named" 354), (oS "/claim/cut.py" 355), (oI 23), (oI 3), (oI 0), (oI 0), (oI 3), (oR 136), (.bool Bool.true), (oI 181), (oR 137), .none, (oR 138), (oR 139), (oR 140), (oI 360), (oI 23), (oS "/claim/cut.py" 361)]) ::
 (nat_lit 142, oF "named" 12 "forkplan.worlds" 351 141) ::
 (nat_lit 148, oC #[(oS "is_whole" 363), (oS "is_whole" 364), (oS "/claim/cut.py" 365), (oI 28), (oI 1), (oI 0), (oI 0), (oI 3), (oR 143), (.bool Bool.true), (oI 181), (oR 144), .none, (oR 145), (oR 146), (oR 147), (oI 367), (oI 28), (oS "/claim/cut.py" 368)]) ::
 (nat_lit 149, oF "is_whole" 13 "forkplan.worlds" 351 148) ::
 (nat_lit 155, oC #[(oS "plan_of" 372), (oS "plan_of" 373), (oS "/claim/cut.py" 374), (oI 31), (oI 2), (oI 0), (oI 0), (oI 3), (oR 150), (.bool Bool.true), (oI 181), (oR 151), .none, (oR 152), (oR 153), (oR 154), (oI 378), (oI 31), (oS "/claim/cut.py" 379)]) ::
 (nat_lit 156, oF "plan_of" 15 "forkplan.plans" 370 155) ::
 (nat_lit 160, oC #[(oS "followers_of" 381), (oS "followers_of" 382), (oS "/claim/cut.py" 383), (oI 40), (oI 1), (oI 0), (oI 0), (oI 3), (oR 157), (.bool Bool.true), (oI 181), (oR 158), .none, .none, .none, (oR 159), (oI 384), (oI 40), (oS "/claim/cut.py" 385)]) ::
 (nat_lit 161, oF "followers_of" 16 "forkplan.plans" 370 160) ::
 (nat_lit 167, oC #[(oS "is_node_number" 387), (oS "is_node_number" 388), (oS "/claim/cut.py" 389), (oI 46), (oI 2), (oI 0), (oI 0), (oI 3), (oR 162), (.bool Bool.true), (oI 181), (oR 163), .none, (oR 164), (oR 165), (oR 166), (oI 392), (oI 46), (oS "/claim/cut.py" 393)]) ::
 (nat_lit 168, oF "is_node_number" 17 "forkplan.plans" 370 167) ::
 (nat_lit 174, oC #[(oS "refuse_followers" 395), (oS "refuse_followers" 396), (oS "/claim/cut.py" 397), (oI 48), (oI 2), (oI 0), (oI 0), (oI 3), (oR 169), (.bool Bool.true), (oI 181), (oR 170), .none, (oR 171), (oR 172), (oR 173), (oI 401), (oI 48), (oS "/claim/cut.py" 402)]) ::
 (nat_lit 175, oF "refuse_followers" 18 "forkplan.plans" 370 174) ::
 (nat_lit 181, oC #[(oS "refuse_forks" 404), (oS "refuse_forks" 405), (oS "/claim/cut.py" 406), (oI 52), (oI 1), (oI 0), (oI 0), (oI 3), (oR 176), (.bool Bool.true), (oI 181), (oR 177), .none, (oR 178), (oR 179), (oR 180), (oI 408), (oI 52), (oS "/claim/cut.py" 409)]) ::
 (nat_lit 182, oF "refuse_forks" 19 "forkplan.plans" 370 181) ::
 (nat_lit 188, oC #[(oS "refuse_name" 411), (oS "refuse_name" 412), (oS "/claim/cut.py" 413), (oI 55), (oI 2), (oI 0), (oI 0), (oI 3), (oR 183), (.bool Bool.true), (oI 181), (oR 184), .none, (oR 185), (oR 186), (oR 187), (oI 416), (oI 55), (oS "/claim/cut.py" 417)]) ::
 (nat_lit 189, oF "refuse_name" 20 "forkplan.plans" 370 188) ::
 (nat_lit 195, oC #[(oS "thing_named_at" 419), (oS "thing_named_at" 420), (oS "/claim/cut.py" 421), (oI 58), (oI 2), (oI 0), (oI 0), (oI 3), (oR 190), (.bool Bool.true), (oI 181), (oR 191), .none, (oR 192), (oR 193), (oR 194), (oI 424), (oI 58), (oS "/claim/cut.py" 425)]) ::
 (nat_lit 196, oF "thing_named_at" 21 "forkplan.plans" 370 195) ::
 (nat_lit 202, oC #[(oS "_law_cell" 429), (oS "_law_cell" 430), (oS "/claim/cut.py" 431), (oI 63), (oI 2), (oI 0), (oI 0), (oI 3), (oR 197), (.bool Bool.true), (oI 181), (oR 198), .none, (oR 199), (oR 200), (oR 201), (oI 434), (oI 63), (oS "/claim/cut.py" 435)]) ::
 (nat_lit 203, oF "_law_cell" 23 "law_forkplan_k21_plans_made" 427 202) ::
 (nat_lit 209, oC #[(oS "_law_stir" 437), (oS "_law_stir" 438), (oS "/claim/cut.py" 439), (oI 67), (oI 2), (oI 0), (oI 0), (oI 3), (oR 204), (.bool Bool.true), (oI 181), (oR 205), .none, (oR 206), (oR 207), (oR 208), (oI 443), (oI 67), (oS "/claim/cut.py" 444)]) ::
 (nat_lit 210, oF "_law_stir" 24 "law_forkplan_k21_plans_made" 427 209) ::
 (nat_lit 216, oC #[(oS "_law_state" 446), (oS "_law_state" 447), (oS "/claim/cut.py" 448), (oI 72), (oI 1), (oI 0), (oI 0), (oI 3), (oR 211), (.bool Bool.true), (oI 181), (oR 212), .none, (oR 213), (oR 214), (oR 215), (oI 450), (oI 72), (oS "/claim/cut.py" 451)]) ::
 (nat_lit 217, oF "_law_state" 25 "law_forkplan_k21_plans_made" 427 216) ::
 (nat_lit 223, oC #[(oS "_law_take" 453), (oS "_law_take" 454), (oS "/claim/cut.py" 455), (oI 74), (oI 2), (oI 0), (oI 0), (oI 3), (oR 218), (.bool Bool.true), (oI 181), (oR 219), .none, (oR 220), (oR 221), (oR 222), (oI 459), (oI 74), (oS "/claim/cut.py" 460)]) ::
 (nat_lit 224, oF "_law_take" 26 "law_forkplan_k21_plans_made" 427 223) ::
 (nat_lit 230, oC #[(oS "_law_expression" 462), (oS "_law_expression" 463), (oS "/claim/cut.py" 464), (oI 81), (oI 3), (oI 0), (oI 0), (oI 3), (oR 225), (.bool Bool.true), (oI 181), (oR 226), .none, (oR 227), (oR 228), (oR 229), (oI 470), (oI 81), (oS "/claim/cut.py" 471)]) ::
 (nat_lit 231, oF "_law_expression" 27 "law_forkplan_k21_plans_made" 427 230) ::
 (nat_lit 237, oC #[(oS "_law_condition" 473), (oS "_law_condition" 474), (oS "/claim/cut.py" 475), (oI 89), (oI 3), (oI 0), (oI 0), (oI 3), (oR 232), (.bool Bool.true), (oI 181), (oR 233), .none, (oR 234), (oR 235), (oR 236), (oI 481), (oI 89), (oS "/claim/cut.py" 482)]) ::
 (nat_lit 238, oF "_law_condition" 28 "law_forkplan_k21_plans_made" 427 237) ::
 (nat_lit 244, oC #[(oS "_law_deed" 484), (oS "_law_deed" 485), (oS "/claim/cut.py" 486), (oI 100), (oI 3), (oI 0), (oI 0), (oI 3), (oR 239), (.bool Bool.true), (oI 181), (oR 240), .none, (oR 241), (oR 242), (oR 243), (oI 498), (oI 100), (oS "/claim/cut.py" 499)]) ::
 (nat_lit 245, oF "_law_deed" 29 "law_forkplan_k21_plans_made" 427 244) ::
 (nat_lit 251, oC #[(oS "_law_words" 501), (oS "_law_words" 502), (oS "/claim/cut.py" 503), (oI 114), (oI 2), (oI 0), (oI 0), (oI 3), (oR 246), (.bool Bool.true), (oI 181), (oR 247), .none, (oR 248), (oR 249), (oR 250), (oI 514), (oI 114), (oS "/claim/cut.py" 515)]) ::
 (nat_lit 252, oF "_law_words" 30 "law_forkplan_k21_plans_made" 427 251) ::
 (nat_lit 256, oC #[(oS "_law_world" 517), (oS "_law_world" 518), (oS "/claim/cut.py" 519), (oI 125), (oI 1), (oI 0), (oI 0), (oI 3), (oR 253), (.bool Bool.true), (oI 181), (oR 254), .none, .none, .none, (oR 255), (oI 520), (oI 125), (oS "/claim/cut.py" 521)]) ::
 (nat_lit 257, oF "_law_world" 31 "law_forkplan_k21_plans_made" 427 256) ::
 (nat_lit 261, oC #[(oS "_law_standings" 523), (oS "_law_standings" 524), (oS "/claim/cut.py" 525), (oI 150), (oI 1), (oI 0), (oI 0), (oI 3), (oR 258), (.bool Bool.true), (oI 181), (oR 259), .none, .none, .none, (oR 260), (oI 526), (oI 150), (oS "/claim/cut.py" 527)]) ::
 (nat_lit 262, oF "_law_standings" 32 "law_forkplan_k21_plans_made" 427 261) ::
 (nat_lit 266, oC #[(oS "_law_worth" 529), (oS "_law_worth" 530), (oS "/claim/cut.py" 531), (oI 158), (oI 3), (oI 0), (oI 0), (oI 3), (oR 263), (.bool Bool.true), (oI 181), (oR 264), .none, .none, .none, (oR 265), (oI 532), (oI 158), (oS "/claim/cut.py" 533)]) ::
 (nat_lit 267, oF "_law_worth" 33 "law_forkplan_k21_plans_made" 427 266) ::
 (nat_lit 273, oC #[(oS "_law_holds" 535), (oS "_law_holds" 536), (oS "/claim/cut.py" 537), (oI 165), (oI 3), (oI 0), (oI 0), (oI 3), (oR 268), (.bool Bool.true), (oI 181), (oR 269), .none, (oR 270), (oR 271), (oR 272), (oI 543), (oI 165), (oS "/claim/cut.py" 544)]) ::
 (nat_lit 274, oF "_law_holds" 34 "law_forkplan_k21_plans_made" 427 273) ::
 (nat_lit 278, oC #[(oS "_law_shown" 546), (oS "_law_shown" 547), (oS "/claim/cut.py" 548), (oI 175), (oI 3), (oI 0), (oI 0), (oI 3), (oR 275), (.bool Bool.true), (oI 181), (oR 276), .none, .none, .none, (oR 277), (oI 549), (oI 175), (oS "/claim/cut.py" 550)]) ::
 (nat_lit 279, oF "_law_shown" 35 "law_forkplan_k21_plans_made" 427 278) ::
 (nat_lit 283, oC #[(oS "_law_node" 552), (oS "_law_node" 553), (oS "/claim/cut.py" 554), (oI 178), (oI 4), (oI 0), (oI 0), (oI 3), (oR 280), (.bool Bool.true), (oI 181), (oR 281), .none, .none, .none, (oR 282), (oI 555), (oI 178), (oS "/claim/cut.py" 556)]) ::
 (nat_lit 284, oF "_law_node" 36 "law_forkplan_k21_plans_made" 427 283) ::
 (nat_lit 288, oC #[(oS "_law_plan" 558), (oS "_law_plan" 559), (oS "/claim/cut.py" 560), (oI 196), (oI 3), (oI 0), (oI 0), (oI 3), (oR 285), (.bool Bool.true), (oI 181), (oR 286), .none, .none, .none, (oR 287), (oI 561), (oI 196), (oS "/claim/cut.py" 562)]) ::
 (nat_lit 289, oF "_law_plan" 37 "law_forkplan_k21_plans_made" 427 288) ::
 (nat_lit 293, oC #[(oS "_law_leads" 564), (oS "_law_leads" 565), (oS "/claim/cut.py" 566), (oI 199), (oI 1), (oI 0), (oI 0), (oI 3), (oR 290), (.bool Bool.true), (oI 181), (oR 291), .none, .none, .none, (oR 292), (oI 567), (oI 199), (oS "/claim/cut.py" 568)]) ::
 (nat_lit 294, oF "_law_leads" 38 "law_forkplan_k21_plans_made" 427 293) ::
 (nat_lit 298, oC #[(oS "_law_due" 570), (oS "_law_due" 571), (oS "/claim/cut.py" 572), (oI 203), (oI 2), (oI 0), (oI 0), (oI 3), (oR 295), (.bool Bool.true), (oI 181), (oR 296), .none, .none, .none, (oR 297), (oI 573), (oI 203), (oS "/claim/cut.py" 574)]) ::
 (nat_lit 299, oF "_law_due" 39 "law_forkplan_k21_plans_made" 427 298) ::
 (nat_lit 305, oC #[(oS "_law_spoiled" 576), (oS "_law_spoiled" 577), (oS "/claim/cut.py" 578), (oI 216), (oI 3), (oI 0), (oI 0), (oI 3), (oR 300), (.bool Bool.true), (oI 181), (oR 301), .none, (oR 302), (oR 303), (oR 304), (oI 591), (oI 216), (oS "/claim/cut.py" 592)]) ::
 (nat_lit 306, oF "_law_spoiled" 40 "law_forkplan_k21_plans_made" 427 305) ::
 (nat_lit 312, oC #[(oS "_law_told" 594), (oS "_law_told" 595), (oS "/claim/cut.py" 596), (oI 234), (oI 2), (oI 0), (oI 0), (oI 3), (oR 307), (.bool Bool.true), (oI 181), (oR 308), .none, (oR 309), (oR 310), (oR 311), (oI 602), (oI 234), (oS "/claim/cut.py" 603)]) ::
 (nat_lit 313, oF "_law_told" 41 "law_forkplan_k21_plans_made" 427 312) ::
 (nat_lit 319, oC #[(oS "law" 605), (oS "law" 606), (oS "/claim/cut.py" 607), (oI 250), (oI 1), (oI 0), (oI 0), (oI 3), (oR 314), (.bool Bool.true), (oI 181), (oR 315), .none, (oR 316), (oR 317), (oR 318), (oI 616), (oI 250), (oS "/claim/cut.py" 617)]) ::
 (nat_lit 320, oF "law" 42 "law_forkplan_k21_plans_made" 427 319) :: []
noncomputable def topView : Program := { PySem.Challenge.pw_forkplan_k21_plans_made with main := { PySem.Challenge.pw_forkplan_k21_plans_made.main with body := ([1, 2, 3, 4, 5, 6, 7, 8, 9, 10, 12, 13, 15, 16, 17, 18, 19, 20, 21, 23, 24, 25, 26, 27, 28, 29, 30, 31, 32, 33, 34, 35, 36, 37, 38, 39, 40, 41, 42] : List Nat).filterMap fun i => PySem.Challenge.pw_forkplan_k21_plans_made.main.body[i]? } }
noncomputable def topHook : PySem.W.Hook := PySem.W.kHook topLeft [2, 3, 15, 22, 23, 24, 25, 28, 35, 36, 37, 40, 47, 48, 49, 52, 59, 60, 61, 64, 71, 72, 73, 76, 83, 84, 85, 88, 95, 96, 97, 100, 107, 108, 109, 112, 119, 120, 121, 124, 131, 132, 133, 141, 142, 148, 149, 155, 156, 160, 161, 167, 168, 174, 175, 181, 182, 188, 189, 195, 196, 202, 203, 209, 210, 216, 217, 223, 224, 230, 231, 237, 238, 244, 245, 251, 252, 256, 257, 261, 262, 266, 267, 273, 274, 278, 279, 283, 284, 288, 289, 293, 294, 298, 299, 305, 306, 312, 313, 319, 320] (fun _ => by kernel_rfl)
open PySem.W in
theorem topRuns : PySem.W.LeftO (PySem.W.OpenLaw.row PySem.Challenge.rw_forkplan_k21_plans_made).prog topView [] (fun s => xlAt topView [] s && recOk (RowW.records (OpenRow.toRowW (PySem.W.OpenLaw.row PySem.Challenge.rw_forkplan_k21_plans_made))) s) (Hook.obs topHook) (Hook.val topHook) 6168 := by
 intro w
 kernel_rfl
end FP
namespace L2
open PySem PySem.Spec PyProof.Rows

noncomputable abbrev Key := Sum Int Str
noncomputable def keyIs : Key → Value → Bool
 | .inl k, v => Value.isInt k v
 | .inr x, v => Value.isStrOf x v
noncomputable def keyH (w : World) : Key → Int
 | .inl k => hashInt k
 | .inr x => hashStr w x
theorem zA : ∀ {k : Key} {v : Value}, keyIs k v = true → (∃ i t, k = Sum.inl i ∧ v = Value.int i t) ∨ (∃ x t, k = Sum.inr x ∧ v = Value.str x t)
 | .inl i, v, h => by
  obtain ⟨t, e⟩ := Value.isInt_shape (k := i) (v := v) h
  exact .inl ⟨i, t, rfl, e⟩
 | .inr x, v, h => by
  obtain ⟨t, e⟩ := Value.isStrOf_shape (x := x) (v := v) h
  exact .inr ⟨x, t, rfl, e⟩
theorem keyIs_int (i : Int) (t : Tok) : keyIs (.inl i) (.int i t) = true := by simp [keyIs, Value.isInt]
theorem key_ll (a b : Int) : decide ((Sum.inl a : Key) = Sum.inl b) = (a == b) := by
 by_cases e : a = b
 ·subst e; simp
 ·have h : ¬ (Sum.inl a : Key) = Sum.inl b := fun q => e (Sum.inl.inj q)
  rw [decide_eq_false h]
  exact (beq_eq_false_iff_ne.mpr e).symm
theorem key_rr (a b : Str) : decide ((Sum.inr a : Key) = Sum.inr b) = decide (a = b) := by
 by_cases e : a = b
 ·subst e; simp
 ·have h : ¬ (Sum.inr a : Key) = Sum.inr b := fun q => e (Sum.inr.inj q)
  rw [decide_eq_false h, decide_eq_false e]
theorem key_lr (a : Int) (b : Str) : decide ((Sum.inl a : Key) = Sum.inr b) = false := decide_eq_false (fun q => nomatch q)
theorem key_rl (a : Str) (b : Int) : decide ((Sum.inr a : Key) = Sum.inl b) = false := decide_eq_false (fun q => nomatch q)

noncomputable def mixKind (prog : Program) (w : World) : PySem.KeyKind prog w Key where
 is := keyIs
 hash := keyH w
 inj := fun v a b ha hb => by
  rcases zA ha with ⟨i, t, rfl, rfl⟩ | ⟨x, t, rfl, rfl⟩
  ·rcases zA hb with ⟨j, u, rfl, e⟩ | ⟨y, u, rfl, e⟩
   ·injection e with e1 _; rw [e1]
   ·exact nomatch e
  ·rcases zA hb with ⟨j, u, rfl, e⟩ | ⟨y, u, rfl, e⟩
   ·exact nomatch e
   ·injection e with e1 _; rw [e1]
 byValue := fun k v h => by
  rcases zA h with ⟨i, t, rfl, rfl⟩ | ⟨x, t, rfl, rfl⟩ <;> rfl
 pyHash := fun hv h => by
  rcases zA hv with ⟨i, t, rfl, rfl⟩ | ⟨x, t, rfl, rfl⟩
  ·exact wpAny_pyHash_int h
  ·exact wpAny_pyHash_str h
 eqBool := fun hu hv h => by
  rcases zA hu with ⟨i, t, rfl, rfl⟩ | ⟨x, t, rfl, rfl⟩
  ·rcases zA hv with ⟨j, u, rfl, rfl⟩ | ⟨y, u, rfl, rfl⟩
   ·rw [key_ll] at h; exact wpAny_eqBool_int h
   ·rw [key_lr] at h; exact SeqAt.EqAt.int_str i t y u _ _ _ _ h
  ·rcases zA hv with ⟨j, u, rfl, rfl⟩ | ⟨y, u, rfl, rfl⟩
   ·rw [key_rl] at h; exact SeqAt.EqAt.str_int x t j u _ _ _ _ h
   ·rw [key_rr] at h; exact wpAny_eqBool_str h
 «strs» := fun k x t v h => by
  rcases zA h with ⟨i, u, rfl, e⟩ | ⟨y, u, rfl, e⟩
  ·exact nomatch e
  ·injection e with e1 _
   subst e1
   cases v <;> rfl

theorem mixKind_int (prog : Program) (w : World) (i : Int) (t : Tok) : (mixKind prog w).is (.inl i) (.int i t) = true := keyIs_int i t
end L2

namespace L2
open PySem PySem.Spec PyProof.Rows

inductive V where
 | non | bl (b : Bool) | int (i : Int) | str (x : Str) | byt (b : Array UInt8) | flt (b : UInt64) | ref (a : Addr) | ty (n : String)
 deriving DecidableEq

noncomputable def RelV : V → Value → Prop
 | .non, u => u = Value.none
 | .bl b, u => u = Value.bool b
 | .int i, u => ∃ t, u = Value.int i t
 | .str x, u => ∃ t, u = Value.str x t
 | .byt b, u => ∃ t, u = Value.bytes b t
 | .flt b, u => ∃ t, u = Value.float b t
 | .ref a, u => u = Value.ref a
 | .ty n, u => u = Value.type n

noncomputable abbrev Vals : List V → List Value → Prop := Paired RelV
theorem Vals.length {xs : List V} {us : List Value} (r : Vals xs us) : xs.length = us.length := Paired.length r
theorem Vals.get : ∀ {xs : List V} {us : List Value} {i : Nat} {x : V}, Vals xs us → xs[i]? = some x → ∃ u, us[i]? = some u ∧ RelV x u
 | _, _, _, _, .nil, e => by simp at e
 | _, _, 0, _, .cons r _, e => by simp at e; subst e; exact ⟨_, rfl, r⟩
 | _, _, i + 1, x, .cons _ t, e => by
  obtain ⟨u, h1, h2⟩ := Vals.get (i := i) (x := x) t (by simpa using e)
  exact ⟨u, by simpa using h1, h2⟩
theorem Vals.set {x : V} {u : Value} (r : RelV x u) : ∀ {xs : List V} {us : List Value} (i : Nat), Vals xs us → Vals (xs.set i x) (us.set i u)
 | _, _, _, .nil => .nil
 | _, _, 0, .cons _ t => .cons r t
 | _, _, i + 1, .cons q t => .cons q (Vals.set r i t)
theorem Vals.append : ∀ {xs ys : List V} {us ws : List Value}, Vals xs us → Vals ys ws → Vals (xs ++ ys) (us ++ ws)
 | _, _, _, _, .nil, s => s
 | _, _, _, _, .cons r t, s => .cons r (Vals.append t s)
theorem Vals.take : ∀ {xs : List V} {us : List Value} (n : Nat), Vals xs us → Vals (xs.take n) (us.take n)
 | _, _, 0, _ => .nil
 | _, _, _ + 1, .nil => .nil
 | _, _, n + 1, .cons r t => .cons r (Vals.take n t)
theorem Vals.drop : ∀ {xs : List V} {us : List Value} (n : Nat), Vals xs us → Vals (xs.drop n) (us.drop n)
 | _, _, 0, r => r
 | _, _, _ + 1, .nil => .nil
 | _, _, n + 1, .cons _ t => Vals.drop n t
noncomputable def RelO : Option V → Option Value → Prop
 | some v, some u => RelV v u
 | none, none => True
 | _, _ => False
noncomputable def KV {κ : Type} : List (κ × V) → List (κ × Value) → Prop := Paired fun (p : κ × V) (q : κ × Value) => p.1 = q.1 ∧ RelV p.2 q.2

noncomputable def kV : Key → V
 | .inl i => .int i
 | .inr x => .str x

inductive HO where
 /-- a list -/
 | lst (xs : List V)
 /-- a tuple (never changes) -/
 | tup (xs : List V)
 /-- a dict whose keys are ints and texts; one whose keys are tuples of ints and texts (the empty one is both) -/
 | dK (kvs : List (Key × V)) | dT (kvs : List (List Key × V))
 /-- a set of ints: its members, its size -/
 | set (S : Int → Bool) (n : Nat)
 /-- an instance of the class at C, its dict at dx, its attributes -/
 | ins (C dx : Addr) (fs : List (Str × V))
 /-- the dict of the instance at x -/
 | own (x : Addr)
 /-- the dict of an exception -/
 | xd (fs : List (Str × V))
 /-- a bound method, f of x -/
 | met (f x : Addr)
 /-- a range object lo, lo + 1, .. below hi -/
 | rng (lo hi : Int)
 /-- a thing that is known to the object (the script; a dict while a loop walks it): read, never written while it is so -/
 | frz (o : Obj) (u : HO)
 /-- a code object's table -/
 | tbl (ps : Array Value)
 /-- any other thing, by what is true of its one object (a def of one's own: SetO a S n := HO.ext fun h => ..) -/
 | ext (φ : Heap → Prop)

noncomputable abbrev Hp := Addr → Option HO
noncomputable def upd (H : Hp) (a : Addr) (o : HO) : Hp := fun b => if b = a then some o else H b
theorem qW {H : Hp} {a : Addr} {o : HO} : upd H a o a = some o := by unfold upd; rw [if_pos rfl]
theorem qA {H : Hp} {a b : Addr} {o : HO} (h : b ≠ a) : upd H a o b = H b := by unfold upd; rw [if_neg h]
theorem upd_upd {H : Hp} {a : Addr} {o u : HO} : upd (upd H a o) a u = upd H a u := by
 funext b; unfold upd; split <;> rfl
theorem yI {H : Hp} {a b : Addr} {o u : HO} (h : H a = some o) (h' : H b = some u) (d : o ≠ u) : a ≠ b := by
 intro e; subst e; rw [h] at h'; exact d (Option.some.inj h')
theorem qB {H : Hp} {a b : Addr} {o : HO} (h : H a = some o) (h' : H b = none) : a ≠ b := by
 intro e; subst e; rw [h] at h'; cases h'

noncomputable def TupX (h : Heap) (a : Addr) (its : Array Value) : Prop := ∃ o, h.get? a = some o ∧ o.cls = .type "tuple" ∧ ∃ n, o.data = .seq its n ∧ o.dict = none
theorem TupX.tup {h : Heap} {a : Addr} {its : Array Value} (x : TupX h a its) : IsTup h a its := let ⟨o, e, c, n, d, _⟩ := x; ⟨o, e, c, n, d⟩
theorem TupX.lt {h : Heap} {a : Addr} {its : Array Value} (x : TupX h a its) : a < h.objs.size := x.tup.lt
theorem TupX.new (h : Heap) (its : Array Value) : TupX (h.push { cls := .type "tuple", data := .seq its }) h.objs.size its := ⟨_, Heap.get?_push_size _ rfl, rfl, _, rfl, rfl⟩
section
variable (P : Program) (w : World)
noncomputable def ObjOk (H : Hp) (h : Heap) (a : Addr) : HO → Prop
 | .lst xs => xs.length ≤ sizeLine ∧ ∃ (its : List Value) (n : Nat), Vals xs its ∧ h.get? a = some { cls := .type "list", data := .seq its.toArray n }
 | .tup xs => xs.length ≤ sizeLine ∧ ∃ its : List Value, Vals xs its ∧ TupX h a its.toArray
 | .dK kvs => kvs.length ≤ sizeLine ∧ (a == sysModules) = false ∧ ∃ vs, KV kvs vs ∧ h.DictOf (mixKind P w) a vs
 | .dT kvs => kvs.length ≤ sizeLine ∧ (a == sysModules) = false ∧ ∃ xs : List (List Key × Addr × Value),
   Paired (fun (p : List Key × V) (q : List Key × Addr × Value) => p.1 = q.1 ∧ H q.2.1 = some (.tup (p.1.map kV)) ∧ RelV p.2 q.2.2) kvs xs ∧
   ∃ o es ep, h.get? a = some o ∧ o.ExactDict ∧ o.data = .dict es ep ∧ es.toList = xs.map (entryOfKey (tupleKind (mixKind P w))) ∧ (xs.map (·.1)).Nodup
 | .set S n => h.SetOf (intKind P w) a S n
 | .ins C dx fs => H dx = some (.own a) ∧ fs.length ≤ 1000 ∧ dx ≠ a ∧ h.get? a = some (PySem.W.instObj C dx) ∧
   ∃ mA, h.Ns1 dx mA ∧ (∀ f, RelO (fs.lookup f) (mA f)) ∧ PySem.Within mA (fs.map (·.1))
 | .own _ => ∃ o, h.get? a = some o
 | .xd fs => ∃ mA, h.Ns1 a mA ∧ ∀ f, RelO (fs.lookup f) (mA f)
 | .rng lo hi => ∃ t u v, h.get? a = some { cls := .type "range", data := .fields #[.int lo t, .int hi u, .int 1 v] }
 | .frz o u => h.get? a = some o ∧ ObjOk H h a u
 | .tbl ps => h.get? a = some { cls := .none, data := .fields ps }
 | .met f x => h.get? a = some (PySem.W.methodObj (.ref f) (.ref x))
 | .ext φ => φ h ∧ (∃ o, h.get? a = some o) ∧ ∀ h1 h2 : Heap, φ h1 → (∀ o, h1.get? a = some o → h2.get? a = some o) → φ h2
noncomputable def HOk (H : Hp) (h : Heap) : Prop := ∀ a o, H a = some o → ObjOk P w H h a o
end

section
variable {P : Program} {w : World} {H H' : Hp} {h h' : Heap} {a : Addr} {o : HO}
theorem ObjOk.lt (x : ObjOk P w H h a o) : a < h.objs.size := by
 cases o with
 | lst xs => obtain ⟨_, _, _, _, e⟩ := x; exact Heap.lt_size e
 | tup xs => obtain ⟨_, _, _, p⟩ := x; exact p.lt
 | dK kvs => obtain ⟨_, _, _, _, o, _, _, e, _⟩ := x; exact Heap.lt_size e
 | dT kvs => obtain ⟨_, _, _, _, o, _, _, e, _⟩ := x; exact Heap.lt_size e
 | set S n => obtain ⟨o, _, _, _, e, _⟩ := x; exact Heap.lt_size e
 | ins C dx fs => obtain ⟨_, _, _, e, _⟩ := x; exact Heap.lt_size e
 | own y => obtain ⟨_, e⟩ := x; exact Heap.lt_size e
 | xd fs => obtain ⟨_, ⟨_, _, _, e, _⟩, _⟩ := x; exact Heap.lt_size e
 | rng lo hi => obtain ⟨_, _, _, e⟩ := x; exact Heap.lt_size e
 | frz ob u => obtain ⟨e, _⟩ := x; exact Heap.lt_size e
 | tbl ps => exact Heap.lt_size (show h.get? a = some _ from x)
 | met f y => exact Heap.lt_size (show h.get? a = some _ from x)
 | ext φ => obtain ⟨_, ⟨_, e⟩, _⟩ := x; exact Heap.lt_size e
theorem Paired.mapP {α β : Type} {F G : α → β → Prop} : ∀ {l₁ : List α} {l₂ : List β}, Paired F l₁ l₂ → (∀ a b, F a b → G a b) → Paired G l₁ l₂
 | _, _, .nil, _ => .nil
 | _, _, .cons r t, f => .cons (f _ _ r) (Paired.mapP t f)
theorem ObjOk.stay (x : ObjOk P w H h a o) (k : ∀ b u, (b = a ∨ H b = some (.own a)) → h.get? b = some u → h'.get? b = some u)
  (ho : ∀ b, H b = some (.own a) → H' b = some (.own a)) (ht : ∀ b xs, H b = some (.tup xs) → H' b = some (.tup xs)) : ObjOk P w H' h' a o := by
 induction o with
 | lst xs => obtain ⟨z, its, n, r, e⟩ := x; exact ⟨z, its, n, r, k _ _ (.inl rfl) e⟩
 | tup xs => obtain ⟨z, its, r, ob, e, c⟩ := x; exact ⟨z, its, r, ob, k _ _ (.inl rfl) e, c⟩
 | dK kvs => obtain ⟨z, y, vs, r, ob, es, ep, e, c⟩ := x; exact ⟨z, y, vs, r, ob, es, ep, k _ _ (.inl rfl) e, c⟩
 | dT kvs =>
  obtain ⟨z, y, xs, r, ob, es, ep, e, c⟩ := x
  exact ⟨z, y, xs, Paired.mapP r fun p q z => ⟨z.1, ht _ _ z.2.1, z.2.2⟩, ob, es, ep, k _ _ (.inl rfl) e, c⟩
 | set S n => obtain ⟨ob, es, ep, t, e, c⟩ := x; exact ⟨ob, es, ep, t, k _ _ (.inl rfl) e, c⟩
 | ins C dx fs =>
  obtain ⟨d, z, ne, e, mA, ⟨od, es, ep, e2, c⟩, r⟩ := x
  exact ⟨ho _ d, z, ne, k _ _ (.inl rfl) e, mA, ⟨od, es, ep, k _ _ (.inr d) e2, c⟩, r⟩
 | own y => obtain ⟨ob, e⟩ := x; exact ⟨ob, k _ _ (.inl rfl) e⟩
 | xd fs => obtain ⟨mA, ⟨od, es, ep, e, c⟩, r⟩ := x; exact ⟨mA, ⟨od, es, ep, k _ _ (.inl rfl) e, c⟩, r⟩
 | rng lo hi => obtain ⟨t, u, v, e⟩ := x; exact ⟨t, u, v, k _ _ (.inl rfl) e⟩
 | frz ob u ih => obtain ⟨e, q⟩ := x; exact ⟨k _ _ (.inl rfl) e, ih q⟩
 | tbl ps =>
  have e : h.get? a = some { cls := .none, data := .fields ps } := x
  show h'.get? a = some { cls := .none, data := .fields ps }
  exact k a _ (.inl rfl) e
 | met f y =>
  have e : h.get? a = some (PySem.W.methodObj (.ref f) (.ref y)) := x
  show h'.get? a = some (PySem.W.methodObj (.ref f) (.ref y))
  exact k a _ (.inl rfl) e
 | ext φ => obtain ⟨p, ⟨o, e⟩, st⟩ := x; exact ⟨st _ _ p fun o q => k _ _ (.inl rfl) q, ⟨o, k _ _ (.inl rfl) e⟩, st⟩
theorem HOk.lt (x : HOk P w H h) (e : H a = some o) : a < h.objs.size := (x a o e).lt
theorem HOk.fresh (x : HOk P w H h) (e : h.objs.size ≤ a) : H a = none := by
 cases q : H a with
 | none => rfl
 | some u => exact absurd (Nat.lt_of_lt_of_le (x.lt q) e) (Nat.lt_irrefl _)
theorem HOk.kept (x : HOk P w H h) (k : ∀ b u, h.get? b = some u → h'.get? b = some u) : HOk P w H h' := fun a o e =>
 (x a o e).stay (fun b u _ q => k b u q) (fun _ q => q) fun _ _ q => q
theorem HOk.laid (x : HOk P w H h) (k : ∀ b u, h.get? b = some u → h'.get? b = some u) (hp : h.objs.size ≤ a) (new : ObjOk P w (upd H a o) h' a o) : HOk P w (upd H a o) h' := fun b u e => by
 have hn := x.fresh hp
 by_cases hb : b = a
 ·subst hb; rw [qW] at e; cases e; exact new
 ·rw [qA hb] at e
  exact (x b u e).stay (fun c v _ q => k c v q) (fun c q => by rw [qA (qB q hn)]; exact q) fun c xs q => by rw [qA (qB q hn)]; exact q
end

noncomputable def Rd (H : Hp) (a : Addr) (u : HO) : Prop := H a = some u ∨ ∃ o, H a = some (.frz o u)
theorem Rd.ok {P : Program} {w : World} {H : Hp} {h : Heap} {a : Addr} {u : HO} (r : Rd H a u) (x : HOk P w H h) : ObjOk P w H h a u := by
 rcases r with r | ⟨o, r⟩
 ·exact x a u r
 ·obtain ⟨_, q⟩ := x a _ r
  exact q
noncomputable def Mut : Option HO → Prop
 | some (.lst _) => True
 | some (.dK _) => True
 | some (.dT _) => True
 | some (.set _ _) => True
 | some (.ins _ _ _) => True
 | some (.ext _) => True
 | _ => False
section
variable {P : Program} {w : World} {H : Hp} {h h' : Heap} {x e : Addr} {o' : HO}
theorem HOk.write (ok : HOk P w H h) (mu : Mut (H x)) (he : e = x ∨ H e = some (.own x)) (k : ∀ b u, b ≠ e → h.get? b = some u → h'.get? b = some u) (heo : ∃ u, h'.get? e = some u)
  (new : ObjOk P w (upd H x o') h' x o') : HOk P w (upd H x o') h' := fun b u q => by
 have nown : ∀ c y, H c = some (.own y) → c ≠ x := fun c y r z => by subst z; rw [r] at mu; exact mu
 have ntup : ∀ c xs, H c = some (.tup xs) → c ≠ x := fun c xs r z => by subst z; rw [r] at mu; exact mu
 by_cases hb : b = x
 ·subst hb; rw [qW] at q; cases q; exact new
 ·rw [qA hb] at q
  by_cases hbe : b = e
  ·have q' : H b = some (.own x) := by
    rcases he with z | z
    ·exact absurd (hbe.trans z) hb
    ·rw [hbe]; exact z
   rw [q] at q'; cases q'
   obtain ⟨v, hv⟩ := heo
   exact ⟨v, by rw [hbe]; exact hv⟩
  ·refine (ok b u q).stay (fun c v hc r => k c v ?_ r) (fun c r => by rw [qA (nown c b r)]; exact r) fun c xs r => by rw [qA (ntup c xs r)]; exact r
   rcases hc with rfl | hc
   ·exact hbe
   ·rintro rfl
    rcases he with z | z
    ·exact nown c b hc z
    ·rw [hc] at z; cases z; exact hb rfl
end

structure Un (fs ex : List Addr) (H H' : Hp) (h h' : Heap) : Prop where
 keep : ∀ b o, h.get? b = some o → H b = none → b ∉ fs → b ∉ ex → h'.get? b = some o
 slot : ∀ b o, h.get? b = some o → H b = none → b ∈ fs → b ∉ ex → ∃ sl, h'.get? b = some { o with slots := sl }
 free : ∀ b o, h.get? b = some o → H b = none → b ∉ ex → H' b = none
 there : ∀ b o, h.get? b = some o → b ∉ ex → ∃ o', h'.get? b = some o'
 tups : ∀ b xs, H b = some (.tup xs) → H' b = some (.tup xs)
 frzs : ∀ b o u, H b = some (.frz o u) → H' b = some (.frz o u)
 tbls : ∀ b ps, H b = some (.tbl ps) → ∃ more, H' b = some (.tbl (ps ++ more))
section
variable {fs fs' ex ex' : List Addr} {H H1 H2 : Hp} {h h1 h2 h' : Heap} {a x e : Addr} {o : HO}
theorem Un.any (u : Un fs ex H H1 h h1) {b : Addr} {ob : Obj} (q : h.get? b = some ob) (n : H b = none) (hx : b ∉ ex) : ∃ sl, h1.get? b = some { ob with slots := sl } := by
 by_cases hb : b ∈ fs
 ·exact u.slot b ob q n hb hx
 ·exact ⟨ob.slots, u.keep b ob q n hb hx⟩
theorem Un.trans (a : Un fs ex H H1 h h1) (b : Un fs ex H1 H2 h1 h2) : Un fs ex H H2 h h2 where
 keep := fun c ob q n hc hx => b.keep c ob (a.keep c ob q n hc hx) (a.free c ob q n hx) hc hx
 slot := fun c ob q n hc hx => by
  obtain ⟨sl, e1⟩ := a.slot c ob q n hc hx
  obtain ⟨sl', e2⟩ := b.slot c _ e1 (a.free c ob q n hx) hc hx
  exact ⟨sl', e2⟩
 free := fun c ob q n hx => by
  obtain ⟨o', e1⟩ := a.there c ob q hx
  exact b.free c o' e1 (a.free c ob q n hx) hx
 there := fun c ob q hx => by
  obtain ⟨o', e1⟩ := a.there c ob q hx
  exact b.there c o' e1 hx
 tups := fun c xs q => b.tups c xs (a.tups c xs q)
 frzs := fun c ob xs q => b.frzs c ob xs (a.frzs c ob xs q)
 tbls := fun c ps q => by
  obtain ⟨m1, e1⟩ := a.tbls c ps q
  obtain ⟨m2, e2⟩ := b.tbls c _ e1
  exact ⟨m1 ++ m2, by rw [e2, Array.append_assoc]⟩
theorem Un.kept (k : ∀ b u, h.get? b = some u → h'.get? b = some u) : Un fs ex H H h h' :=
 ⟨fun b ob q _ _ _ => k b ob q, fun b ob q _ _ _ => ⟨ob.slots, k b ob q⟩, fun _ _ _ n _ => n, fun b ob q _ => ⟨ob, k b ob q⟩, fun _ _ q => q, fun _ _ _ q => q, fun _ ps q => ⟨#[], by rw [q]; simp⟩⟩
theorem Un.refl : Un fs ex H H h h := Un.kept fun _ _ q => q
theorem Un.laid (k : ∀ b u, h.get? b = some u → h'.get? b = some u) (hp : h.objs.size ≤ a) (hn : H a = none) : Un fs ex H (upd H a o) h h' where
 keep := fun b u q _ _ _ => k b u q
 slot := fun b u q _ _ _ => ⟨u.slots, k b u q⟩
 free := fun b u q n _ => by rw [qA (Nat.ne_of_lt (Nat.lt_of_lt_of_le (Heap.lt_size q) hp))]; exact n
 there := fun b u q _ => ⟨u, k b u q⟩
 tups := fun b xs q => by rw [qA (qB q hn)]; exact q
 frzs := fun b u xs q => by rw [qA (qB q hn)]; exact q
 tbls := fun b ps q => ⟨#[], by rw [qA (qB q hn), q]; simp⟩
theorem Un.write (mu : Mut (H x)) (he : e = x ∨ H e = some (.own x)) (k : ∀ b u, b ≠ e → h.get? b = some u → h'.get? b = some u) (heo : ∃ u, h'.get? e = some u) : Un fs ex H (upd H x o) h h' := by
 have hx : ∀ b, H b = none → b ≠ x := fun b n z => by subst z; rw [n] at mu; exact mu
 have hb : ∀ b, H b = none → b ≠ e := fun b n z => by
  subst z
  rcases he with r | r
  ·exact hx b n r
  ·rw [n] at r; cases r
 have hm : ∀ b u, H b = some u → ¬ Mut (some u) → b ≠ x := fun b u q nm z => by subst z; rw [q] at mu; exact nm mu
 refine ⟨fun b u q n _ _ => k b u (hb b n) q, fun b u q n _ _ => ⟨u.slots, k b u (hb b n) q⟩, fun b u q n _ => by rw [qA (hx b n)]; exact n, fun b u q _ => ?_,
  fun b xs q => by rw [qA (hm b _ q fun z => z)]; exact q, fun b u xs q => by rw [qA (hm b _ q fun z => z)]; exact q, fun b ps q => ⟨#[], by rw [qA (hm b _ q fun z => z), q]; simp⟩⟩
 by_cases hbe : b = e
 ·subst hbe; exact heo
 ·exact ⟨u, k b u hbe q⟩
end

noncomputable def trk (h : Heap) (H : Hp) : List Addr := (List.range h.objs.size).filter fun a => (H a).isSome
noncomputable def hidT (h : Heap) (H : Hp) : Heap := PySem.W.hideAll h (trk h H)
theorem hidT_size (h : Heap) (H : Hp) : (hidT h H).objs.size = h.objs.size := PySem.W.hideAll_size _ _
theorem hidT_get {h : Heap} {H : Hp} {b : Addr} {o : Obj} (e : h.get? b = some o) (n : H b = none) : (hidT h H).get? b = some o :=
 PySem.W.hideAll_get _ e fun hm => by
  have q : (H b).isSome = true := (List.mem_filter.mp hm).2
  rw [n] at q; simp at q
theorem of_hidT {h : Heap} {H : Hp} {b : Addr} {o : Obj} (e : (hidT h H).get? b = some o) : h.get? b = some o ∧ H b = none := by
 have e' : h.get? b = some o := PySem.W.of_hideAll (trk h H) e
 refine ⟨e', ?_⟩
 cases q : H b with
 | none => rfl
 | some x =>
  have hm : b ∈ trk h H := List.mem_filter.mpr ⟨List.mem_range.mpr (Heap.lt_size e'), by simp [q]⟩
  have z : (hidT h H).get? b = none := PySem.W.hideAll_none (trk h H) hm
  rw [z] at e; cases e

end L2

namespace L2
open PySem PySem.Spec PyProof.Rows

structure Mod (K : PySem.W.Frag) (mg : Str → Option Value) (base : Heap) : Prop where
 kin : K.In base
 glob : base.Ns mainGlobals mg
 blt : ∃ mb, base.Ns builtinsNs mb ∧ ∀ x : Str, x ≠ "__name__" → mb x = bootBuiltins x
 nolimit : base.NoLimit

/-- the context: a def's body (or a comprehension's block) running. base: fixed through the whole law; s₀, H₀: the entry; outer: the frames whose slots others may change (a def's callers); stack: all frames that run;
   ex: iterators that were made ahead of the entry and are walked here (a comprehension's); fn: the names whose cells were made at the entry (a def: all; a comprehension's block: its own); calm: not within an except suite; pn: pins that every state bears; xe: what is wanted of an exception that leaves the code -/
structure Cx where
 prog : Program
 w : World
 K : PySem.W.Frag
 mg : Str → Option Value
 base : Heap
 A : Around
 N : List Str
 s₀ : Shared
 H₀ : Hp
 env : Env
 outer : List Env
 stack : List Env
 ex : List Addr
 fn : Str → Bool
 calm : Bool
 pn : List (Addr × Obj)
 xe : Value → Shared → Prop
noncomputable def frs (l : List Env) : List Addr := l.filterMap (·.frame)
noncomputable abbrev Cx.fs (X : Cx) : List Addr := frs X.outer

noncomputable def Vis (sc : Scope) (x : Str) : Prop := sc.names.lookup x = some .local ∨ sc.names.lookup x = some .cell ∨ sc.names.lookup x = some .free
noncomputable def Loc (sc : Scope) (x : Str) : Prop := sc.names.lookup x = some .local ∨ sc.names.lookup x = some .cell
noncomputable def Look (env : Env) (h : Heap) (m : Str → Option Value) (x : Str) (u : Value) : Prop :=
 (env.kindOf x = some .local ∧ m x = some u) ∨ ((env.kindOf x = some .cell ∨ env.kindOf x = some .free) ∧ ∃ c, env.cells.lookup x = some c ∧ h.IsCell c (some u))

structure Cx.Ok (X : Cx) : Prop where
 mod : Mod X.K X.mg X.base
 kind : X.env.scope.kind = .function
 glob : X.env.globals = mainGlobals
 blt : X.env.builtins = builtinsNs
 above : X.s₀.heap.objs.size ≤ X.env.locals
 inj : ∀ x y c, X.env.cells.lookup x = some c → X.env.cells.lookup y = some c → x = y
 has : ∀ x, (X.env.kindOf x = some .cell ∨ X.env.kindOf x = some .free) → ∃ c, X.env.cells.lookup x = some c
 cab : ∀ x c, X.fn x = true → X.env.cells.lookup x = some c → X.s₀.heap.objs.size ≤ c
 hd : X.calm = true → X.A.handled = none
 frames : X.A.frames = some X.stack
 stk : X.stack = X.outer ∨ (X.stack = X.env :: X.outer ∧ X.env.frame = some X.env.locals)
 exf : ∀ b ∈ X.ex, b ≠ X.env.locals ∧ ∀ x c, X.env.cells.lookup x = some c → c ≠ b
 bs : ∀ b o, X.base.get? b = some o → X.s₀.heap.get? b = some o ∧ X.H₀ b = none
 bsz : X.base.objs.size ≤ X.s₀.heap.objs.size
 noex : ∀ b o, X.base.get? b = some o → b ∉ X.ex
 exfs : ∀ b ∈ X.ex, b ∉ X.fs
 funs : X.s₀.heap.FunFrames X.base X.outer
 frf : ∀ b ∈ X.fs, X.H₀ b = none

structure Inv (X : Cx) (pins : List (Addr × Obj)) (σ : List (Option V)) (H : Hp) (s : Shared) : Prop where
 ok : X.Ok
 os : s.os = X.s₀.os
 bare : AllBare s.gens
 base : Un X.fs X.ex X.H₀ H X.s₀.heap s.heap
 loc : ∃ m, s.heap.Ns X.env.locals m ∧ ∀ (i : Nat) (x : Str) (v : V), X.N[i]? = some x → σ[i]? = some (some v) → Vis X.env.scope x → ∃ u, RelV v u ∧ Look X.env s.heap m x u
 cell : ∀ x c, X.env.cells.lookup x = some c → ∃ v, s.heap.IsCell c v
 free : H X.env.locals = none
 freeC : ∀ x c, X.env.cells.lookup x = some c → H c = none
 pin : ∀ p ∈ X.pn ++ pins, s.heap.get? p.1 = some p.2 ∧ H p.1 = none ∧ p.1 ≠ X.env.locals ∧ p.1 ∉ X.fs ∧ ∀ v, p.2.data ≠ .cell v
 hok : HOk X.prog X.w H s.heap
 len : σ.length = X.N.length

section
variable {X : Cx} {pins : List (Addr × Obj)} {σ : List (Option V)} {H H' : Hp} {s : Shared} {h' : Heap}

theorem Cx.Ok.nofr (ok : X.Ok) {b : Addr} {o : Obj} (e : X.base.get? b = some o) : b ∉ X.fs := fun hb => by
 have := (ok.funs.mem hb).1
 rw [e] at this; cases this
theorem Inv.bs (I : Inv X pins σ H s) : ∀ b o, X.base.get? b = some o → s.heap.get? b = some o ∧ H b = none := fun b o e =>
 ⟨I.base.keep b o (I.ok.bs b o e).1 (I.ok.bs b o e).2 (I.ok.nofr e) (I.ok.noex b o e), I.base.free b o (I.ok.bs b o e).1 (I.ok.bs b o e).2 (I.ok.noex b o e)⟩
theorem Inv.bk (I : Inv X pins σ H s) : ∀ b o, X.base.get? b = some o → s.heap.get? b = some o := fun b o e => (I.bs b o e).1
theorem Inv.mod (I : Inv X pins σ H s) : Mod X.K X.mg X.base := I.ok.mod
theorem Inv.kIn (I : Inv X pins σ H s) : X.K.In s.heap := I.ok.mod.kin.keeps I.bk
theorem Inv.lt (I : Inv X pins σ H s) : X.env.locals < s.heap.objs.size := let ⟨_, hn, _⟩ := I.loc; hn.lt
theorem Inv.sz (I : Inv X pins σ H s) : X.s₀.heap.objs.size ≤ s.heap.objs.size := Nat.le_trans I.ok.above (Nat.le_of_lt I.lt)
theorem Inv.nofs (I : Inv X pins σ H s) {a : Addr} (h : s.heap.objs.size ≤ a) : a ∉ X.fs := fun hb => by
 obtain ⟨_, o, ho, _⟩ := I.ok.funs.mem hb
 exact absurd (Nat.lt_of_lt_of_le (Heap.lt_size ho) (Nat.le_trans I.sz h)) (Nat.lt_irrefl _)
theorem Inv.cne (I : Inv X pins σ H s) : ∀ x c, X.env.cells.lookup x = some c → c ≠ X.env.locals := fun x c e z => by
 obtain ⟨v, o, ho, hd⟩ := I.cell x c e
 obtain ⟨m, ⟨o', es, ep, ho', hd', _⟩, _⟩ := I.loc
 rw [z, ho'] at ho; cases ho; rw [hd'] at hd; cases hd
theorem Inv.funs (I : Inv X pins σ H s) : s.heap.FunFrames X.base X.outer := by
 have all : ∀ (l : List Env), (∀ b ∈ frs l, b ∈ X.fs) → X.s₀.heap.FunFrames X.base l → s.heap.FunFrames X.base l := by
  intro l
  induction l with
  | nil => intro _ _; trivial
  | cons env r ih =>
   intro hs hl
   obtain ⟨hk, ⟨L, o, hf, hn, ho, hd⟩, hr⟩ := hl
   have hL : L ∈ X.fs := hs L (by unfold frs; rw [List.filterMap_cons, hf]; exact List.mem_cons_self)
   obtain ⟨sl, e⟩ := I.base.slot L o ho (I.ok.frf L hL) hL fun z => I.ok.exfs L z hL
   exact ⟨hk, ⟨L, _, hf, hn, e, hd⟩, ih (fun b hb => hs b (by unfold frs; rw [List.filterMap_cons, hf]; exact List.mem_cons_of_mem _ hb)) hr⟩
 exact all X.outer (fun _ hb => hb) I.ok.funs

theorem Inv.stack (I : Inv X pins σ H s) : s.heap.FunFrames X.base X.stack := by
 rcases I.ok.stk with e | ⟨e, hf⟩
 ·rw [e]; exact I.funs
 ·rw [e]
  obtain ⟨m, hn, _⟩ := I.loc
  refine .cons (by rw [I.ok.kind]; decide) hf hn ?_ I.funs
  exact Heap.get?_none_of_le (Nat.le_trans I.ok.bsz I.ok.above)
theorem Inv.stkSub (I : Inv X pins σ H s) : ∀ b ∈ frs X.stack, b ∈ X.env.locals :: X.fs := fun b hb => by
 rcases I.ok.stk with e | ⟨e, hf⟩
 ·rw [e] at hb; exact List.mem_cons_of_mem _ hb
 ·rw [e] at hb
  unfold frs at hb
  rw [List.filterMap_cons, hf] at hb
  exact hb
theorem Inv.stkFree (I : Inv X pins σ H s) : ∀ b ∈ frs X.stack, H b = none := fun b hb => by
 rcases List.mem_cons.mp (I.stkSub b hb) with e | hb
 ·rw [e]; exact I.free
 ·obtain ⟨_, o, ho, _⟩ := I.ok.funs.mem hb
  exact I.base.free b o ho (I.ok.frf b hb) fun z => I.ok.exfs b z hb

theorem Inv.step {g' : Array GenState} {t' : Nat} {d' : Drawn} {ch : List Addr} (I : Inv X pins σ H s)
  (hch : ∀ b ∈ ch, (b ∈ X.ex ∨ X.s₀.heap.objs.size ≤ b) ∧ b ≠ X.env.locals ∧ (∀ x c, X.env.cells.lookup x = some c → c ≠ b) ∧ ∀ p ∈ X.pn ++ pins, p.1 ≠ b)
  (keep : ∀ b o, b ≠ X.env.locals → b ∉ X.fs → b ∉ ch → s.heap.get? b = some o → H b = none → h'.get? b = some o)
  (slot : ∀ b o, b ≠ X.env.locals → b ∈ X.fs → b ∉ ch → s.heap.get? b = some o → H b = none → ∃ sl, h'.get? b = some { o with slots := sl }) (free : ∀ b o, b ∉ ch → s.heap.get? b = some o → H b = none → H' b = none)
  (there : ∀ b o, b ∉ ch → s.heap.get? b = some o → ∃ o', h'.get? b = some o')
  (tups : ∀ b xs, H b = some (.tup xs) → H' b = some (.tup xs)) (frzs : ∀ b o u, H b = some (.frz o u) → H' b = some (.frz o u)) (tbls : ∀ b ps, H b = some (.tbl ps) → ∃ more, H' b = some (.tbl (ps ++ more)))
  (ns : ∀ m, s.heap.Ns X.env.locals m → h'.Ns X.env.locals m) (hok : HOk X.prog X.w H' h') (hg : AllBare g') :
  Inv X pins σ H' { s with heap := h', gens := g', drawn := d', toks := t' } := by
 have neL : ∀ b o, X.s₀.heap.get? b = some o → b ≠ X.env.locals := fun b o e => Nat.ne_of_lt (Nat.lt_of_lt_of_le (Heap.lt_size e) I.ok.above)
 have neC : ∀ b o, X.s₀.heap.get? b = some o → b ∉ X.ex → b ∉ ch := fun b o e hx hb => by
  rcases (hch b hb).1 with z | z
  ·exact hx z
  ·exact absurd (Nat.lt_of_lt_of_le (Heap.lt_size e) z) (Nat.lt_irrefl _)
 have cellK : ∀ x c, X.env.cells.lookup x = some c → ∀ v, s.heap.IsCell c v → h'.IsCell c v := fun x c e v ⟨o, ho, hd⟩ => by
  have nch : c ∉ ch := fun z => (hch c z).2.2.1 x c e rfl
  by_cases hc : c ∈ X.fs
  ·obtain ⟨sl, q⟩ := slot c o (I.cne x c e) hc nch ho (I.freeC x c e)
   exact ⟨_, q, hd⟩
  ·exact ⟨o, keep c o (I.cne x c e) hc nch ho (I.freeC x c e), hd⟩
 refine ⟨I.ok, I.os, hg, ⟨fun b o e n hb hx => ?_, fun b o e n hb hx => ?_, fun b o e n hx => ?_, fun b o e hx => ?_, fun b xs e => tups b xs (I.base.tups b xs e), fun b o xs e => frzs b o xs (I.base.frzs b o xs e), fun b ps e => ?_⟩, ?_, fun x c e => ?_, ?_, fun x c e => ?_, fun p hp => ?_, hok, I.len⟩
 ·exact keep b o (neL b o e) hb (neC b o e hx) (I.base.keep b o e n hb hx) (I.base.free b o e n hx)
 ·obtain ⟨sl, e1⟩ := I.base.slot b o e n hb hx
  obtain ⟨sl', e2⟩ := slot b _ (neL b o e) hb (neC b o e hx) e1 (I.base.free b o e n hx)
  exact ⟨sl', e2⟩
 ·obtain ⟨o', e1⟩ := I.base.there b o e hx
  exact free b o' (neC b o e hx) e1 (I.base.free b o e n hx)
 ·obtain ⟨o', e1⟩ := I.base.there b o e hx
  exact there b o' (neC b o e hx) e1
 ·obtain ⟨m1, e1⟩ := I.base.tbls b ps e
  obtain ⟨m2, e2⟩ := tbls b _ e1
  exact ⟨m1 ++ m2, by rw [e2, Array.append_assoc]⟩
 ·obtain ⟨m, hn, hl⟩ := I.loc
  refine ⟨m, ns m hn, fun i x v e1 e2 e3 => ?_⟩
  obtain ⟨u, r, l⟩ := hl i x v e1 e2 e3
  refine ⟨u, r, ?_⟩
  rcases l with l | ⟨k, c, e, z⟩
  ·exact .inl l
  ·exact .inr ⟨k, c, e, cellK x c e _ z⟩
 ·obtain ⟨v, z⟩ := I.cell x c e
  exact ⟨v, cellK x c e v z⟩
 ·obtain ⟨m, ⟨o, _, _, ho, _⟩, _⟩ := I.loc
  exact free _ o (fun z => (hch _ z).2.1 rfl) ho I.free
 ·obtain ⟨v, o, ho, hd⟩ := I.cell x c e
  exact free c o (fun z => (hch c z).2.2.1 x c e rfl) ho (I.freeC x c e)
 ·obtain ⟨e, n, ne, nf, d⟩ := I.pin p hp
  have nch : p.1 ∉ ch := fun z => (hch p.1 z).2.2.2 p hp rfl
  exact ⟨keep p.1 p.2 ne nf nch e n, free p.1 p.2 nch e n, ne, nf, d⟩
theorem Inv.un {t' : Nat} (I : Inv X pins σ H s) (u : Un X.fs [] H H' s.heap h') (hok : HOk X.prog X.w H' h') : Inv X pins σ H' { s with heap := h', toks := t' } := by
 obtain ⟨m, ⟨o, es, ep, ho, r⟩, _⟩ := id I.loc
 obtain ⟨sl, hL⟩ := u.any ho I.free (by simp)
 exact I.step (g' := s.gens) (d' := s.drawn) (ch := []) (fun _ z => nomatch z) (fun b o _ hb _ e n => u.keep b o e n hb (by simp)) (fun b o _ hb _ e n => u.slot b o e n hb (by simp)) (fun b o _ e n => u.free b o e n (by simp)) (fun b o _ e => u.there b o e (by simp)) u.tups u.frzs u.tbls (fun m' hm => by
  obtain ⟨o', es', ep', ho', r'⟩ := hm
  rw [ho] at ho'; cases ho'
  exact ⟨_, es', ep', hL, r'⟩) hok I.bare
theorem Inv.call {g' : Array GenState} {t' : Nat} {d' : Drawn} {ch : List Addr} (I : Inv X pins σ H s) (u : Un (frs X.stack) ch H H' s.heap h') (hok : HOk X.prog X.w H' h') (hg : AllBare g')
  (hch : ∀ b ∈ ch, (b ∈ X.ex ∨ X.s₀.heap.objs.size ≤ b) ∧ b ≠ X.env.locals ∧ (∀ x c, X.env.cells.lookup x = some c → c ≠ b) ∧ ∀ p ∈ X.pn ++ pins, p.1 ≠ b) :
  Inv X pins σ H' { s with heap := h', gens := g', drawn := d', toks := t' } := by
 obtain ⟨m, ⟨o, es, ep, ho, r⟩, _⟩ := id I.loc
 obtain ⟨sl, hL⟩ := u.any ho I.free fun z => (hch _ z).2.1 rfl
 exact I.step (ch := ch) hch (fun b o hL hb hc e n => u.keep b o e n (fun z => (List.mem_cons.mp (I.stkSub b z)).elim hL hb) hc) (fun b o _ _ hc e n => u.any e n hc) (fun b o hc e n => u.free b o e n hc) (fun b o hc e => u.there b o e hc) u.tups u.frzs u.tbls (fun m' hm => by
  obtain ⟨o', es', ep', ho', r'⟩ := hm
  rw [ho] at ho'; cases ho'
  exact ⟨_, es', ep', hL, r'⟩) hok hg
theorem Inv.turned {t' : Nat} {it : Addr} (I : Inv X pins σ H s) (k : ∀ b o, b ≠ it → s.heap.get? b = some o → h'.get? b = some o) (hn : H it = none) (hL : it ≠ X.env.locals)
  (h1 : it ∈ X.ex ∨ X.s₀.heap.objs.size ≤ it) (h2 : ∀ x c, X.env.cells.lookup x = some c → c ≠ it) (h3 : ∀ p ∈ X.pn ++ pins, p.1 ≠ it) : Inv X pins σ H { s with heap := h', toks := t' } := by
 have nit : ∀ b u, H b = some u → b ≠ it := fun b u e z => by rw [z, hn] at e; cases e
 refine I.step (g' := s.gens) (d' := s.drawn) (ch := [it]) (fun b hb => ?_) (fun b o _ _ hc e _ => k b o (fun z => hc (by simp [z])) e) (fun b o _ _ hc e _ => ⟨o.slots, k b o (fun z => hc (by simp [z])) e⟩) (fun _ _ _ _ n => n)
  (fun b o hc e => ⟨o, k b o (fun z => hc (by simp [z])) e⟩) (fun _ _ e => e) (fun _ _ _ e => e) (fun b ps e => ⟨#[], by rw [e]; simp⟩) (fun m hm => ?_) (fun b u e => ?_) I.bare
 ·have e : b = it := by simpa using hb
  subst e
  exact ⟨h1, hL, h2, h3⟩
 ·obtain ⟨o, es, ep, ho, r⟩ := hm
  exact ⟨o, es, ep, k _ o (Ne.symm hL) ho, r⟩
 ·refine (I.hok b u e).stay (fun c v hc q => k c v ?_ q) (fun _ q => q) fun _ _ q => q
  rcases hc with z | z
  ·rw [z]; exact nit b u e
  ·exact nit c _ z
theorem Inv.tok (I : Inv X pins σ H s) (t : Nat) : Inv X pins σ H { s with toks := t } := I.un (h' := s.heap) (t' := t) Un.refl I.hok
theorem Inv.kept {t' : Nat} (I : Inv X pins σ H s) (k : ∀ b u, s.heap.get? b = some u → h'.get? b = some u) : Inv X pins σ H { s with heap := h', toks := t' } := I.un (Un.kept k) (I.hok.kept k)
theorem Inv.laid {a : Addr} {o : HO} {t' : Nat} (I : Inv X pins σ H s) (k : ∀ b u, s.heap.get? b = some u → h'.get? b = some u) (hp : s.heap.objs.size ≤ a) (new : ObjOk X.prog X.w (upd H a o) h' a o) :
  Inv X pins σ (upd H a o) { s with heap := h', toks := t' } := I.un (Un.laid k hp (I.hok.fresh hp)) (I.hok.laid k hp new)
theorem Inv.write {x e : Addr} {o : HO} {t' : Nat} (I : Inv X pins σ H s) (mu : Mut (H x)) (he : e = x ∨ H e = some (.own x)) (k : ∀ b u, b ≠ e → s.heap.get? b = some u → h'.get? b = some u) (heo : ∃ u, h'.get? e = some u)
  (new : ObjOk X.prog X.w (upd H x o) h' x o) : Inv X pins σ (upd H x o) { s with heap := h', toks := t' } := I.un (Un.write mu he k heo) (I.hok.write mu he k heo new)
theorem Inv.weak {σ' : List (Option V)} (I : Inv X pins σ H s) (hl : σ'.length = σ.length) (w : ∀ (i : Nat) v, σ'[i]? = some (some v) → σ[i]? = some (some v)) : Inv X pins σ' H s :=
 ⟨I.ok, I.os, I.bare, I.base, let ⟨m, hn, hl'⟩ := I.loc; ⟨m, hn, fun i x v e1 e2 e3 => hl' i x v e1 (w i v e2) e3⟩, I.cell, I.free, I.freeC, I.pin, I.hok, hl.trans I.len⟩
theorem Inv.pins_of {pins' : List (Addr × Obj)} (I : Inv X pins σ H s) (h : ∀ p ∈ pins', s.heap.get? p.1 = some p.2 ∧ H p.1 = none ∧ p.1 ≠ X.env.locals ∧ p.1 ∉ X.fs ∧ ∀ v, p.2.data ≠ .cell v) : Inv X pins' σ H s :=
 ⟨I.ok, I.os, I.bare, I.base, I.loc, I.cell, I.free, I.freeC, fun p hp => (List.mem_append.mp hp).elim (fun z => I.pin p (List.mem_append_left _ z)) (h p), I.hok, I.len⟩

theorem nodup_ix {N : List Str} (hN : N.Nodup) {i j : Nat} {x : Str} (a : N[i]? = some x) (b : N[j]? = some x) : i = j := by
 obtain ⟨h1, e1⟩ := List.getElem?_eq_some_iff.mp a
 obtain ⟨h2, e2⟩ := List.getElem?_eq_some_iff.mp b
 exact (List.getElem_inj hN).mp (e1.trans e2.symm)

theorem store_ok2 {M : Model} {A : Around} {E : Value → Shared → Prop} {i : Nat} {x : Str} {v : V} {u : Value} {Q : Unit → Shared → Prop} (I : Inv X pins σ H s) (hN : X.N.Nodup) (hi : X.N[i]? = some x) (hx : Loc X.env.scope x) (r : RelV v u)
  (h : ∀ s', Inv X pins (σ.set i (some v)) H s' → (∃ a, Heap.SameBut a s.heap s'.heap ∧ (a = X.env.locals ∨ X.env.cells.lookup x = some a)) → Q () s') (hf : X.fn x = true ∨ X.env.scope.names.lookup x = some .local := by first | exact .inl rfl | exact .inr rfl | assumption) : wpAny M A (storeName X.env x u) Q E s := by
 obtain ⟨m, hn, hl⟩ := id I.loc
 have hcls : (X.env.scope.kind == .class || (X.env.scope.kind == .module && X.env.locals != X.env.globals)) = false := by rw [I.ok.kind]; rfl
 have hiσ : i < σ.length := by rw [I.len]; exact (List.getElem?_eq_some_iff.mp hi).1
 have cne := I.cne
 have tracked : ∀ {a : Addr} {h' : Heap}, (∃ o, s.heap.get? a = some o ∧ H a = none) → Heap.SameBut a s.heap h' → HOk X.prog X.w H h' := fun {a h'} ha hs b ob e => by
  obtain ⟨_, _, hfree⟩ := ha
  refine (I.hok b ob e).stay (fun c w' hc q => (hs.2 c ?_).trans q) (fun _ q => q) fun _ _ q => q
  rintro rfl
  rcases hc with rfl | hc
  ·rw [hfree] at e; cases e
  ·rw [hfree] at hc; cases hc
 rcases hx with hk | hk
 ·refine wpAny_storeName_local hk hn (fun h' hn' hs => ?_) hcls
  obtain ⟨oL, _, _, hoL, _⟩ := id hn
  refine h _ ⟨I.ok, I.os, I.bare, ⟨fun b o e n hb hx => ?_, fun b o e n hb hx => ?_, I.base.free, fun b o e hx => ?_, I.base.tups, I.base.frzs, I.base.tbls⟩, ⟨_, hn', fun j y v' e1 e2 e3 => ?_⟩, fun y c e => ?_, I.free, I.freeC, fun p hp => ?_, tracked ⟨oL, hoL, I.free⟩ hs, by simpa using I.len⟩ ⟨_, hs, .inl rfl⟩
  ·exact (hs.2 b (Nat.ne_of_lt (Nat.lt_of_lt_of_le (Heap.lt_size e) I.ok.above))).trans (I.base.keep b o e n hb hx)
  ·obtain ⟨sl, e1⟩ := I.base.slot b o e n hb hx
   exact ⟨sl, (hs.2 b (Nat.ne_of_lt (Nat.lt_of_lt_of_le (Heap.lt_size e) I.ok.above))).trans e1⟩
  ·obtain ⟨o', e1⟩ := I.base.there b o e hx
   exact ⟨o', (hs.2 b (Nat.ne_of_lt (Nat.lt_of_lt_of_le (Heap.lt_size e) I.ok.above))).trans e1⟩
  ·by_cases hj : j = i
   ·subst hj
    rw [hi] at e1; cases e1
    rw [List.getElem?_set_self hiσ] at e2
    cases e2
    exact ⟨u, r, .inl ⟨hk, by simp⟩⟩
   ·rw [List.getElem?_set_ne (Ne.symm hj)] at e2
    obtain ⟨u', r', q⟩ := hl j y v' e1 e2 e3
    refine ⟨u', r', ?_⟩
    rcases q with ⟨k, e⟩ | ⟨k, c, e, z⟩
    ·refine .inl ⟨k, ?_⟩
     have : y ≠ x := fun e => hj (nodup_ix hN e1 (e ▸ hi))
     simp [this, e]
    ·exact .inr ⟨k, c, e, z.sameBut hs (cne y c e)⟩
  ·obtain ⟨w', z⟩ := I.cell y c e
   exact ⟨w', z.sameBut hs (cne y c e)⟩
  ·obtain ⟨e, n, ne, nf, d⟩ := I.pin p hp
   exact ⟨(hs.2 p.1 ne).trans e, n, ne, nf, d⟩
 ·have hfn : X.fn x = true := by
   rcases hf with z | z
   ·exact z
   ·rw [z] at hk; cases hk
  obtain ⟨c, hc⟩ := I.ok.has x (.inl hk)
  obtain ⟨w', z⟩ := I.cell x c hc
  refine wpAny_storeName_cell I.ok.kind hk hc z (fun h' hc' hs => ?_)
  obtain ⟨oc, hoc, hocd⟩ := id z
  refine h { s with heap := h' } ⟨I.ok, I.os, I.bare, ⟨fun b o e n hb hx => ?_, fun b o e n hb hx => ?_, I.base.free, fun b o e hx => ?_, I.base.tups, I.base.frzs, I.base.tbls⟩, ⟨m, hn.sameBut hs (Ne.symm (cne x c hc)), fun j y v' e1 e2 e3 => ?_⟩, fun y c' e => ?_, I.free, I.freeC, fun p hp => ?_, tracked ⟨oc, hoc, I.freeC x c hc⟩ hs, by simpa using I.len⟩ ⟨c, hs, .inr hc⟩
  ·exact (hs.2 b (Nat.ne_of_lt (Nat.lt_of_lt_of_le (Heap.lt_size e) (I.ok.cab x c hfn hc)))).trans (I.base.keep b o e n hb hx)
  ·obtain ⟨sl, e1⟩ := I.base.slot b o e n hb hx
   exact ⟨sl, (hs.2 b (Nat.ne_of_lt (Nat.lt_of_lt_of_le (Heap.lt_size e) (I.ok.cab x c hfn hc)))).trans e1⟩
  ·obtain ⟨o', e1⟩ := I.base.there b o e hx
   exact ⟨o', (hs.2 b (Nat.ne_of_lt (Nat.lt_of_lt_of_le (Heap.lt_size e) (I.ok.cab x c hfn hc)))).trans e1⟩
  ·by_cases hj : j = i
   ·subst hj
    rw [hi] at e1; cases e1
    rw [List.getElem?_set_self hiσ] at e2
    cases e2
    exact ⟨u, r, .inr ⟨.inl hk, c, hc, hc'⟩⟩
   ·rw [List.getElem?_set_ne (Ne.symm hj)] at e2
    obtain ⟨u', r', q⟩ := hl j y v' e1 e2 e3
    refine ⟨u', r', ?_⟩
    rcases q with q | ⟨k, c', e, z'⟩
    ·exact .inl q
    ·refine .inr ⟨k, c', e, z'.sameBut hs ?_⟩
     rintro rfl
     exact hj (nodup_ix hN e1 (I.ok.inj _ _ _ e hc ▸ hi))
  ·by_cases hcc : c' = c
   ·subst hcc; exact ⟨_, hc'⟩
   ·obtain ⟨w2, z2⟩ := I.cell y c' e
    exact ⟨w2, z2.sameBut hs hcc⟩
  ·obtain ⟨e, n, ne, nf, d⟩ := I.pin p hp
   refine ⟨(hs.2 p.1 ?_).trans e, n, ne, nf, d⟩
   intro q
   rw [q, hoc] at e
   have q' : oc = p.2 := Option.some.inj e
   exact d w' (by rw [← q']; exact hocd)
theorem yG {M : Model} {A : Around} {E : Value → Shared → Prop} {i : Nat} {x : Str} {v : V} {u : Value} {Q : Unit → Shared → Prop} (I : Inv X pins σ H s) (hN : X.N.Nodup) (hi : X.N[i]? = some x) (hx : Loc X.env.scope x) (r : RelV v u)
  (h : ∀ s', Inv X pins (σ.set i (some v)) H s' → Q () s') (hf : X.fn x = true ∨ X.env.scope.names.lookup x = some .local := by first | exact .inl rfl | exact .inr rfl | assumption) : wpAny M A (storeName X.env x u) Q E s :=
 store_ok2 I hN hi hx r (fun s' I' _ => h s' I') hf
theorem Inv.call' {s' : Shared} {ch : List Addr} (I : Inv X pins σ H s) (ho : s'.os = s.os) (u : Un (frs X.stack) ch H H' s.heap s'.heap) (hok : HOk X.prog X.w H' s'.heap) (hg : AllBare s'.gens)
  (hch : ∀ b ∈ ch, (b ∈ X.ex ∨ X.s₀.heap.objs.size ≤ b) ∧ b ≠ X.env.locals ∧ (∀ x c, X.env.cells.lookup x = some c → c ≠ b) ∧ ∀ p ∈ X.pn ++ pins, p.1 ≠ b) : Inv X pins σ H' s' := by
 obtain ⟨h', g', d', t', o'⟩ := s'
 have e : o' = s.os := ho
 subst e
 exact I.call (g' := g') (t' := t') (d' := d') u hok hg hch
end

noncomputable abbrev XK := Value → Option Addr → Hp → Prop
noncomputable abbrev St := List (Option V)
noncomputable abbrev VK := V → Hp → Prop
noncomputable abbrev TE := St → Hp → VK → Prop
noncomputable abbrev TT := St → Hp → (Bool → Hp → Prop) → Prop
noncomputable abbrev TA := St → Hp → (List V → Hp → Prop) → Prop
structure Ends where
 nx : St → Hp → Prop
 rt : VK
 bk : St → Hp → Prop := fun _ _ => False
 ct : St → Hp → Prop := fun _ _ => False
noncomputable abbrev TS := Ends → St → Hp → Prop

noncomputable def EP (X : Cx) (pins : List (Addr × Obj)) (σ : St) (Q : VK) (u : Value) (s' : Shared) : Prop := ∃ v H', Inv X pins σ H' s' ∧ RelV v u ∧ Q v H'
noncomputable def TP (X : Cx) (pins : List (Addr × Obj)) (σ : St) (Q : Bool → Hp → Prop) (b : Bool) (s' : Shared) : Prop := ∃ H', Inv X pins σ H' s' ∧ Q b H'
noncomputable def AP (X : Cx) (pins : List (Addr × Obj)) (σ : St) (Q : List V → Hp → Prop) (us : List Value) (s' : Shared) : Prop := ∃ vs H', Inv X pins σ H' s' ∧ Vals vs us ∧ Q vs H'
noncomputable def SP (X : Cx) (pins : List (Addr × Obj)) (D : Ends) (f : Flow) (s' : Shared) : Prop :=
 match f with
 | .next => ∃ σ' H', Inv X pins σ' H' s' ∧ D.nx σ' H'
 | .brk => ∃ σ' H', Inv X pins σ' H' s' ∧ D.bk σ' H'
 | .cont => ∃ σ' H', Inv X pins σ' H' s' ∧ D.ct σ' H'
 | .ret u => ∃ v σ' H', Inv X pins σ' H' s' ∧ RelV v u ∧ D.rt v H'

noncomputable def PE (X : Cx) (e : Expr) (t : TE) : Prop :=
 ∀ (pins : List (Addr × Obj)) (s : Shared) (σ : St) (H : Hp) (Q : VK), Inv X pins σ H s → t σ H Q → wpAny (model X.prog X.w) X.A (eval e X.env) (EP X pins σ Q) X.xe s
noncomputable def PT (X : Cx) (e : Expr) (t : TT) : Prop :=
 ∀ (pins : List (Addr × Obj)) (s : Shared) (σ : St) (H : Hp) (Q : Bool → Hp → Prop), Inv X pins σ H s → t σ H Q → wpAny (model X.prog X.w) X.A (isTrue e X.env (eval e X.env)) (TP X pins σ Q) X.xe s
noncomputable def PW (X : Cx) (e : Expr) (t : TT) : Prop :=
 ∀ (whole : Sem Value) (pins : List (Addr × Obj)) (s : Shared) (σ : St) (H : Hp) (Q : Bool → Hp → Prop), Inv X pins σ H s → t σ H Q → wpAny (model X.prog X.w) X.A (isTrue e X.env whole) (TP X pins σ Q) X.xe s
theorem PW.pt {X : Cx} {e : Expr} {t : TT} (h : PW X e t) : PT X e t := h _
noncomputable def PA (X : Cx) (es : List Expr) (t : TA) : Prop :=
 ∀ (pos : Pos) (pins : List (Addr × Obj)) (s : Shared) (σ : St) (H : Hp) (Q : List V → Hp → Prop), Inv X pins σ H s → t σ H Q → wpAny (model X.prog X.w) X.A (spliced (backTo pos (starEach es X.env))) (AP X pins σ Q) X.xe s
noncomputable def PS (X : Cx) (st : Stmt) (t : TS) : Prop :=
 ∀ (pins : List (Addr × Obj)) (s : Shared) (σ : St) (H : Hp) (D : Ends), Inv X pins σ H s → t D σ H → wpAny (model X.prog X.w) X.A (exec st X.env) (SP X pins D) X.xe s
noncomputable def PSs (X : Cx) (st : List Stmt) (t : TS) : Prop :=
 ∀ (pins : List (Addr × Obj)) (s : Shared) (σ : St) (H : Hp) (D : Ends), Inv X pins σ H s → t D σ H → wpAny (model X.prog X.w) X.A (execs st X.env) (SP X pins D) X.xe s
theorem thn {α : Type} {t : Sem α} {Q Q' : α → Shared → Prop} {M : Model} {A : Around} {E : Value → Shared → Prop} {s : Shared} (h : wpAny M A t Q E s) (hQ : ∀ a s, Q a s → Q' a s) : wpAny M A t Q' E s := wpAny_mono h hQ fun _ _ x => x
end L2

namespace L2
open PySem PySem.Spec PyProof.Rows
section
variable {X : Cx}

noncomputable def tVar (i : Nat) : TE := fun σ H Q => ∃ v, σ[i]? = some (some v) ∧ Q v H
noncomputable def tC (v : V) : TE := fun _ H Q => Q v H
theorem pe_var {i : Nat} {x : Str} {pos : Pos} (hN : X.N[i]? = some x) (hv : Vis X.env.scope x) (hd : (x == ("__debug__" : Str)) = false := by decide) (hcd : (x == ("__classdict__" : Str)) = false := by decide) : PE X (.Name x pos) (tVar i) := by
 intro pins s σ H Q I h
 obtain ⟨v, e, h⟩ := h
 obtain ⟨m, hn, hl⟩ := I.loc
 obtain ⟨u, r, l⟩ := hl i x v hN e hv
 have fin : EP X pins σ Q u s := ⟨v, H, I, r, h⟩
 rcases l with ⟨hk, hm⟩ | ⟨hk, c, hc, hcell⟩
 ·exact wpAny_Name (wpAny_loadName_local I.ok.kind hk hn hm fin) hd
 ·rcases hk with hk | hk
  ·exact wpAny_Name (wpAny_loadName_cell I.ok.kind hk hc hcell fin) hd
  ·exact wpAny_Name (wpAny_loadName_free I.ok.kind hk hc hcell fin hcd) hd
theorem qF {i j pos} : PE X (.Constant (.int i) j pos) (tC (.int i)) := fun _ _ _ H _ I h => wpAny_Constant_int ⟨.int i, H, I.tok _, ⟨_, rfl⟩, h⟩
theorem pe_bl {b j pos} : PE X (.Constant (.bool b) j pos) (tC (.bl b)) := fun _ _ _ H _ I h => Constant_bool ⟨.bl b, H, I, rfl, h⟩
theorem pe_non {j pos} : PE X (.Constant .none j pos) (tC .non) := fun _ _ _ H _ I h => Constant_none ⟨.non, H, I, rfl, h⟩
theorem qG {x j pos} : PE X (.Constant (.str x) j pos) (tC (.str x)) := fun _ _ _ H _ I h => Calls.Constant_str ⟨.str x, H, I.tok _, ⟨_, rfl⟩, h⟩

noncomputable def Gl (X : Cx) (x : Str) : Prop := X.env.kindOf x = some .globalImplicit
theorem vB {E : Value → Shared → Prop} {pins : List (Addr × Obj)} {s : Shared} {σ : St} {H : Hp} {x : Str} {u : Value} {pos : Pos} {Q : Value → Shared → Prop} (I : Inv X pins σ H s) (hg : Gl X x) (hm : X.mg x = some u) (h : Q u s)
  (hd : (x == ("__debug__" : Str)) = false := by decide) : wpAny (model X.prog X.w) X.A (eval (.Name x pos) X.env) Q E s :=
 Calls.Name_function_global I.ok.kind hg (Calls.loadGlobal_global (by rw [I.ok.glob]; exact I.mod.glob.keeps I.bk) hm h) hd
theorem ld_blt {E : Value → Shared → Prop} {pins : List (Addr × Obj)} {s : Shared} {σ : St} {H : Hp} {x : Str} {u : Value} {pos : Pos} {Q : Value → Shared → Prop} (I : Inv X pins σ H s) (hg : Gl X x) (hm : X.mg x = none) (hv : bootBuiltins x = some u) (h : Q u s)
  (hn : x ≠ "__name__" := by decide) (hd : (x == ("__debug__" : Str)) = false := by decide) : wpAny (model X.prog X.w) X.A (eval (.Name x pos) X.env) Q E s := by
 obtain ⟨mb, h1, h2⟩ := I.mod.blt
 exact Calls.Name_function_global I.ok.kind hg (Calls.loadGlobal_builtin (by rw [I.ok.glob]; exact I.mod.glob.keeps I.bk) hm (by rw [I.ok.blt]; exact h1.keeps I.bk) ((h2 x hn).trans hv) h) hd
theorem pe_glob {x : Str} {v : V} {u : Value} {pos : Pos} (hg : Gl X x) (hm : X.mg x = some u) (r : RelV v u) (hd : (x == ("__debug__" : Str)) = false := by decide) : PE X (.Name x pos) (tC v) :=
 fun _ _ _ H _ I h => vB I hg hm ⟨v, H, I, r, h⟩ hd
theorem pe_bltn {x : Str} {v : V} {u : Value} {pos : Pos} (hg : Gl X x) (hm : X.mg x = none) (hv : bootBuiltins x = some u) (r : RelV v u) (hn : x ≠ "__name__" := by decide) (hd : (x == ("__debug__" : Str)) = false := by decide) : PE X (.Name x pos) (tC v) :=
 fun _ _ _ H _ I h => ld_blt I hg hm hv ⟨v, H, I, r, h⟩ hn hd

variable {a b : Expr} {ta tb : TE} {pos : Pos}
noncomputable def tB (t : TE) : TT := fun σ H Q => t σ H fun x H1 => ∃ c, x = .bl c ∧ Q c H1
theorem wA {e : Expr} {t : TE} (h : PE X e t) (he : ∀ whole, isTrue e X.env whole = (do let v ← whole; standAt e.pos; holding [v] (truthy v)) := by intro _; rfl) : PT X e (tB t) := by
 intro pins s σ H Q I hw
 refine isTrue_plain (thn (h pins s σ H _ I hw) fun v s1 ⟨x, H1, I1, r1, q1⟩ => ?_) (he _)
 obtain ⟨d, rfl, q⟩ := q1
 cases r1
 exact wpAny_truthy_bool ⟨H1, I1, q⟩

variable {tA tB' : TT} {rest : List Expr}
noncomputable def tAnd (t u : TT) : TT := fun σ H Q => t σ H fun c H1 => if c = true then u σ H1 Q else Q false H1
noncomputable def tOr (t u : TT) : TT := fun σ H Q => t σ H fun c H1 => if c = true then Q true H1 else u σ H1 Q
noncomputable def tNot (t : TT) : TT := fun σ H Q => t σ H fun c H1 => Q (!c) H1
theorem pw_and1 (ha : PT X a tA) : PW X (.BoolOp .And [a] pos) tA := by
 intro wh pins s σ H Q I h
 refine isTrue_and (thn (ha pins s σ H Q I h) fun c s1 e => ?_)
 cases c with
 | true => exact isTrue_and_nil e
 | false => exact e
theorem pw_or1 (ha : PT X a tA) : PW X (.BoolOp .Or [a] pos) tA := by
 intro wh pins s σ H Q I h
 refine isTrue_or (thn (ha pins s σ H Q I h) fun c s1 e => ?_)
 cases c with
 | false => exact isTrue_or_nil e
 | true => exact e
theorem pw_and (ha : PT X a tA) (hb : PW X (.BoolOp .And (b :: rest) pos) tB') : PW X (.BoolOp .And (a :: b :: rest) pos) (tAnd tA tB') := by
 intro wh pins s σ H Q I h
 refine isTrue_and (thn (ha pins s σ H _ I h) fun c s1 ⟨H1, I1, q1⟩ => ?_)
 cases c with
 | true => exact hb wh pins s1 σ H1 Q I1 q1
 | false => exact ⟨H1, I1, q1⟩
theorem pw_or (ha : PT X a tA) (hb : PW X (.BoolOp .Or (b :: rest) pos) tB') : PW X (.BoolOp .Or (a :: b :: rest) pos) (tOr tA tB') := by
 intro wh pins s σ H Q I h
 refine isTrue_or (thn (ha pins s σ H _ I h) fun c s1 ⟨H1, I1, q1⟩ => ?_)
 cases c with
 | true => exact ⟨H1, I1, q1⟩
 | false => exact hb wh pins s1 σ H1 Q I1 q1
theorem pt_not (ha : PT X a tA) : PT X (.UnaryOp .Not a pos) (tNot tA) := by
 intro pins s σ H Q I h
 exact isTrue_not (ha pins s σ H (fun c H1 => Q (!c) H1) I h)
noncomputable def tAndV (ta tb : TE) : TE := fun σ H Q => ta σ H fun x H1 => ∃ c, x = .bl c ∧ if c = true then tb σ H1 Q else Q (.bl false) H1
noncomputable def tOrV (ta tb : TE) : TE := fun σ H Q => ta σ H fun x H1 => ∃ c, x = .bl c ∧ if c = true then Q (.bl true) H1 else tb σ H1 Q
noncomputable def tNotV (ta : TE) : TE := fun σ H Q => ta σ H fun x H1 => ∃ c, x = .bl c ∧ Q (.bl (!c)) H1
theorem pe_one {op} {t : TE} (h : PE X a t) : PE X (.BoolOp op [a] pos) t := fun pins s σ H Q I hw => BoolOp_one (h pins s σ H Q I hw)
theorem pe_and (ha : PE X a ta) (hb : PE X (.BoolOp .And (b :: rest) pos) tb) : PE X (.BoolOp .And (a :: b :: rest) pos) (tAndV ta tb) := by
 intro pins s σ H Q I h
 refine BoolOp_and (thn (ha pins s σ H _ I h) fun v s1 ⟨x, H1, I1, r1, q1⟩ => ?_)
 obtain ⟨c, rfl, q1⟩ := q1
 cases r1
 refine wpAny_truthy_bool ?_
 cases c with
 | true => exact hb pins s1 σ H1 Q I1 q1
 | false => exact ⟨.bl false, H1, I1, rfl, q1⟩
theorem pe_or (ha : PE X a ta) (hb : PE X (.BoolOp .Or (b :: rest) pos) tb) : PE X (.BoolOp .Or (a :: b :: rest) pos) (tOrV ta tb) := by
 intro pins s σ H Q I h
 refine BoolOp_or (thn (ha pins s σ H _ I h) fun v s1 ⟨x, H1, I1, r1, q1⟩ => ?_)
 obtain ⟨c, rfl, q1⟩ := q1
 cases r1
 refine wpAny_truthy_bool ?_
 cases c with
 | false => exact hb pins s1 σ H1 Q I1 q1
 | true => exact ⟨.bl true, H1, I1, rfl, q1⟩
theorem pe_not (ha : PE X a ta) : PE X (.UnaryOp .Not a pos) (tNotV ta) := by
 intro pins s σ H Q I h
 refine UnaryOp_ (thn (ha pins s σ H _ I h) fun v s1 ⟨x, H1, I1, r1, q1⟩ => ?_)
 obtain ⟨c, rfl, q1⟩ := q1
 cases r1
 exact not_of (wpAny_truthy_bool ⟨.bl (!c), H1, I1, rfl, q1⟩)
noncomputable def tIf (t : TT) (ta tb : TE) : TE := fun σ H Q => t σ H fun c H1 => if c = true then ta σ H1 Q else tb σ H1 Q
theorem pe_ifExp {c : Expr} (hc : PT X c tA) (ha : PE X a ta) (hb : PE X b tb) : PE X (.IfExp c a b pos) (tIf tA ta tb) := by
 intro pins s σ H Q I h
 refine wpAny_IfExp (thn (hc pins s σ H _ I h) fun d s1 ⟨H1, I1, q1⟩ => ?_)
 cases d with
 | true => exact ha pins s1 σ H1 Q I1 q1
 | false => exact hb pins s1 σ H1 Q I1 q1
end
end L2

namespace L2
open PySem PySem.Spec PyProof.Rows

noncomputable def SqL (K : PySem.W.Frag) (H : Hp) (a : Addr) (xs : List V) : Prop :=
 Rd H a (.lst xs) ∨
  ∃ (o : Obj) (its : Array Value) (n : Nat), K.lookup a = some o ∧ o.cls = .type "list" ∧ o.dict = none ∧ o.data = .seq its n ∧ its.size ≤ sizeLine ∧ Vals xs its.toList
noncomputable def SqT (K : PySem.W.Frag) (H : Hp) (a : Addr) (xs : List V) : Prop :=
 Rd H a (.tup xs) ∨
  ∃ (o : Obj) (its : Array Value) (n : Nat), K.lookup a = some o ∧ o.cls = .type "tuple" ∧ o.data = .seq its n ∧ its.size ≤ sizeLine ∧ Vals xs its.toList
noncomputable def absV : Value → Option V
 | .none => some .non
 | .bool b => some (.bl b)
 | .int i _ => some (.int i)
 | .str x _ => some (.str x)
 | .bytes b _ => some (.byt b)
 | .float b _ => some (.flt b)
 | .ref a => some (.ref a)
 | .type n => some (.ty n)
 | _ => none
theorem RelV.abs {x : V} {u : Value} (r : RelV x u) : absV u = some x := by
 cases x with
 | non => cases r; rfl
 | bl _ => cases r; rfl
 | int _ => obtain ⟨t, rfl⟩ := r; rfl
 | str _ => obtain ⟨t, rfl⟩ := r; rfl
 | byt _ => obtain ⟨t, rfl⟩ := r; rfl
 | flt _ => obtain ⟨t, rfl⟩ := r; rfl
 | ref _ => cases r; rfl
 | ty _ => cases r; rfl
theorem RelV.inj {x y : V} {u : Value} (r : RelV x u) (q : RelV y u) : x = y := Option.some.inj (r.abs.symm.trans q.abs)
theorem Vals.inj {xs ys : List V} {us : List Value} (h : Vals xs us) (h' : Vals ys us) : xs = ys := by
 induction h generalizing ys with
 | nil => cases h'; rfl
 | cons r _ ih =>
  cases h' with
  | cons r' t' => rw [r.inj r', ih t']
section
variable {X : Cx} {pins : List (Addr × Obj)} {σ : St} {H : Hp} {s : Shared} {a : Addr} {xs ys : List V}
theorem SqL.of {K : PySem.W.Frag} (h : H a = some (.lst xs)) : SqL K H a xs := .inl (.inl h)
theorem SqT.of {K : PySem.W.Frag} (h : H a = some (.tup xs)) : SqT K H a xs := .inl (.inl h)
theorem Inv.list (I : Inv X pins σ H s) (h : SqL X.K H a xs) : ∃ its : List Value, Vals xs its ∧ PlainL s.heap a its.toArray ∧ xs.length ≤ sizeLine := by
 rcases h with h | ⟨o, its, n, hk, hc, hd, hs, hz, r⟩
 ·obtain ⟨z, its, n, r, e⟩ := h.ok I.hok
  exact ⟨its, r, ⟨_, n, e, rfl, rfl, rfl⟩, z⟩
 ·refine ⟨its.toList, r, ⟨o, n, I.kIn a o hk, hc, hd, by simpa using hs⟩, ?_⟩
  have e := r.length
  simp only [Array.length_toList] at e
  omega
theorem Inv.tuple (I : Inv X pins σ H s) (h : SqT X.K H a xs) : ∃ its : List Value, Vals xs its ∧ IsTup s.heap a its.toArray ∧ xs.length ≤ sizeLine := by
 rcases h with h | ⟨o, its, n, hk, hc, hs, hz, r⟩
 ·obtain ⟨z, its, r, p⟩ := h.ok I.hok
  exact ⟨its, r, p.tup, z⟩
 ·refine ⟨its.toList, r, ⟨o, I.kIn a o hk, hc, n, by simpa using hs⟩, ?_⟩
  have e := r.length
  simp only [Array.length_toList] at e
  omega
theorem Inv.list_inj (I : Inv X pins σ H s) (h : SqL X.K H a xs) (h' : SqL X.K H a ys) : xs = ys := by
 obtain ⟨its, r, ⟨o, n, e, _, _, d⟩, _⟩ := I.list h
 obtain ⟨its', r', ⟨o', n', e', _, _, d'⟩, _⟩ := I.list h'
 rw [e] at e'; cases e'
 rw [d] at d'
 injection d' with d1 _
 have : its = its' := by simpa using congrArg Array.toList d1
 subst this
 exact r.inj r'
theorem Inv.tuple_inj (I : Inv X pins σ H s) (h : SqT X.K H a xs) (h' : SqT X.K H a ys) : xs = ys := by
 obtain ⟨its, r, ⟨o, e, _, n, d⟩, _⟩ := I.tuple h
 obtain ⟨its', r', ⟨o', e', _, n', d'⟩, _⟩ := I.tuple h'
 rw [e] at e'; cases e'
 rw [d] at d'
 injection d' with d1 _
 have : its = its' := by simpa using congrArg Array.toList d1
 subst this
 exact r.inj r'
end

noncomputable abbrev Cx.wish (X : Cx) (E : Value → Shared → Prop) : Cx := { X with xe := E }
noncomputable abbrev Cx.nox (X : Cx) : Cx := X.wish fun _ _ => False
theorem Cx.Ok.wish {X : Cx} (ok : X.Ok) (E : Value → Shared → Prop) : (X.wish E).Ok :=
 ⟨ok.mod, ok.kind, ok.glob, ok.blt, ok.above, ok.inj, ok.has, ok.cab, ok.hd, ok.frames, ok.stk, ok.exf, ok.bs, ok.bsz, ok.noex, ok.exfs, ok.funs, ok.frf⟩
theorem Cx.Ok.unwish {X : Cx} {E : Value → Shared → Prop} (ok : (X.wish E).Ok) : X.Ok :=
 ⟨ok.mod, ok.kind, ok.glob, ok.blt, ok.above, ok.inj, ok.has, ok.cab, ok.hd, ok.frames, ok.stk, ok.exf, ok.bs, ok.bsz, ok.noex, ok.exfs, ok.funs, ok.frf⟩
section
variable {X : Cx} {pins : List (Addr × Obj)} {σ : St} {H : Hp} {s : Shared} {E : Value → Shared → Prop}
theorem Inv.wish (I : Inv X pins σ H s) (E : Value → Shared → Prop) : Inv (X.wish E) pins σ H s := ⟨I.ok.wish E, I.os, I.bare, I.base, I.loc, I.cell, I.free, I.freeC, I.pin, I.hok, I.len⟩
theorem Inv.unwish (I : Inv (X.wish E) pins σ H s) : Inv X pins σ H s := ⟨I.ok.unwish, I.os, I.bare, I.base, I.loc, I.cell, I.free, I.freeC, I.pin, I.hok, I.len⟩
theorem SP.unwish {D : Ends} {f : Flow} {s' : Shared} (h : SP (X.wish E) pins D f s') : SP X pins D f s' := by
 cases f with
 | next => obtain ⟨σ', H', I, q⟩ := h; exact ⟨σ', H', I.unwish, q⟩
 | brk => obtain ⟨σ', H', I, q⟩ := h; exact ⟨σ', H', I.unwish, q⟩
 | cont => obtain ⟨σ', H', I, q⟩ := h; exact ⟨σ', H', I.unwish, q⟩
 | ret u => obtain ⟨v, σ', H', I, r, q⟩ := h; exact ⟨v, σ', H', I.unwish, r, q⟩
theorem PSs.nox {st : List Stmt} {t : TS} (h : PSs X.nox st t) : PSs X st t := fun pins s σ H D I hw =>
 wpAny_mono (h pins s σ H D (I.wish _) hw) (fun _ _ q => q.unwish) fun _ _ z => False.elim z
end

section
variable {X : Cx} {st : Stmt} {rest : List Stmt} {t u : TS} {e : Expr} {te : TE} {pos : Pos}
noncomputable def tNext : TS := fun D σ H => D.nx σ H
noncomputable def tSeq (t u : TS) : TS := fun D σ H => t { D with nx := u D } σ H
theorem qY : PSs X [] tNext := fun _ _ σ H _ I h => wpAny_execs_nil ⟨σ, H, I, h⟩
theorem qZ (h1 : PS X st t) (h2 : PSs X rest u) : PSs X (st :: rest) (tSeq t u) := by
 intro pins s σ H D I h
 refine wpAny_execs_cons (thn (h1 pins s σ H { D with nx := u D } I h) fun f s1 q => ?_)
 cases f with
 | next =>
  obtain ⟨σ', H', I', q⟩ := q
  exact h2 pins s1 σ' H' D I' q
 | ret v => exact q
 | brk => exact q
 | cont => exact q
theorem qJ (h1 : PS X st t) : PSs X [st] t := by
 intro pins s σ H D I h
 refine wpAny_execs_cons (thn (h1 pins s σ H D I h) fun f s1 q => ?_)
 cases f with
 | next => exact wpAny_execs_nil q
 | ret v => exact q
 | brk => exact q
 | cont => exact q
theorem Inv.quiet {pins : List (Addr × Obj)} {σ : St} {H : Hp} {s : Shared} (I : Inv X pins σ H s) : interactive X.env = false := by simp [interactive, I.ok.kind]
noncomputable def tDrop (te : TE) : TS := fun D σ H => te σ H fun _ H1 => D.nx σ H1
theorem qR (he : PE X e te) (hs : swapsWith e none pos.line X.env = pure false := by rfl) : PS X (.Expr e pos) (tDrop te) := by
 intro pins s σ H D I h
 exact wpAny_Expr_any (thn (he pins s σ H _ I h) fun v s1 ⟨x, H1, I1, r1, q1⟩ => ⟨σ, H1, I1, q1⟩) I.quiet hs
noncomputable def tRet (te : TE) : TS := fun D σ H => te σ H D.rt
theorem qO (he : PE X e te) : PS X (.Return (some e) pos) (tRet te) := by
 intro pins s σ H D I h
 exact wpAny_Return_some (thn (he pins s σ H _ I h) fun v s1 ⟨x, H1, I1, r1, q1⟩ => ⟨x, σ, H1, I1, r1, q1⟩)
noncomputable def tIfS (c : TT) (t u : TS) : TS := fun D σ H => c σ H fun b H1 => if b = true then t D σ H1 else u D σ H1
theorem zJ {c : Expr} {a b : List Stmt} {tc : TT} (hc : PT X c tc) (ha : PSs X a t) (hb : PSs X b u) : PS X (.If c a b pos) (tIfS tc t u) := by
 intro pins s σ H D I h
 refine wpAny_If (thn (hc pins s σ H _ I h) fun d s1 ⟨H1, I1, q1⟩ => ?_)
 cases d with
 | true => exact ha pins s1 σ H1 D I1 q1
 | false => exact hb pins s1 σ H1 D I1 q1
end

noncomputable abbrev TG := V → St → Hp → (St → Hp → Prop) → Prop
noncomputable abbrev TGs := List V → St → Hp → (St → Hp → Prop) → Prop
noncomputable def PG (X : Cx) (target : Expr) (t : TG) : Prop :=
 ∀ (pins : List (Addr × Obj)) (s : Shared) (σ : St) (H : Hp) (v : V) (u : Value) (Q : St → Hp → Prop), Inv X pins σ H s → RelV v u → t v σ H Q →
  wpAny (model X.prog X.w) X.A (assign target X.env u) (fun _ s' => ∃ σ' H', Inv X pins σ' H' s' ∧ Q σ' H') X.xe s
noncomputable def PGs (X : Cx) (ts : List Expr) (t : TGs) : Prop :=
 ∀ (pins : List (Addr × Obj)) (s : Shared) (σ : St) (H : Hp) (vs : List V) (us : List Value) (Q : St → Hp → Prop), Inv X pins σ H s → Vals vs us → t vs σ H Q →
  wpAny (model X.prog X.w) X.A (assignInOrder ((assignEach ts X.env).map (·.2)) us) (fun _ s' => ∃ σ' H', Inv X pins σ' H' s' ∧ Q σ' H') X.xe s
noncomputable abbrev TSet := V → V → V → Hp → (Hp → Prop) → Prop
noncomputable def PSet (X : Cx) (t : TSet) : Prop :=
 ∀ (pins : List (Addr × Obj)) (s : Shared) (σ : St) (H : Hp) (o i v : V) (ov iv u : Value) (Q : Hp → Prop), Inv X pins σ H s → RelV o ov → RelV i iv → RelV v u → t o i v H Q →
  wpAny (model X.prog X.w) X.A (setItem ov iv u) (fun _ s' => ∃ H', Inv X pins σ H' s' ∧ Q H') X.xe s
section
variable {X : Cx} {pos : Pos}
noncomputable def gName (i : Nat) : TG := fun v σ H Q => Q (σ.set i (some v)) H
theorem qH {i : Nat} {x : Str} (hN : X.N.Nodup) (hi : X.N[i]? = some x) (hx : Loc X.env.scope x) (hf : X.fn x = true ∨ X.env.scope.names.lookup x = some .local := by first | exact .inl rfl | exact .inr rfl | assumption) : PG X (.Name x pos) (gName i) := by
 intro pins s σ H v u Q I r h
 exact wpAny_assign_Name (yG I hN hi hx r (fun s' I' => ⟨_, H, I', h⟩) hf)
noncomputable def gNil : TGs := fun vs σ H Q => vs = [] ∧ Q σ H
noncomputable def gCons (t : TG) (u : TGs) : TGs := fun vs σ H Q => ∃ v r, vs = v :: r ∧ t v σ H fun σ' H' => u r σ' H' Q
theorem qM : PGs X [] gNil := by
 intro pins s σ H vs us Q I r h
 obtain ⟨e, h⟩ := h
 subst e
 cases r
 exact assignInOrder_nil ⟨σ, H, I, h⟩
theorem qI {e : Expr} {es : List Expr} {t : TG} {u : TGs} (h1 : PG X e t) (h2 : PGs X es u)
  (hs : (assignEach (e :: es) X.env).map (·.2) = assign e X.env :: (assignEach es X.env).map (·.2) := by rfl) : PGs X (e :: es) (gCons t u) := by
 intro pins s σ H vs us Q I r h
 obtain ⟨v, vr, e1, h⟩ := h
 subst e1
 cases r with
 | cons r rr =>
  rw [hs]
  refine assignInOrder_cons (thn (h1 pins s σ H _ _ _ I r h) fun _ s1 ⟨σ1, H1, I1, q1⟩ => ?_)
  exact h2 pins s1 σ1 H1 _ _ Q I1 rr q1
noncomputable def gTup (K : PySem.W.Frag) (n : Nat) (t : TGs) : TG := fun v σ H Q => ∃ a xs, v = .ref a ∧ SqT K H a xs ∧ xs.length = n ∧ t xs σ H Q
theorem pg_tup {es : List Expr} {k : Nat} {t : TGs} {n : Nat} (hc : X.calm = true) (h : PGs X es t)
  (hn : (assignEach es X.env).length = n := by rfl) (hst : (assignEach es X.env).findIdx? (·.1) = none := by rfl) : PG X (.Tuple es k pos) (gTup X.K n t) := by
 intro pins s σ H v u Q I r hw
 obtain ⟨a, xs, e1, hq, hl, hw⟩ := hw
 subst e1
 cases r
 obtain ⟨its, rv, ht, hz⟩ := I.tuple hq
 refine assign_Tuple_tuple (I.ok.hd hc) ht (by simp [hn, ← hl, rv.length]) hst fun h' hx => ?_
 have I1 : Inv X pins σ H { s with heap := h' } := I.kept (t' := s.toks) fun b o e => hx b o (Nat.ne_of_lt (Heap.lt_size e)) e
 exact h pins _ σ H xs _ Q I1 (by simpa using rv) hw
noncomputable def gSub (to ti : TE) (t : TSet) : TG := fun v σ H Q => to σ H fun o H1 => ti σ H1 fun i H2 => t o i v H2 fun H3 => Q σ H3
theorem pg_sub {o i : Expr} {to ti : TE} {t : TSet} (ho : PE X o to) (hi : PE X i ti) (hs : PSet X t)
  (ha : ∀ v, assign (.Subscript o i pos) X.env v = (do
   let ov ← holding [v] (eval o X.env)
   let iv ← holding [v, ov] (eval i X.env)
   standAt pos
   holding [v, ov, iv] (setItem ov iv v)
   release [v, ov, iv] []) := by intro _; rfl) : PG X (.Subscript o i pos) (gSub to ti t) := by
 intro pins s σ H v u Q I r h
 rw [ha]
 refine wpAny_bind (wpAny_holding (thn (ho pins s σ H _ I h) fun ov s1 ⟨x, H1, I1, r1, q1⟩ => ?_))
 refine wpAny_bind (wpAny_holding (thn (hi pins s1 σ H1 _ I1 q1) fun iv s2 ⟨y, H2, I2, r2, q2⟩ => ?_))
 refine wpAny_bind (wpAny_standAt (wpAny_bind (wpAny_holding (thn (hs pins s2 σ H2 x y v ov iv u _ I2 r1 r2 r q2) fun _ s3 ⟨H3, I3, q3⟩ => ?_))))
 exact wpAny_release ⟨σ, H3, I3, q3⟩
noncomputable def tAsg (te : TE) (g : TG) : TS := fun D σ H => te σ H fun x H1 => g x σ H1 D.nx
theorem qP {tg e : Expr} {te : TE} {g : TG} (he : PE X e te) (hg : PG X tg g) (hs : swapsWithSole [tg] e pos.line X.env = pure false := by rfl) (hw : swappedStores [tg] e X.env = pure none := by rfl)
  (h1 : (assignEach [tg] X.env).map (·.2) = [assign tg X.env] := by rfl) : PS X (.Assign [tg] e pos) (tAsg te g) := by
 intro pins s σ H D I h
 refine wpAny_Assign_stores (thn (he pins s σ H _ I h) fun v s1 ⟨x, H1, I1, r1, q1⟩ => ?_) hs hw
 rw [h1]
 exact thn (hg pins s1 σ H1 x v _ I1 r1 q1) fun _ s2 q => q
theorem qN {i : Nat} {x : Str} {e : Expr} {te : TE} {pos' : Pos} (hN : X.N.Nodup) (hi : X.N[i]? = some x) (hx : Loc X.env.scope x) (he : PE X e te) (hs : swapsWith e (some (.Name x pos')) pos.line X.env = pure false := by rfl) (hf : X.fn x = true ∨ X.env.scope.names.lookup x = some .local := by first | exact .inl rfl | exact .inr rfl | assumption) :
  PS X (.Assign [.Name x pos'] e pos) (tAsg te (gName i)) := by
 intro pins s σ H D I h
 refine wpAny_Assign_Name (thn (he pins s σ H _ I h) fun v s1 ⟨y, H1, I1, r1, q1⟩ => ?_) hs
 exact yG I1 hN hi hx r1 (fun s2 I2 => ⟨_, H1, I2, q1⟩) hf
end

section
variable {X : Cx} {pos : Pos}
end

structure It where
 go : Nat → Hp → Prop
 yld : Nat → Hp → V → Hp → Prop
 stop : Nat → Hp → Prop
noncomputable def FpOk (X : Cx) (pins : List (Addr × Obj)) (H : Hp) (b : Addr) : Prop :=
 H b = none ∧ b ≠ X.env.locals ∧ b ∉ X.fs ∧ (b ∈ X.ex ∨ X.s₀.heap.objs.size ≤ b) ∧ (∀ x c, X.env.cells.lookup x = some c → c ≠ b) ∧ ∀ p ∈ X.pn ++ pins, p.1 ≠ b
theorem Inv.fpOk {X : Cx} {pins : List (Addr × Obj)} {σ : St} {H H' : Hp} {s : Shared} {b : Addr} (I : Inv X pins σ H s) (hb : s.heap.objs.size ≤ b) (hn : H' b = none) : FpOk X pins H' b := by
 refine ⟨hn, Nat.ne_of_gt (Nat.lt_of_lt_of_le I.lt hb), I.nofs hb, .inr (Nat.le_trans I.sz hb), fun x c e z => ?_, fun p hp z => ?_⟩
 ·obtain ⟨v, q⟩ := I.cell x c e
  exact absurd (Nat.lt_of_lt_of_le q.lt (by rw [z]; exact hb)) (Nat.lt_irrefl _)
 ·exact absurd (Nat.lt_of_lt_of_le (Heap.lt_size (I.pin p hp).1) (by rw [z]; exact hb)) (Nat.lt_irrefl _)
structure Turn (P : Program) (w : World) (K : PySem.W.Frag) (tg : Expr) (J : It) (fp : List Addr) (it : Addr) (tn : Nat → Heap → Prop) : Prop where
 mem : it ∈ fp
 obj : ∀ i h, tn i h → ∀ b ∈ fp, ∃ o, h.get? b = some o ∧ ∀ v, o.data ≠ .cell v
 keep : ∀ i h h', tn i h → (∀ b ∈ fp, ∀ o, h.get? b = some o → h'.get? b = some o) → tn i h'
 item : ∀ (X : Cx), X.prog = P → X.w = w → X.K = K → X.calm = true → ∀ (i : Nat) (pins : List (Addr × Obj)) (s : Shared) (σ : St) (H : Hp) (E : Value → Shared → Prop), Inv X pins σ H s → (∀ b ∈ fp, FpOk X pins H b) → tn i s.heap → J.go i H →
  wpAny (model P w) X.A (pyNext (.ref it)) (fun r s1 => ∃ u, r = some u ∧
   wpAny (model P w) X.A (letOwnedTupleGo tg (.ref it) u) (fun _ s2 => ∃ x H', Inv X pins σ H' s2 ∧ RelV x u ∧ J.yld i H x H' ∧ tn (i + 1) s2.heap ∧ ∀ b ∈ fp, H' b = none) E s1) E s
 done : ∀ (X : Cx), X.prog = P → X.w = w → X.K = K → X.calm = true → ∀ (i : Nat) (pins : List (Addr × Obj)) (s : Shared) (σ : St) (H : Hp) (E : Value → Shared → Prop), Inv X pins σ H s → (∀ b ∈ fp, FpOk X pins H b) → tn i s.heap → J.stop i H →
  wpAny (model P w) X.A (pyNext (.ref it)) (fun r s1 => r = none ∧ Inv X pins σ H s1) E s
 self : ∀ (A : Around) (i : Nat) (s : Shared) (Q : Value → Shared → Prop) (E : Value → Shared → Prop), tn i s.heap → Q (.ref it) s → wpAny (model P w) A (pyIter (.ref it)) Q E s
noncomputable abbrev TI := St → Hp → (It → Hp → Prop) → Prop
noncomputable def PIE (X : Cx) (pins : List (Addr × Obj)) (σ : St) (tg : Expr) (R : It → Hp → Prop) (itv : Value) (s2 : Shared) : Prop :=
 ∃ (it : Addr) (fp : List Addr) (tn : Nat → Heap → Prop) (J : It) (H' : Hp), itv = .ref it ∧ Inv X pins σ H' s2 ∧ Turn X.prog X.w X.K tg J fp it tn ∧ tn 0 s2.heap ∧ (∀ b ∈ fp, FpOk X pins H' b) ∧ R J H'
noncomputable def PI (X : Cx) (tg iter : Expr) (wi : TI) : Prop :=
 ∀ (pins : List (Addr × Obj)) (s : Shared) (σ : St) (H : Hp) (R : It → Hp → Prop), Inv X pins σ H s → wi σ H R →
  wpAny (model X.prog X.w) X.A (eval iter X.env) (fun v s1 => wpAny (model X.prog X.w) X.A (pyIter v) (PIE X pins σ tg R) X.xe s1) X.xe s

theorem go_of {M : Model} {A : Around} {E : Value → Shared → Prop} {s : Shared} {tg : Expr} {it : Addr} {u : Value} {o : Obj} {n : String} {vs : Array Value} {Q : Unit → Shared → Prop} (ho : s.heap.get? it = some o) (hc : o.cls = .type n) (hd : o.data = .fields vs)
  (hn : ["enumerate", "zip", "dict_itemiterator", "dict_reverseitemiterator", "odict_iterator", "itertools.zip_longest", "itertools.pairwise"].contains n = false) (hQ : Q () s) : wpAny M A (letOwnedTupleGo tg (.ref it) u) Q E s := by
 unfold letOwnedTupleGo
 cases tg <;> first
  | exact wpAny_pure hQ
  | (cases u <;> first
    | exact wpAny_pure hQ
    | (refine wpAny_bind (wpAny_load ho ?_)
       rw [hc, hd]
       show wpAny M A (if (["enumerate", "zip", "dict_itemiterator", "dict_reverseitemiterator", "odict_iterator", "itertools.zip_longest", "itertools.pairwise"].contains n && vs[0]? == some (rawInt _)) = true then _ else _) Q E s
       rw [if_neg (by intro h; rw [hn, Bool.false_and] at h; cases h)]
       exact wpAny_pure hQ))

noncomputable def Itl (K : PySem.W.Frag) (a : Addr) : It :=
 ⟨fun i H => ∃ xs x, SqL K H a xs ∧ xs[i]? = some x, fun i H x H' => H' = H ∧ ∀ xs, SqL K H a xs → xs[i]? = some x, fun i H => ∃ xs, SqL K H a xs ∧ xs.length ≤ i⟩
noncomputable def Itt (K : PySem.W.Frag) (a : Addr) : It :=
 ⟨fun i H => ∃ xs x, SqT K H a xs ∧ xs[i]? = some x, fun i H x H' => H' = H ∧ ∀ xs, SqT K H a xs → xs[i]? = some x, fun i H => ∃ xs, SqT K H a xs ∧ xs.length ≤ i⟩
noncomputable def Itr (lo : Int) (n : Nat) : It := ⟨fun i _ => i < n, fun i H x H' => H' = H ∧ x = .int (lo + i), fun i _ => n ≤ i⟩
theorem turn_list {P : Program} {w : World} {K : PySem.W.Frag} {tg : Expr} (a it : Addr) : Turn P w K tg (Itl K a) [it] it (fun i h => h.IsListIter it a i) where
 mem := by simp
 obj := fun i h st b hb => by
  have e : b = it := by simpa using hb
  subst e
  obtain ⟨o, e, c, d⟩ := st
  exact ⟨o, e, fun v z => by rw [d] at z; cases z⟩
 keep := fun i h h' st k => st.at fun o e => k it (by simp) o e
 item := by
  intro X hP hw hK hc i pins s σ H E I hf st hg
  subst hP hw hK
  obtain ⟨xs, x, hq, hx⟩ := hg
  obtain ⟨its, rv, p, hz⟩ := I.list hq
  obtain ⟨u, hu, ru⟩ := rv.get hx
  obtain ⟨f0, f1, f2, f3, f4, f5⟩ := hf it (by simp)
  refine wpAny_pyNext_list_item st p.isList (x := u) (by simpa using hu) fun h' st' sb => ?_
  have I1 : Inv X pins σ H { s with heap := h' } := I.turned (t' := s.toks) (fun b o hb e => (sb.2 b hb).trans e) f0 f1 f3 f4 f5
  obtain ⟨o, e, c, d⟩ := id st'
  exact ⟨u, rfl, go_of (s := { s with heap := h' }) e c d (by decide) ⟨x, H, I1, ru, ⟨rfl, fun ys hy => by rw [I.list_inj hy hq]; exact hx⟩, st', fun b hb => (hf b hb).1⟩⟩
 done := by
  intro X hP hw hK hc i pins s σ H E I hf st hg
  subst hP hw hK
  obtain ⟨xs, hq, hx⟩ := hg
  obtain ⟨its, rv, p, hz⟩ := I.list hq
  obtain ⟨f0, f1, f2, f3, f4, f5⟩ := hf it (by simp)
  have hl := rv.length
  exact wpAny_pyNext_list_end (I.ok.hd hc) st p.isList (by simp; omega) fun h' eb => ⟨rfl, I.turned (t' := s.toks) (fun b o hb e => eb b o hb e) f0 f1 f3 f4 f5⟩
 self := fun _ _ _ _ _ st h => wpAny_pyIter_listiter st h
theorem turn_tuple {P : Program} {w : World} {K : PySem.W.Frag} {tg : Expr} (a it : Addr) : Turn P w K tg (Itt K a) [it] it (fun i h => h.IsTupleIter it a i) where
 mem := by simp
 obj := fun i h st b hb => by
  have e : b = it := by simpa using hb
  subst e
  obtain ⟨o, e, c, d⟩ := st
  exact ⟨o, e, fun v z => by rw [d] at z; cases z⟩
 keep := fun i h h' st k => st.at fun o e => k it (by simp) o e
 item := by
  intro X hP hw hK hc i pins s σ H E I hf st hg
  subst hP hw hK
  obtain ⟨xs, x, hq, hx⟩ := hg
  obtain ⟨its, rv, p, hz⟩ := I.tuple hq
  obtain ⟨u, hu, ru⟩ := rv.get hx
  obtain ⟨f0, f1, f2, f3, f4, f5⟩ := hf it (by simp)
  refine wpAny_pyNext_tuple_item st (show s.heap.IsTuple a its.toArray from p) (x := u) (by simpa using hu) fun h' st' sb => ?_
  have I1 : Inv X pins σ H { s with heap := h' } := I.turned (t' := s.toks) (fun b o hb e => (sb.2 b hb).trans e) f0 f1 f3 f4 f5
  obtain ⟨o, e, c, d⟩ := id st'
  exact ⟨u, rfl, go_of (s := { s with heap := h' }) e c d (by decide) ⟨x, H, I1, ru, ⟨rfl, fun ys hy => by rw [I.tuple_inj hy hq]; exact hx⟩, st', fun b hb => (hf b hb).1⟩⟩
 done := by
  intro X hP hw hK hc i pins s σ H E I hf st hg
  subst hP hw hK
  obtain ⟨xs, hq, hx⟩ := hg
  obtain ⟨its, rv, p, hz⟩ := I.tuple hq
  obtain ⟨f0, f1, f2, f3, f4, f5⟩ := hf it (by simp)
  have hl := rv.length
  exact wpAny_pyNext_tuple_end (I.ok.hd hc) st (show s.heap.IsTuple a its.toArray from p) (by simp; omega) fun h' eb => ⟨rfl, I.turned (t' := s.toks) (fun b o hb e => eb b o hb e) f0 f1 f3 f4 f5⟩
 self := fun _ _ _ _ _ st h => wpAny_pyIter_tupleiter st h
theorem turn_range {P : Program} {w : World} {K : PySem.W.Frag} {tg : Expr} (it : Addr) (lo : Int) (n : Nat) : Turn P w K tg (Itr lo n) [it] it (fun i h => IsRangeIter h it (lo + (i : Nat) * 1) ((n : Int) - (i : Nat)) 1) where
 mem := by simp
 obj := fun i h st b hb => by
  have e : b = it := by simpa using hb
  subst e
  exact ⟨_, st, fun v z => by
   have z' : Data.fields _ = Data.cell v := z
   cases z'⟩
 keep := fun i h h' st k => k it (by simp) _ st
 item := by
  intro X hP hw hK hc i pins s σ H E I hf st hg
  subst hP hw hK
  obtain ⟨f0, f1, f2, f3, f4, f5⟩ := hf it (by simp)
  have W := Walks.range (prog := X.prog) (w := X.w) (I.ok.hd hc) it lo 1 n
  refine W.item i s _ _ hg st fun v h' tk hv st' kk => ?_
  obtain ⟨t, rfl⟩ := hv
  have I1 : Inv X pins σ H { s with heap := h', toks := tk } := I.turned (fun b o hb e => kk b o (by simpa using hb) e) f0 f1 f3 f4 f5
  refine ⟨_, rfl, go_of (s := { s with heap := h', toks := tk }) (n := "range_iterator") st' rfl rfl (by decide) ⟨.int (lo + i), H, I1, ⟨t, ?_⟩, ⟨rfl, rfl⟩, st', fun b hb => (hf b hb).1⟩⟩
  rw [Int.mul_one]
 done := by
  intro X hP hw hK hc i pins s σ H E I hf st hg
  subst hP hw hK
  obtain ⟨f0, f1, f2, f3, f4, f5⟩ := hf it (by simp)
  exact wpAny_pyNext_range_end (I.ok.hd hc) st (by have : n ≤ i := hg; omega) fun h' eb => ⟨rfl, I.turned (t' := s.toks) (fun b o hb e => eb b o hb e) f0 f1 f3 f4 f5⟩
 self := fun _ _ _ _ _ st h => wpAny_pyIter_rangeiter st h
end L2

namespace L2
open PySem PySem.Spec PyProof.Rows
section
variable {X : Cx} {tg : Expr}
noncomputable def iList (K : PySem.W.Frag) (tl : TE) : TI := fun σ H R => tl σ H fun x H1 => ∃ a, x = .ref a ∧ (∃ xs, SqL K H1 a xs) ∧ R (Itl K a) H1
noncomputable def iTup (K : PySem.W.Frag) (tl : TE) : TI := fun σ H R => tl σ H fun x H1 => ∃ a, x = .ref a ∧ (∃ xs, SqT K H1 a xs) ∧ R (Itt K a) H1
theorem pi_list {l : Expr} {tl : TE} (hl : PE X l tl) : PI X tg l (iList X.K tl) := by
 intro pins s σ H R I h
 refine thn (hl pins s σ H _ I h) fun v s1 ⟨x, H1, I1, r1, q1⟩ => ?_
 obtain ⟨a, e, ⟨xs, hq⟩, q⟩ := q1
 subst e
 cases r1
 obtain ⟨its, rv, p, hz⟩ := I1.list hq
 refine wpAny_pyIter_list p.isList ?_
 refine ⟨s1.heap.objs.size, [s1.heap.objs.size], _, _, H1, rfl, I1.kept (t' := s1.toks) fun b o e => Heap.get?_push_of_some _ e, turn_list a _, ⟨_, Heap.get?_push_size _ rfl, rfl, rfl⟩, fun b hb => ?_, q⟩
 have e : b = s1.heap.objs.size := by simpa using hb
 subst e
 exact I1.fpOk (Nat.le_refl _) (I1.hok.fresh (Nat.le_refl _))
theorem pi_tup {l : Expr} {tl : TE} (hl : PE X l tl) : PI X tg l (iTup X.K tl) := by
 intro pins s σ H R I h
 refine thn (hl pins s σ H _ I h) fun v s1 ⟨x, H1, I1, r1, q1⟩ => ?_
 obtain ⟨a, e, ⟨xs, hq⟩, q⟩ := q1
 subst e
 cases r1
 obtain ⟨its, rv, p, hz⟩ := I1.tuple hq
 refine wpAny_pyIter_tuple (show s1.heap.IsTuple a its.toArray from p) ?_
 refine ⟨s1.heap.objs.size, [s1.heap.objs.size], _, _, H1, rfl, I1.kept (t' := s1.toks) fun b o e => Heap.get?_push_of_some _ e, turn_tuple a _, ⟨_, Heap.get?_push_size _ rfl, rfl, rfl⟩, fun b hb => ?_, q⟩
 have e : b = s1.heap.objs.size := by simpa using hb
 subst e
 exact I1.fpOk (Nat.le_refl _) (I1.hok.fresh (Nat.le_refl _))
theorem range_it {pins : List (Addr × Obj)} {σ : St} {H : Hp} {s : Shared} {R : It → Hp → Prop} {E : Value → Shared → Prop} {lo hi : Int} {t u v : Tok} {tk : Nat} (I : Inv X pins σ H s) (h1 : -(2 ^ 62) ≤ lo) (h2 : lo < 2 ^ 62) (h3 : -(2 ^ 62) ≤ hi) (h4 : hi < 2 ^ 62)
  (q : R (Itr lo (hi - lo).toNat) H) : wpAny (model X.prog X.w) X.A (pyIter (.ref s.heap.objs.size)) (PIE X pins σ tg R) E { s with heap := s.heap.push { cls := .type "range", data := .fields #[.int lo t, .int hi u, .int 1 v] }, toks := tk } := by
 refine wpAny_pyIter_range (IsRange.new ..) (small_one h1 h2 h3 h4) ?_
 have I1 : Inv X pins σ H { s with heap := s.heap.push { cls := .type "range", data := .fields #[.int lo t, .int hi u, .int 1 v] }, toks := tk } := I.kept fun b o e => Heap.get?_push_of_some _ e
 refine ⟨(s.heap.push { cls := .type "range", data := .fields #[.int lo t, .int hi u, .int 1 v] }).objs.size, [(s.heap.push { cls := .type "range", data := .fields #[.int lo t, .int hi u, .int 1 v] }).objs.size], _, _, H, rfl,
  I1.kept (t' := tk) fun b o e => Heap.get?_push_of_some _ e, turn_range _ lo (hi - lo).toNat, ?_, fun b hb => ?_, q⟩
 ·have e1 : lo + ((0 : Nat) : Int) * 1 = lo := by simp
  have e2 : (((hi - lo).toNat : Nat) : Int) - ((0 : Nat) : Int) = Builtin.Range.rangeSize lo hi 1 := by rw [rangeSize_one]; split <;> omega
  show IsRangeIter _ _ (lo + ((0 : Nat) : Int) * 1) ((((hi - lo).toNat : Nat) : Int) - ((0 : Nat) : Int)) 1
  rw [e1, e2]
  exact Heap.get?_push_size _ rfl
 ·have e : b = (s.heap.push { cls := .type "range", data := .fields #[.int lo t, .int hi u, .int 1 v] }).objs.size := by simpa using hb
  subst e
  exact I1.fpOk (Nat.le_refl _) (I1.hok.fresh (Nat.le_refl _))
noncomputable def iRng1 (ta : TA) : TI := fun σ H R => ta σ H fun vs H1 => ∃ j : Int, vs = [.int j] ∧ -(2 ^ 62) ≤ j ∧ j < 2 ^ 62 ∧ R (Itr 0 j.toNat) H1
theorem zC {a : Expr} {ta : TA} {p pos : Pos} (hg : Gl X "range") (hm : X.mg "range" = none) (ha : PA X [a] ta) (hs : starEach [a] X.env = [(false, eval a X.env)] := by rfl) : PI X tg (.Call (.Name "range" p) [a] [] pos) (iRng1 ta) := by
 intro pins s σ H R I h
 refine Call_ (ld_blt I hg hm boot_range (PyProof.Rows.callWith_type1 (thn (ha pos pins s σ H _ I h) fun us s1 ⟨vs, H1, I1, r1, q1⟩ => ?_) hs rfl))
 obtain ⟨j, e, q1, q2, q⟩ := q1
 subst e
 cases r1 with
 | cons r rr =>
  cases rr
  obtain ⟨t, rfl⟩ := r
  exact call_range_1 (range_it I1 (by omega) (by omega) q1 q2 (by simpa using q))
noncomputable def tFor (wi : TI) (g : TG) (tb : TS) : TS := fun D σ H => wi σ H fun J H1 => ∃ W : Nat → Nat → St → Hp → Prop, (∃ m, W 0 m σ H1) ∧ ∀ i m σ H, W i m σ H →
 (J.stop i H ∧ D.nx σ H) ∨ (J.go i H ∧ ∃ N : St → Hp → Prop, (∀ σ' H', N σ' H' → ∃ m', m' < m ∧ W (i + 1) m' σ' H') ∧ ∀ x H', J.yld i H x H' → g x σ H' fun σ2 H2 => tb { D with nx := N, ct := N, bk := D.nx } σ2 H2)
noncomputable def pinsAt (fp : List Addr) (h : Heap) : List (Addr × Obj) := fp.filterMap fun b => (h.get? b).map fun o => (b, o)
theorem jU {fp : List Addr} {h : Heap} {b : Addr} {o : Obj} (hb : b ∈ fp) (e : h.get? b = some o) : (b, o) ∈ pinsAt fp h := List.mem_filterMap.mpr ⟨b, hb, by rw [e]; rfl⟩
theorem of_pinsAt {fp : List Addr} {h : Heap} {p : Addr × Obj} (hp : p ∈ pinsAt fp h) : p.1 ∈ fp ∧ h.get? p.1 = some p.2 := by
 obtain ⟨b, hb, e⟩ := List.mem_filterMap.mp hp
 cases q : h.get? b with
 | none => rw [q] at e; cases e
 | some o =>
  rw [q] at e
  have e' : (b, o) = p := Option.some.inj e
  subst e'
  exact ⟨hb, q⟩
theorem Inv.pinned {pins : List (Addr × Obj)} {σ : St} {H : Hp} {s : Shared} {fp : List Addr} (I : Inv X pins σ H s) (hf : ∀ b ∈ fp, FpOk X pins H b) (ho : ∀ b ∈ fp, ∃ o, s.heap.get? b = some o ∧ ∀ v, o.data ≠ .cell v) : Inv X (pins ++ pinsAt fp s.heap) σ H s :=
 I.pins_of fun p hp => (List.mem_append.mp hp).elim (fun z => I.pin p (List.mem_append_right _ z)) fun z => by
  obtain ⟨hb, e⟩ := of_pinsAt z
  obtain ⟨f0, f1, f2, _⟩ := hf p.1 hb
  obtain ⟨o, e', d⟩ := ho p.1 hb
  rw [e] at e'; cases e'
  exact ⟨e, f0, f1, f2, d⟩
theorem Inv.unpinned {pins pl : List (Addr × Obj)} {σ : St} {H : Hp} {s : Shared} (I : Inv X (pins ++ pl) σ H s) : Inv X pins σ H s := I.pins_of fun p hp => I.pin p (List.mem_append_right _ (List.mem_append_left _ hp))
theorem zT {iter : Expr} {body : List Stmt} {wi : TI} {g : TG} {tb : TS} {pos : Pos} (hp : PassesOwn (model X.prog X.w) X.A X.env X.xe) (hc : X.calm = true) (hi : PI X tg iter wi) (hg : PG X tg g) (hb : PSs X body tb)
  (hs : ∀ x, foldedSetIterable iter X.env x = pure x := by intro _; rfl) : PS X (.For tg iter body [] pos) (tFor wi g tb) := by
 intro pins s σ H D I h
 refine wpAny_For (thn (hi pins s σ H _ I h) fun v s1 h1 => thn h1 fun itv s2 h2 => ?_) hs
 obtain ⟨it, fp, tn, J, H2, e, I2, T, st2, f2, W, ⟨m0, w0⟩, turn⟩ := h2
 subst e
 have stat : ∀ {H' : Hp}, (∀ b ∈ fp, H' b = none) → ∀ b ∈ fp, FpOk X pins H' b := fun hn b hb => ⟨hn b hb, (f2 b hb).2⟩
 refine codeAny_forLoop_any (fun n s' => ∃ i σ' H', Inv X pins σ' H' s' ∧ tn i s'.heap ∧ (∀ b ∈ fp, H' b = none) ∧ W i n σ' H') ?_ m0 ⟨0, σ, H2, I2, st2, fun b hb => (f2 b hb).1, w0⟩
 rintro n s3 ⟨i, σ3, H3, I3, st3, fr3, w3⟩
 rcases turn i n σ3 H3 w3 with ⟨stop, qn⟩ | ⟨go, N, hN, step⟩
 ·refine wpAny_passesOwn hp (thn (T.done X rfl rfl rfl hc i pins s3 σ3 H3 X.xe I3 (stat fr3) st3 stop) fun r s4 ⟨hr, I4⟩ => ?_)
  subst hr
  exact wpAny_execs_nil ⟨σ3, H3, I4, qn⟩
 ·refine wpAny_passesOwn hp (thn (T.item X rfl rfl rfl hc i pins s3 σ3 H3 X.xe I3 (stat fr3) st3 go) fun r s4 ⟨u, hr, h4⟩ => ?_)
  subst hr
  refine wpAny_passesOwn hp (thn h4 fun _ s5 ⟨x, H5, I5, r5, y5, st5, fr5⟩ => ?_)
  have I5' := I5.pinned (stat fr5) (T.obj _ _ st5)
  refine wpAny_passesOwn hp (thn (hg _ s5 σ3 H5 x u _ I5' r5 (step x H5 y5)) fun _ s6 ⟨σ6, H6, I6, q6⟩ => ?_)
  refine wpAny_passesOwn hp (thn (hb _ s6 σ6 H6 _ I6 q6) fun f s7 q7 => ?_)
  have again : ∀ {σ7 : St} {H7 : Hp}, Inv X (pins ++ pinsAt fp s5.heap) σ7 H7 s7 → N σ7 H7 → ∃ m, m < n ∧ ∃ i σ' H', Inv X pins σ' H' s7 ∧ tn i s7.heap ∧ (∀ b ∈ fp, H' b = none) ∧ W i m σ' H' := fun {σ7 H7} I7 n7 => by
   obtain ⟨m', hm, w7⟩ := hN σ7 H7 n7
   refine ⟨m', hm, i + 1, σ7, H7, I7.unpinned, T.keep _ _ _ st5 fun b hb o e => (I7.pin (b, o) (List.mem_append_right _ (List.mem_append_right _ (jU hb e)))).1, fun b hb => ?_, w7⟩
   obtain ⟨o, e, d⟩ := T.obj _ _ st5 b hb
   exact (I7.pin (b, o) (List.mem_append_right _ (List.mem_append_right _ (jU hb e)))).2.1
  cases f with
  | next => obtain ⟨σ7, H7, I7, n7⟩ := q7; exact again I7 n7
  | cont => obtain ⟨σ7, H7, I7, n7⟩ := q7; exact again I7 n7
  | brk => obtain ⟨σ7, H7, I7, q7⟩ := q7; exact ⟨σ7, H7, I7.unpinned, q7⟩
  | ret v => obtain ⟨x7, σ7, H7, I7, r7, q7⟩ := q7; exact ⟨x7, σ7, H7, I7.unpinned, r7, q7⟩
end

theorem jE {K : PySem.W.Frag} {a : Addr} {xs : List V} {g : TG} {tb : TS} {D : Ends} {σ : St} {H : Hp} (Pv : Nat → St → Hp → Prop) (h0 : Pv 0 σ H) (hl : ∀ i σ H, i ≤ xs.length → Pv i σ H → SqL K H a xs)
  (hs : ∀ i x σ H, xs[i]? = some x → Pv i σ H → g x σ H fun σ2 H2 => tb { D with nx := Pv (i + 1), ct := Pv (i + 1), bk := D.nx } σ2 H2) (hd : ∀ σ H, Pv xs.length σ H → D.nx σ H) :
  ∃ W : Nat → Nat → St → Hp → Prop, (∃ m, W 0 m σ H) ∧ ∀ i m σ H, W i m σ H →
   ((Itl K a).stop i H ∧ D.nx σ H) ∨ ((Itl K a).go i H ∧ ∃ N : St → Hp → Prop, (∀ σ' H', N σ' H' → ∃ m', m' < m ∧ W (i + 1) m' σ' H') ∧ ∀ x H', (Itl K a).yld i H x H' → g x σ H' fun σ2 H2 => tb { D with nx := N, ct := N, bk := D.nx } σ2 H2) := by
 refine ⟨fun i m σ H => m = xs.length - i ∧ i ≤ xs.length ∧ Pv i σ H, ⟨xs.length, by simp, Nat.zero_le _, h0⟩, ?_⟩
 rintro i m σ H ⟨rfl, hi, p⟩
 have q := hl i σ H hi p
 by_cases hlt : i < xs.length
 ·refine .inr ⟨⟨xs, xs[i], q, by simp [hlt]⟩, Pv (i + 1), fun σ' H' p' => ⟨xs.length - (i + 1), by omega, rfl, hlt, p'⟩, fun x H' y => ?_⟩
  obtain ⟨e, y⟩ := y
  subst e
  exact hs i x σ _ (y xs q) p
 ·have e : i = xs.length := by omega
  subst e
  exact .inl ⟨⟨xs, q, Nat.le_refl _⟩, hd σ H p⟩
theorem for_range {lo : Int} {n : Nat} {g : TG} {tb : TS} {D : Ends} {σ : St} {H : Hp} (Pv : Nat → St → Hp → Prop) (h0 : Pv 0 σ H)
  (hs : ∀ i σ H, i < n → Pv i σ H → g (.int (lo + i)) σ H fun σ2 H2 => tb { D with nx := Pv (i + 1), ct := Pv (i + 1), bk := D.nx } σ2 H2) (hd : ∀ σ H, Pv n σ H → D.nx σ H) :
  ∃ W : Nat → Nat → St → Hp → Prop, (∃ m, W 0 m σ H) ∧ ∀ i m σ H, W i m σ H →
   ((Itr lo n).stop i H ∧ D.nx σ H) ∨ ((Itr lo n).go i H ∧ ∃ N : St → Hp → Prop, (∀ σ' H', N σ' H' → ∃ m', m' < m ∧ W (i + 1) m' σ' H') ∧ ∀ x H', (Itr lo n).yld i H x H' → g x σ H' fun σ2 H2 => tb { D with nx := N, ct := N, bk := D.nx } σ2 H2) := by
 refine ⟨fun i m σ H => m = n - i ∧ i ≤ n ∧ Pv i σ H, ⟨n, by simp, Nat.zero_le _, h0⟩, ?_⟩
 rintro i m σ H ⟨rfl, hi, p⟩
 by_cases hlt : i < n
 ·refine .inr ⟨hlt, Pv (i + 1), fun σ' H' p' => ⟨n - (i + 1), by omega, rfl, hlt, p'⟩, fun x H' y => ?_⟩
  obtain ⟨e, y⟩ := y
  subst e y
  exact hs i σ _ hlt p
 ·have e : i = n := by omega
  subst e
  exact .inl ⟨Nat.le_refl _, hd σ H p⟩
end L2

namespace L2
open PySem PySem.Spec PyProof.Rows

noncomputable abbrev R2 := V → V → Hp → VK → Prop
noncomputable def OpR (X : Cx) (f : Value → Value → Sem Value) (r : R2) : Prop :=
 ∀ (pins : List (Addr × Obj)) (s : Shared) (σ : St) (H : Hp) (x y : V) (v u : Value) (Q : VK), Inv X pins σ H s → RelV x v → RelV y u → r x y H Q →
  wpAny (model X.prog X.w) X.A (f v u) (EP X pins σ Q) X.xe s
noncomputable def UnR (X : Cx) (f : Value → Sem Value) (r : V → Hp → VK → Prop) : Prop :=
 ∀ (pins : List (Addr × Obj)) (s : Shared) (σ : St) (H : Hp) (x : V) (v : Value) (Q : VK), Inv X pins σ H s → RelV x v → r x H Q →
  wpAny (model X.prog X.w) X.A (f v) (EP X pins σ Q) X.xe s
noncomputable def CallR (X : Cx) (f : Value) (r : List V → Hp → VK → Prop) : Prop :=
 ∀ (pins : List (Addr × Obj)) (s : Shared) (σ : St) (H : Hp) (xs : List V) (us : List Value) (Q : VK), Inv X pins σ H s → Vals xs us → r xs H Q →
  wpAny (model X.prog X.w) X.A (call f us) (EP X pins σ Q) X.xe s
noncomputable def tOp (r : R2) (ta tb : TE) : TE := fun σ H Q => ta σ H fun x H1 => tb σ H1 fun y H2 => r x y H2 Q
noncomputable def tUn (r : V → Hp → VK → Prop) (ta : TE) : TE := fun σ H Q => ta σ H fun x H1 => r x H1 Q
noncomputable def rI (C : Int → Int → Prop) (g : Int → Int → V) : R2 := fun x y H Q => ∃ i j, x = .int i ∧ y = .int j ∧ C i j ∧ Q (g i j) H
noncomputable def rI0 (g : Int → Int → V) : R2 := fun x y H Q => ∃ i j, x = .int i ∧ y = .int j ∧ Q (g i j) H
noncomputable def rU (g : Int → V) : V → Hp → VK → Prop := fun x H Q => ∃ i, x = .int i ∧ Q (g i) H

section
variable {X : Cx} {a b c : Expr} {ta tb tc : TE} {pos : Pos}

theorem binT (ha : PE X a ta) (hb : PE X b tb) {pins : List (Addr × Obj)} {s : Shared} {σ : St} {H : Hp} {R : V → V → Hp → Prop} (I : Inv X pins σ H s)
  (h : ta σ H fun x H1 => tb σ H1 fun y H2 => R x y H2) {Q : Value → Shared → Prop} {f : Value → Value → Sem Value}
  (hf : ∀ v u s2 x y H2, Inv X pins σ H2 s2 → RelV x v → RelV y u → R x y H2 → wpAny (model X.prog X.w) X.A (f v u) Q X.xe s2) :
  wpAny (model X.prog X.w) X.A (eval a X.env) (fun v s₁ => wpAny (model X.prog X.w) X.A (eval b X.env) (fun u s₂ => wpAny (model X.prog X.w) X.A (f v u) Q X.xe s₂) X.xe s₁) X.xe s := by
 refine thn (ha pins s σ H _ I h) fun v s1 ⟨x, H1, I1, r1, q1⟩ => ?_
 refine thn (hb pins s1 σ H1 _ I1 q1) fun u s2 ⟨y, H2, I2, r2, q2⟩ => ?_
 exact hf v u s2 x y H2 I2 r1 r2 q2

theorem xX {op : Operator} {r : R2} (ho : OpR X (binaryOp op) r) (ha : PE X a ta) (hb : PE X b tb) : PE X (.BinOp a op b pos) (tOp r ta tb) := by
 intro pins s σ H Q I h
 exact wpAny_BinOp (binT ha hb I h fun v u s2 x y H2 I2 rx ry q => ho pins s2 σ H2 x y v u Q I2 rx ry q)
theorem pe_un {op : UnaryOp} {r : V → Hp → VK → Prop} (ho : UnR X (unaryOp op) r) (ha : PE X a ta) : PE X (.UnaryOp op a pos) (tUn r ta) := by
 intro pins s σ H Q I h
 exact UnaryOp_ (thn (ha pins s σ H _ I h) fun v s1 ⟨x, H1, I1, r1, q1⟩ => ho pins s1 σ H1 x v Q I1 r1 q1)
theorem opI {f : Value → Value → Sem Value} {C : Int → Int → Prop} {g : Int → Int → Int}
  (rule : ∀ (i j : Int) (t u : Tok) (s : Shared) (Q : Value → Shared → Prop) (E : Value → Shared → Prop), C i j → Q (.int (g i j) s.toks) { s with toks := s.toks + 1 } → wpAny (model X.prog X.w) X.A (f (.int i t) (.int j u)) Q E s) :
  OpR X f (rI C fun i j => .int (g i j)) := by
 intro pins s σ H x y v u Q I rx ry h
 obtain ⟨i, j, rfl, rfl, hc, q⟩ := h
 obtain ⟨t, rfl⟩ := rx
 obtain ⟨t', rfl⟩ := ry
 exact rule i j t t' s _ _ hc ⟨.int (g i j), H, I.tok _, ⟨_, rfl⟩, q⟩
theorem opI0 {f : Value → Value → Sem Value} {g : Int → Int → Int}
  (rule : ∀ (i j : Int) (t u : Tok) (s : Shared) (Q : Value → Shared → Prop) (E : Value → Shared → Prop), Q (.int (g i j) s.toks) { s with toks := s.toks + 1 } → wpAny (model X.prog X.w) X.A (f (.int i t) (.int j u)) Q E s) :
  OpR X f (rI0 fun i j => .int (g i j)) := by
 intro pins s σ H x y v u Q I rx ry h
 obtain ⟨i, j, rfl, rfl, q⟩ := h
 obtain ⟨t, rfl⟩ := rx
 obtain ⟨t', rfl⟩ := ry
 exact rule i j t t' s _ _ ⟨.int (g i j), H, I.tok _, ⟨_, rfl⟩, q⟩
theorem opB0 {f : Value → Value → Sem Value} {g : Int → Int → Bool}
  (rule : ∀ (i j : Int) (t u : Tok) (s : Shared) (Q : Value → Shared → Prop) (E : Value → Shared → Prop), Q (.bool (g i j)) s → wpAny (model X.prog X.w) X.A (f (.int i t) (.int j u)) Q E s) :
  OpR X f (rI0 fun i j => .bl (g i j)) := by
 intro pins s σ H x y v u Q I rx ry h
 obtain ⟨i, j, rfl, rfl, q⟩ := h
 obtain ⟨t, rfl⟩ := rx
 obtain ⟨t', rfl⟩ := ry
 exact rule i j t t' s _ _ ⟨.bl (g i j), H, I, rfl, q⟩

noncomputable def CPow (i j : Int) : Prop := 0 ≤ j ∧ j ≤ 1000000 ∧ i.natAbs < 2 ^ 64
theorem zV : OpR X (binaryOp .Add) (rI0 fun i j => .int (i + j)) := opI0 fun _ _ _ _ _ _ _ q => add_int q
theorem jI : OpR X (binaryOp .Sub) (rI0 fun i j => .int (i - j)) := opI0 fun _ _ _ _ _ _ _ q => sub_int q
theorem yW : OpR X (binaryOp .Mod) (rI (fun _ j => 0 < j) fun i j => .int (i % j)) := opI fun i j _ _ _ _ _ hc q => by
 have h1 : (0 : Int) < j := hc
 exact mod_int' (by omega) (by rw [Int.fmod_eq_emod_of_nonneg i (by omega)]; exact q)
theorem op_pow : OpR X (binaryOp .Pow) (rI CPow fun i j => .int (i ^ j.toNat)) := opI fun _ _ _ _ _ _ _ hc q => pow_int_small hc.1 hc.2.1 hc.2.2 q
theorem unI {f : Value → Sem Value} {g : Int → Int}
  (rule : ∀ (i : Int) (t : Tok) (s : Shared) (Q : Value → Shared → Prop) (E : Value → Shared → Prop), Q (.int (g i) s.toks) { s with toks := s.toks + 1 } → wpAny (model X.prog X.w) X.A (f (.int i t)) Q E s) :
  UnR X f (rU fun i => .int (g i)) := by
 intro pins s σ H x v Q I rx h
 obtain ⟨i, rfl, q⟩ := h
 obtain ⟨t, rfl⟩ := rx
 exact rule i t s _ _ ⟨.int (g i), H, I.tok _, ⟨_, rfl⟩, q⟩
theorem un_neg : UnR X (unaryOp .USub) (rU fun i => .int (-i)) := unI fun _ _ _ _ _ q => neg_int q
end

noncomputable def scal : V → V → Bool
 | .non, .non => true | .non, .int _ => true | .int _, .non => true | .non, .bl _ => true | .bl _, .non => true | .non, .str _ => true | .str _, .non => true
 | .int _, .int _ => true | .bl _, .bl _ => true | .str _, .str _ => true | .byt _, .byt _ => true
 | .int _, .str _ => true | .str _, .int _ => true | .bl _, .str _ => true | .str _, .bl _ => true
 | _, _ => false
noncomputable def rEq : R2 := fun x y H Q => scal x y = true ∧ Q (.bl (decide (x = y))) H
noncomputable def rNe : R2 := fun x y H Q => scal x y = true ∧ Q (.bl (!decide (x = y))) H

theorem dec_int {i j : Int} : decide (V.int i = V.int j) = (i == j) := by
 rw [Bool.eq_iff_iff]
 simp
theorem dec_bl {i j : Bool} : decide (V.bl i = V.bl j) = (i == j) := by
 rw [Bool.eq_iff_iff]
 simp
theorem dec_str {i j : Str} : decide (V.str i = V.str j) = (i == j) := by
 rw [Bool.eq_iff_iff]
 simp
theorem dec_byt {i j : Array UInt8} : decide (V.byt i = V.byt j) = (i.toList == j.toList) := by
 rw [Bool.eq_iff_iff]
 cases i
 cases j
 simp

section
variable {X : Cx} {a b c : Expr} {ta tb tc : TE} {pos : Pos}
theorem zQ {pins : List (Addr × Obj)} {σ : St} {H : Hp} {s : Shared} {Q : VK} {k k' : Bool} (I : Inv X pins σ H s) (q : Q (.bl k) H) (e : k = k') : EP X pins σ Q (.bool k') s := by
 subst e
 exact ⟨.bl k, H, I, rfl, q⟩
theorem zD : OpR X (compareOp .Eq) rEq := by
 intro pins s σ H x y v u Q I rx ry h
 obtain ⟨hs, q⟩ := h
 cases x with
 | non =>
  cases rx
  cases y with
  | non => cases ry; exact PySem.EqNone.eq_none_none (zQ I q (by simp))
  | bl j => cases ry; exact PySem.EqNone.eq_none_bool (zQ I q (by simp))
  | int j => obtain ⟨t', rfl⟩ := ry; exact PySem.EqNone.eq_none_int (zQ I q (by simp))
  | str j => obtain ⟨t', rfl⟩ := ry; exact PySem.EqNone.eq_none_str (zQ I q (by simp))
  | _ => exact absurd (show false = true from hs) Bool.false_ne_true
 | bl i =>
  cases rx
  cases y with
  | non => cases ry; exact PySem.EqNone.eq_bool_none (zQ I q (by simp))
  | bl j => cases ry; exact eq_bool (zQ I q dec_bl)
  | str j => obtain ⟨t', rfl⟩ := ry; exact PySem.EqMixed.eq_bool_str (zQ I q (by simp))
  | _ => exact absurd (show false = true from hs) Bool.false_ne_true
 | int i =>
  obtain ⟨t, rfl⟩ := rx
  cases y with
  | non => cases ry; exact PySem.EqNone.eq_int_none (zQ I q (by simp))
  | int j => obtain ⟨t', rfl⟩ := ry; exact eq_int (zQ I q dec_int)
  | str j => obtain ⟨t', rfl⟩ := ry; exact PySem.EqMixed.eq_int_str (zQ I q (by simp))
  | _ => exact absurd (show false = true from hs) Bool.false_ne_true
 | str i =>
  obtain ⟨t, rfl⟩ := rx
  cases y with
  | non => cases ry; exact PySem.EqNone.eq_str_none (zQ I q (by simp))
  | bl j => cases ry; exact PySem.EqMixed.eq_str_bool (zQ I q (by simp))
  | int j => obtain ⟨t', rfl⟩ := ry; exact PySem.EqMixed.eq_str_int (zQ I q (by simp))
  | str j => obtain ⟨t', rfl⟩ := ry; exact eq_str (zQ I q dec_str)
  | _ => exact absurd (show false = true from hs) Bool.false_ne_true
 | byt i =>
  obtain ⟨t, rfl⟩ := rx
  cases y with
  | byt j => obtain ⟨t', rfl⟩ := ry; exact PySem.W.eq_bytes (zQ I q dec_byt)
  | _ => exact absurd (show false = true from hs) Bool.false_ne_true
 | _ => cases y <;> exact absurd (show false = true from hs) Bool.false_ne_true
theorem op_ne : OpR X (compareOp .NotEq) rNe := by
 intro pins s σ H x y v u Q I rx ry h
 obtain ⟨hs, q⟩ := h
 cases x with
 | non =>
  cases rx
  cases y with
  | non => cases ry; exact PySem.EqNone.ne_none_none (zQ I q (by simp))
  | bl j => cases ry; exact PySem.EqNone.ne_none_bool (zQ I q (by simp))
  | int j => obtain ⟨t', rfl⟩ := ry; exact PySem.EqNone.ne_none_int (zQ I q (by simp))
  | str j => obtain ⟨t', rfl⟩ := ry; exact PySem.EqNone.ne_none_str (zQ I q (by simp))
  | _ => exact absurd (show false = true from hs) Bool.false_ne_true
 | bl i =>
  cases rx
  cases y with
  | non => cases ry; exact PySem.EqNone.ne_bool_none (zQ I q (by simp))
  | bl j => cases ry; exact ne_bool (zQ I q (congrArg not dec_bl))
  | str j => obtain ⟨t', rfl⟩ := ry; exact PySem.EqMixed.ne_bool_str (zQ I q (by simp))
  | _ => exact absurd (show false = true from hs) Bool.false_ne_true
 | int i =>
  obtain ⟨t, rfl⟩ := rx
  cases y with
  | non => cases ry; exact PySem.EqNone.ne_int_none (zQ I q (by simp))
  | int j => obtain ⟨t', rfl⟩ := ry; exact ne_int (zQ I q (congrArg not dec_int))
  | str j => obtain ⟨t', rfl⟩ := ry; exact PySem.EqMixed.ne_int_str (zQ I q (by simp))
  | _ => exact absurd (show false = true from hs) Bool.false_ne_true
 | str i =>
  obtain ⟨t, rfl⟩ := rx
  cases y with
  | non => cases ry; exact PySem.EqNone.ne_str_none (zQ I q (by simp))
  | bl j => cases ry; exact PySem.EqMixed.ne_str_bool (zQ I q (by simp))
  | int j => obtain ⟨t', rfl⟩ := ry; exact PySem.EqMixed.ne_str_int (zQ I q (by simp))
  | str j => obtain ⟨t', rfl⟩ := ry; exact ne_str (zQ I q (congrArg not dec_str))
  | _ => exact absurd (show false = true from hs) Bool.false_ne_true
 | byt i =>
  obtain ⟨t, rfl⟩ := rx
  cases y with
  | byt j => obtain ⟨t', rfl⟩ := ry; exact PySem.W.ne_bytes (zQ I q (congrArg not dec_byt))
  | _ => exact absurd (show false = true from hs) Bool.false_ne_true
 | _ => cases y <;> exact absurd (show false = true from hs) Bool.false_ne_true

theorem op_lt : OpR X (compareOp .Lt) (rI0 fun i j => .bl (decide (i < j))) := opB0 fun _ _ _ _ _ _ _ q => lt_int q
theorem op_le : OpR X (compareOp .LtE) (rI0 fun i j => .bl (decide (i ≤ j))) := opB0 fun _ _ _ _ _ _ _ q => le_int q
theorem op_gt : OpR X (compareOp .Gt) (rI0 fun i j => .bl (decide (j < i))) := opB0 fun _ _ _ _ _ _ _ q => gt_int q
theorem op_ge : OpR X (compareOp .GtE) (rI0 fun i j => .bl (decide (j ≤ i))) := opB0 fun _ _ _ _ _ _ _ q => ge_int q
theorem op_isN : OpR X (compareOp .Is) (fun x y H Q => y = .non ∧ Q (.bl (decide (x = .non))) H) := by
 intro pins s σ H x y v u Q I rx ry h
 obtain ⟨rfl, q⟩ := h
 cases ry
 refine is_none_gen (zQ I q ?_)
 cases x <;> first
  | (cases rx; rfl)
  | (obtain ⟨t, rfl⟩ := rx; rfl)
theorem xE (b : Expr) {op : CmpOp} (h : op ≠ .In := by decide) (h2 : op ≠ .NotIn := by decide) : behindInMarks op b = false := by
 have e1 : (op == CmpOp.In) = false := by cases op <;> first | rfl | exact absurd rfl h
 have e2 : (op == CmpOp.NotIn) = false := by cases op <;> first | rfl | exact absurd rfl h2
 cases b <;> simp [behindInMarks, e1, e2]
theorem jC {op : CmpOp} {r : R2} (ho : OpR X (compareOp op) r) (ha : PE X a ta) (hb : PE X b tb) (hm : behindInMarks op b = false) : PE X (.Compare a [op] [b] pos) (tOp r ta tb) := by
 intro pins s σ H Q I h
 exact wpAny_Compare1 (binT ha hb I h fun v u s2 x y H2 I2 rx ry q => ho pins s2 σ H2 x y v u Q I2 rx ry q) hm
noncomputable def tTest (t : TE) : TT := fun σ H Q => t σ H fun x H' => ∃ k, x = .bl k ∧ Q k H'
theorem qS {op : CmpOp} {r : R2} (ho : OpR X (compareOp op) r) (ha : PE X a ta) (hb : PE X b tb) (hm : behindInMarks op b = false) : PT X (.Compare a [op] [b] pos) (tTest (tOp r ta tb)) := by
 intro pins s σ H Q I h
 refine wpAny_isTrue_Compare1 (thn (ha pins s σ H _ I h) fun v s1 ⟨x, H1, I1, r1, q1⟩ => thn (hb pins s1 σ H1 _ I1 q1) fun u s2 ⟨y, H2, I2, r2, q2⟩ =>
  thn (ho pins s2 σ H2 x y v u _ I2 r1 r2 q2) fun c s3 ⟨z, H3, I3, r3, k, e, q3⟩ => ?_) hm
 subst e
 cases r3
 exact wpAny_truthy_bool ⟨H3, I3, q3⟩
noncomputable def tChain (r r' : R2) (ta tb tc : TE) : TE := fun σ H Q => ta σ H fun x H1 => tb σ H1 fun y H2 => r x y H2 fun z H3 => ∃ k, z = .bl k ∧
 (if k = true then tc σ H3 fun w' H4 => r' y w' H4 Q else Q (.bl false) H3)
theorem pt_chain {op op' : CmpOp} {r r' : R2} (ho : OpR X (compareOp op) r) (ho' : OpR X (compareOp op') r') (ha : PE X a ta) (hb : PE X b tb) (hc : PE X c tc)
  (hm : lastMarks [op, op'] [b, c] = false := by with_unfolding_all rfl) : PT X (.Compare a [op, op'] [b, c] pos) (tTest (tChain r r' ta tb tc)) := by
 intro pins s σ H Q I h
 refine isTrue_chain (thn (ha pins s σ H _ I h) fun v s1 ⟨x, H1, I1, r1, q1⟩ => test_link (thn (hb pins s1 σ H1 _ I1 q1) fun u s2 ⟨y, H2, I2, r2, q2⟩ =>
  thn (ho pins s2 σ H2 x y v u _ I2 r1 r2 q2) fun d s3 ⟨z, H3, I3, r3, k, e, q3⟩ => ?_)) hm
 subst e
 cases r3
 refine wpAny_truthy_bool ?_
 cases k with
 | false =>
  obtain ⟨k', e', q'⟩ := q3
  cases e'
  exact ite_ff ⟨H3, I3, q'⟩
 | true =>
  refine ite_tt (test_last (thn (hc pins s3 σ H3 _ I3 q3) fun w' s4 ⟨z', H4, I4, r4, q4⟩ => thn (ho' pins s4 σ H4 y z' u w' _ I4 r2 r4 q4) fun d' s5 ⟨z2, H5, I5, r5, k2, e2, q5⟩ => ?_))
  subst e2
  cases r5
  exact wpAny_truthy_bool ⟨H5, I5, q5⟩

theorem line63 : (sizeLine : Nat) < 2 ^ 63 := by rw [sizeLine_eq]; decide
theorem wD : OpR X (binaryOp .Add) (fun x y H Q => ∃ i j, x = .str i ∧ y = .str j ∧ i.length + j.length ≤ sizeLine ∧ Q (.str (i ++ j)) H) := by
 intro pins s σ H x y v u Q I rx ry h
 obtain ⟨i, j, rfl, rfl, hz, q⟩ := h
 obtain ⟨t, rfl⟩ := rx
 obtain ⟨t', rfl⟩ := ry
 exact add_str (fun t' tk => ⟨.str (i ++ j), H, I.tok _, ⟨_, rfl⟩, q⟩) hz
theorem vals1 {x : V} {us : List Value} (r : Vals [x] us) : ∃ u, us = [u] ∧ RelV x u := by
 cases r with
 | cons r1 r2 => cases r2; exact ⟨_, rfl, r1⟩
theorem vals2 {x y : V} {us : List Value} (r : Vals [x, y] us) : ∃ u w', us = [u, w'] ∧ RelV x u ∧ RelV y w' := by
 cases r with
 | cons r1 r2 =>
  cases r2 with
  | cons r3 r4 => cases r4; exact ⟨_, _, rfl, r1, r3⟩
theorem call_min2 (hc : X.calm = true) : CallR X (.builtin "min") (fun xs H Q => ∃ i j, xs = [.int i, .int j] ∧ Q (.int (if j < i then j else i)) H) := by
 intro pins s σ H xs us Q I r h
 obtain ⟨i, j, rfl, q⟩ := h
 obtain ⟨u, w', rfl, ⟨t, rfl⟩, ⟨t', rfl⟩⟩ := vals2 r
 refine min_two_ints (I.ok.hd hc) fun h' tk k => ⟨_, H, I.kept k, ?_, q⟩
 by_cases hj : j < i
 ·rw [if_pos hj, if_pos hj]; exact ⟨_, rfl⟩
 ·rw [if_neg hj, if_neg hj]; exact ⟨_, rfl⟩
theorem jA : CallR X (.type "int") (fun xs H Q => (∃ i, xs = [.int i] ∧ Q (.int i) H) ∨ ∃ k, xs = [.bl k] ∧ Q (.int (if k then 1 else 0)) H) := by
 intro pins s σ H xs us Q I r h
 rcases h with ⟨i, rfl, q⟩ | ⟨k, rfl, q⟩
 ·obtain ⟨u, rfl, t, rfl⟩ := vals1 r
  exact call_int_int ⟨.int i, H, I, ⟨_, rfl⟩, q⟩
 ·obtain ⟨u, rfl, r1⟩ := vals1 r
  cases r1
  exact call_int_bool ⟨.int (if k then 1 else 0), H, I.tok _, ⟨_, rfl⟩, q⟩
end
end L2

namespace L2
open PySem PySem.Spec PyProof.Rows

structure ObjM (h : Heap) (x dx C : Addr) (mA : Str → Option Value) : Prop where
 obj : h.get? x = some (PySem.W.instObj C dx)
 ns : h.Ns1 dx mA
 ne : dx ≠ x

theorem lookIn_ns {h : Heap} {dx : Addr} {mA : Str → Option Value} (n : h.Ns1 dx mA) : ∃ od, h.get? dx = some od ∧ ∀ name, PySem.W.lookIn name od = some (mA name) := by
 obtain ⟨o, es, ep, ho, hd, hk, _, hm⟩ := n
 refine ⟨o, ho, fun name => ?_⟩
 have e := hm name
 unfold nsFind findBy at e
 rw [← Array.find?_toList] at e
 unfold PySem.W.lookIn
 rw [hd]
 dsimp only
 split
 ·rename_i y q
  rw [q] at e
  exact congrArg some e
 ·rename_i q
  rw [q] at e
  have a : es.toList.any (·.refKey) = false := by
   rw [List.any_eq_false]
   intro y hy
   obtain ⟨z, t, hkey⟩ := hk y (Array.mem_toList_iff.mp hy)
   simp [DictEntry.refKey, hkey]
  have a' : ¬ es.toList.any (·.refKey) = true := by rw [a]; exact Bool.false_ne_true
  rw [if_neg a']
  exact congrArg some e

theorem ObjM.look {h : Heap} {x dx C : Addr} {mA : Str → Option Value} (I : ObjM h x dx C mA) : ∃ od, PySem.W.InstAt h x (PySem.W.instObj C dx) C (some od) ∧ ∀ name, PySem.W.lookIn name od = some (mA name) :=
 let ⟨od, ho, hl⟩ := lookIn_ns I.ns
 ⟨od, ⟨I.obj, rfl, rfl, ho⟩, hl⟩

section
variable {prog : Program} {w : World} {A : Around} {E : Value → Shared → Prop} {s : Shared} {K : PySem.W.Frag} {x dx C f : Addr} {mA : Str → Option Value} {name : Str} {v : Value}

end

section
variable {P : Program} {w : World} {H H' : Hp} {h h' : Heap} {a C dx : Addr} {fs fs' : List (Str × V)}
theorem ins_get (hok : HOk P w H h) (e : H a = some (.ins C dx fs)) : ∃ mA, ObjM h a dx C mA ∧ (∀ f, RelO (fs.lookup f) (mA f)) ∧ PySem.Within mA (fs.map (·.1)) ∧ fs.length ≤ 1000 ∧ H dx = some (.own a) := by
 obtain ⟨d, z, ne, ob, mA, n, r, q⟩ := (show ObjOk P w H h a (.ins C dx fs) from hok a _ e)
 exact ⟨mA, ⟨ob, n, ne⟩, r, q, z, d⟩
end

structure Cls (K : PySem.W.Frag) (C : Addr) : Prop where
 pg : PySem.W.plainGet K C Str.empty = true
 hd : PySem.W.hasDictIn K C = true
 po : PySem.W.plainOver K C = true
 sa : PySem.W.findIn K (.ref C) "__setattr__" = some (some (.builtin "object.__setattr__"))
theorem Cls.get {K : PySem.W.Frag} {C : Addr} (c : Cls K C) (f : Str) : PySem.W.plainGet K C f = true := c.pg
section
variable {X : Cx} {pins : List (Addr × Obj)} {σ : St} {H : Hp} {s : Shared} {a C dx : Addr} {fs : List (Str × V)} {f : Str} {v : V} {A : Around} {E : Value → Shared → Prop}

end

section
variable {X : Cx} {o e value : Expr} {f : Str} {pos pos' tpos : Pos} {ta tv : TE}
end

section
variable {X : Cx} {pins : List (Addr × Obj)} {σ : St} {H : Hp} {s : Shared} {A : Around} {E : Value → Shared → Prop} {Q : Value → Shared → Prop} {c : Value} {b : Bool}
inductive TyOf (K : PySem.W.Frag) (H : Hp) : V → Value → Prop where
 | non : TyOf K H .non (.type "NoneType")
 | bl (x : Bool) : TyOf K H (.bl x) (.type "bool")
 | int (i : Int) : TyOf K H (.int i) (.type "int")
 | str (x : Str) : TyOf K H (.str x) (.type "str")
 | flt (x : UInt64) : TyOf K H (.flt x) (.type "float")
 | lst {a : Addr} {xs : List V} (e : H a = some (.lst xs)) : TyOf K H (.ref a) (.type "list")
 | frz {a : Addr} {o : Obj} {xs : List V} (e : H a = some (.frz o (.lst xs))) : TyOf K H (.ref a) (.type "list")
 | tup {a : Addr} {xs : List V} (e : H a = some (.tup xs)) : TyOf K H (.ref a) (.type "tuple")
 | dK {a : Addr} {kvs : List (Key × V)} (e : H a = some (.dK kvs)) : TyOf K H (.ref a) (.type "dict")
 | dT {a : Addr} {kvs : List (List Key × V)} (e : H a = some (.dT kvs)) : TyOf K H (.ref a) (.type "dict")
 | ins {a C dx : Addr} {fs : List (Str × V)} (e : H a = some (.ins C dx fs)) (cl : Cls K C) (ha : PySem.W.findIn K (.ref C) "__class__" = some (some (.builtin "object.__class__")))
   (hn : PySem.W.specialIn K (.builtin "object.__class__") "__get__" = some (some (.builtin "getset_descriptor.__get__"))) (htk : PySem.W.takesIn K (.builtin "object.__class__") = some true)
   (hm : PySem.W.mroIn K C (.type "object") = some true) : TyOf K H (.ref a) (.ref C)
theorem isinst_ok {x : V} {u t : Value} (I : Inv X pins σ H s) (rx : RelV x u) (ty : TyOf X.K H x t) (e : PySem.W.kitOne X.K t c = some b) (h : ∀ tk, Q (.bool b) { s with toks := tk }) :
  wpAny (model X.prog X.w) A (call (.builtin "isinstance") [u, c]) Q E s := by
 cases ty with
 | non => cases (show u = Value.none from rx); exact PySem.W.kia_one PySem.W.kitx_none I.kIn True.intro e (fun z => nomatch z) h
 | bl y => cases (show u = Value.bool y from rx); exact PySem.W.kia_one PySem.W.kitx_bool I.kIn True.intro e (fun z => nomatch z) h
 | int i => obtain ⟨t, q⟩ := (show ∃ t, u = Value.int i t from rx); cases q; exact PySem.W.kia_one PySem.W.kitx_int I.kIn True.intro e (fun z => nomatch z) h
 | str y => obtain ⟨t, q⟩ := (show ∃ t, u = Value.str y t from rx); cases q; exact PySem.W.kia_one PySem.W.kitx_str I.kIn True.intro e (fun z => nomatch z) h
 | flt y => obtain ⟨t, q⟩ := (show ∃ t, u = Value.float y t from rx); cases q; exact PySem.W.kia_one PySem.W.kitx_float I.kIn True.intro e (fun z => nomatch z) h
 | @lst a xs ea =>
  cases (show u = Value.ref a from rx)
  obtain ⟨_, _, n, _, h1⟩ := (show ObjOk X.prog X.w H s.heap a (.lst xs) from I.hok a _ ea)
  exact PySem.W.kia_one PySem.W.kitx_list I.kIn ⟨_, h1, rfl⟩ e (fun z => nomatch z) h
 | @frz a ob xs ea =>
  cases (show u = Value.ref a from rx)
  obtain ⟨_, _, _, n, _, h1⟩ := (show ObjOk X.prog X.w H s.heap a (.frz ob (.lst xs)) from I.hok a _ ea)
  exact PySem.W.kia_one PySem.W.kitx_list I.kIn ⟨_, h1, rfl⟩ e (fun z => nomatch z) h
 | @tup a xs ea =>
  cases (show u = Value.ref a from rx)
  obtain ⟨_, _, _, p⟩ := (show ObjOk X.prog X.w H s.heap a (.tup xs) from I.hok a _ ea)
  obtain ⟨o, h1, h2, _⟩ := p
  exact PySem.W.kia_one PySem.W.kitx_tuple I.kIn ⟨o, h1, h2⟩ e (fun z => nomatch z) h
 | @dK a kvs ea =>
  cases (show u = Value.ref a from rx)
  obtain ⟨_, _, vs, _, p⟩ := (show ObjOk X.prog X.w H s.heap a (.dK kvs) from I.hok a _ ea)
  obtain ⟨o, es, ep, h1, h2, _⟩ := p
  exact PySem.W.kia_one PySem.W.kitx_dict I.kIn ⟨o, h1, h2.1⟩ e (fun z => nomatch z) h
 | @dT a kvs ea =>
  cases (show u = Value.ref a from rx)
  obtain ⟨_, _, xs, _, o, es, ep, h1, h2, _⟩ := (show ObjOk X.prog X.w H s.heap a (.dT kvs) from I.hok a _ ea)
  exact PySem.W.kia_one PySem.W.kitx_dict I.kIn ⟨o, h1, h2.1⟩ e (fun z => nomatch z) h
 | @ins a C dx fs ea cl ha hn htk hm =>
  cases (show u = Value.ref a from rx)
  obtain ⟨mA, O, _⟩ := ins_get I.hok ea
  obtain ⟨od, J, _⟩ := O.look
  exact PySem.W.kia_one (PySem.W.kitx_own (cl.get _) cl.hd ha hn htk hm) I.kIn J e (fun z => nomatch z) h
end
end L2

namespace L2
open PySem PySem.Spec PyProof.Rows

structure Room (k : Nat) (A : Around) : Prop where
 hd : A.handled = none
 dp : A.depth + 3 * k + 5 < recursionLimit
 un : A.units + 16 * k + 200 < cLine
theorem Room.mono {j k : Nat} {A : Around} (r : Room k A) (h : j ≤ k) : Room j A := ⟨r.hd, by have := r.dp; omega, by have := r.un; omega⟩
theorem Room.deeper {k : Nat} {A : Around} (r : Room (k + 1) A) (env : Env) : Room k (A.deeper env) :=
 ⟨r.hd, by have := r.dp; show A.depth + 1 + 3 * k + 5 < _; omega, by have := r.un; show A.units + 3 + 16 * k + 200 < _; omega⟩
theorem Room.depth {k : Nat} {A : Around} (r : Room k A) : A.depth < recursionLimit := by have := r.dp; omega
theorem Room.units {k : Nat} {A : Around} (r : Room k A) : A.units + 64 < cLine := by have := r.un; omega
noncomputable def tNil : TA := fun _ H Q => Q [] H
noncomputable def tCons (ta : TE) (tr : TA) : TA := fun σ H Q => ta σ H fun x H1 => tr σ H1 fun xs H2 => Q (x :: xs) H2
section
variable {X : Cx} {e : Expr} {es : List Expr} {te : TE} {t : TA} {pos : Pos}
theorem qX : PA X [] tNil := fun _ _ _ _ H Q I h => Calls.spliced_nil ⟨[], H, I, .nil, h⟩
theorem qQ (ha : PE X e te) (hr : PA X es t) (hs : starEach (e :: es) X.env = (false, eval e X.env) :: starEach es X.env := by rfl) : PA X (e :: es) (tCons te t) := by
 intro pos pins s σ H Q I h
 rw [hs]
 show wpAny _ _ (spliced ((false, eval e X.env) :: backTo pos (starEach es X.env))) _ _ s
 refine Calls.spliced_cons (thn (ha pins s σ H _ I h) fun u s1 ⟨x, H1, I1, r1, q1⟩ => ?_)
 exact thn (hr pos pins s1 σ H1 _ I1 q1) fun us s2 ⟨xs, H2, I2, r2, q2⟩ => ⟨x :: xs, H2, I2, .cons r1 r2, q2⟩

noncomputable def tTup (t : TA) : TE := fun σ H Q => t σ H fun xs H1 => xs.length ≤ sizeLine ∧ ∀ p, H1 p = none → Q (.ref p) (upd H1 p (.tup xs))
noncomputable def tLst (t : TA) : TE := fun σ H Q => t σ H fun xs H1 => xs.length ≤ sizeLine ∧ ∀ p, H1 p = none → Q (.ref p) (upd H1 p (.lst xs))
theorem xN {x1} (h : PA X es t) : PE X (.Tuple es x1 pos) (tTup t) := by
 intro pins s σ H Q I hq
 refine wpAny_Tuple_spliced (thn (h pos pins s σ H _ I hq) fun us s1 ⟨xs, H1, I1, r, z, q⟩ => ⟨by rw [← r.length]; exact z, ?_⟩)
 have hf : H1 s1.heap.objs.size = none := I1.hok.fresh (Nat.le_refl _)
 refine ⟨.ref s1.heap.objs.size, upd H1 s1.heap.objs.size (.tup xs), I1.laid (t' := s1.toks) (fun b u e => Heap.get?_push_of_some _ e) (Nat.le_refl _) ?_, rfl, q _ hf⟩
 exact ⟨z, us, r, ⟨_, Heap.get?_push_size _ rfl, rfl, _, rfl, rfl⟩⟩
theorem xP (h : PA X es t) : PE X (.List es pos) (tLst t) := by
 intro pins s σ H Q I hq
 refine wpAny_List_spliced (thn (h pos pins s σ H _ I hq) fun us s1 ⟨xs, H1, I1, r, z, q⟩ => ⟨by rw [← r.length]; exact z, ?_⟩)
 have hf : H1 s1.heap.objs.size = none := I1.hok.fresh (Nat.le_refl _)
 refine ⟨.ref s1.heap.objs.size, upd H1 s1.heap.objs.size (.lst xs), I1.laid (t' := s1.toks) (fun b u e => Heap.get?_push_of_some _ e) (Nat.le_refl _) ?_, rfl, q _ hf⟩
 exact ⟨z, us, 0, r, Heap.get?_push_size _ rfl⟩
end

noncomputable abbrev Sp := List V → Hp → VK → XK → Prop
noncomputable abbrev CXT := List Env → Hp → Shared → XK → Value → Shared → Prop

structure Env0 (P : Program) (w : World) (K : PySem.W.Frag) (mg : Str → Option Value) (base : Heap) (A : Around) (outer : List Env) (s : Shared) (H : Hp) : Prop where
 frames : A.frames = some outer
 mod : Mod K mg base
 bs : ∀ b o, base.get? b = some o → s.heap.get? b = some o ∧ H b = none
 bsz : base.objs.size ≤ s.heap.objs.size
 funs : s.heap.FunFrames base outer
 frf : ∀ b ∈ frs outer, H b = none
 hok : HOk P w H s.heap
 bare : AllBare s.gens
noncomputable def CE (outer : List Env) (P : Program) (w : World) (H : Hp) (s : Shared) (Q : VK) (u : Value) (s' : Shared) : Prop :=
 ∃ v H', s'.os = s.os ∧ AllBare s'.gens ∧ Un (frs outer) [] H H' s.heap s'.heap ∧ HOk P w H' s'.heap ∧ RelV v u ∧ Q v H'
noncomputable def CR (CX : CXT) (outer : List Env) (P : Program) (w : World) (H : Hp) (s : Shared) (Q : VK) (E : XK) (r : Result) (s' : Shared) : Prop :=
 match r with
 | .ok (.ret u) => CE outer P w H s Q u s'
 | .ok _ => False
 | .error e => CX outer H s E e s'
structure FnOk (P : Program) (w : World) (K : PySem.W.Frag) (mg : Str → Option Value) (base : Heap) (CX : CXT) (k : Nat) (f : Addr) (fd : FuncData) (ps : List Str) (sp : Sp) : Prop where
 len : ∀ vs H Q E, sp vs H Q E → vs.length = ps.length
 run : ∀ (A : Around) (outer : List Env) (s : Shared) (H : Hp) (args : Args) (us : List Value) (vs : List V) (Q : VK) (E : XK), Room k A → Env0 P w K mg base A outer s H → BindsTo s fd args (ps.zip us) → Vals vs us → sp vs H Q E →
  codeAny (model P w) A (.call (.ref f) args) (CR CX outer P w H s Q E) s
theorem FnOk.mono {P : Program} {w : World} {K : PySem.W.Frag} {mg : Str → Option Value} {base : Heap} {CX : CXT} {j k : Nat} {f : Addr} {fd : FuncData} {ps : List Str} {sp : Sp} (F : FnOk P w K mg base CX j f fd ps sp) (h : j ≤ k) :
  FnOk P w K mg base CX k f fd ps sp := ⟨F.len, fun A outer s H args us vs Q E hr => F.run A outer s H args us vs Q E (hr.mono h)⟩
section
variable {X : Cx} {pins : List (Addr × Obj)} {σ : St} {H : Hp} {s s' : Shared}
theorem Inv.env0 (I : Inv X pins σ H s) : Env0 X.prog X.w X.K X.mg X.base X.A X.stack s H :=
 ⟨I.ok.frames, I.ok.mod, I.bs, Nat.le_trans I.ok.bsz I.sz, I.stack, I.stkFree, I.hok, I.bare⟩
theorem Inv.after {Q : VK} {u : Value} (I : Inv X pins σ H s) (h : CE X.stack X.prog X.w H s Q u s') : EP X pins σ Q u s' := by
 obtain ⟨v, H', os, bare, un, hok, r, q⟩ := h
 obtain ⟨hh, g, d, t, os'⟩ := s'
 obtain rfl : os' = s.os := os
 exact ⟨v, H', I.call (h' := hh) (g' := g) (d' := d) (t' := t) (ch := []) un hok bare (fun b z => absurd z (by simp)), r, q⟩
end

noncomputable def tCall (sp : Sp) (dvs : List V) (E : XK) (t : TA) : TE := fun σ H Q => t σ H fun vs H1 => sp (vs ++ dvs) H1 Q E
noncomputable def Binds (K : PySem.W.Frag) (fd : FuncData) (ps : List Str) (ds : List Value) : Prop :=
 ∀ (s : Shared) (us : List Value), K.In s.heap → (us ++ ds).length = ps.length → BindsTo s fd ⟨us, []⟩ (ps.zip (us ++ ds))
theorem Binds.all {K : PySem.W.Frag} {fd : FuncData} {ps : List Str} (h : ∀ us : List Value, us.length = ps.length → bindArgs fd ⟨us, []⟩ = pure (ps.zip us)) : Binds K fd ps [] := fun s us _ hl => by
 rw [List.append_nil] at hl ⊢
 exact .of_eq (h us hl)

noncomputable def Passes (CX : CXT) (X : Cx) (E : XK) : Prop := ∀ (pins : List (Addr × Obj)) (σ : St) (H : Hp) (s : Shared) (e : Value) (s' : Shared), Inv X pins σ H s → CX X.stack H s E e s' → X.xe e s'

section
variable {X : Cx} {CX : CXT} {k : Nat} {f C : Addr} {fd : FuncData} {ps : List Str} {sp : Sp} {dvs : List V} {ds : List Value} {E : XK} {x m : Str} {p pos apos : Pos} {e o : Expr} {es : List Expr} {ta : TE} {t : TA}

theorem run_fn {pins : List (Addr × Obj)} {σ : St} {H : Hp} {s : Shared} {Q : VK} {us : List Value} {vs : List V} (F : FnOk X.prog X.w X.K X.mg X.base CX k f fd ps sp) (hr : Room k X.A) (hb : Binds X.K fd ps ds) (hd : Vals dvs ds) (hx : Passes CX X E)
  (I : Inv X pins σ H s) (r : Vals vs us) (h : sp (vs ++ dvs) H Q E) : wpAny (model X.prog X.w) X.A (call (.ref f) us) (EP X pins σ Q) X.xe s := by
 have r2 : Vals (vs ++ dvs) (us ++ ds) := r.append hd
 have hl : (us ++ ds).length = ps.length := by rw [← r2.length]; exact F.len _ _ _ _ h
 refine wpAny_call (codeAny_mono (F.run X.A X.stack s H ⟨us, []⟩ (us ++ ds) (vs ++ dvs) Q E hr I.env0 (hb s us I.kIn hl) r2 h) fun r s' hq => ?_)
 cases r with
 | error e => exact hx pins σ H s e s' I hq
 | ok fl =>
  cases fl with
  | ret u => exact I.after hq
  | next => exact False.elim hq
  | brk => exact False.elim hq
  | cont => exact False.elim hq

theorem pe_call (F : FnOk X.prog X.w X.K X.mg X.base CX k f fd ps sp) (hr : Room k X.A) (hg : Gl X x) (hm : X.mg x = some (.ref f)) (hk : PySem.W.keepIn X.K (.ref f) = true) (hb : Binds X.K fd ps ds) (hd : Vals dvs ds) (hx : Passes CX X E)
  (ha : PA X (e :: es) t) (hdb : (x == ("__debug__" : Str)) = false := by decide) (he : starEach (e :: es) X.env = (false, eval e X.env) :: starEach es X.env := by rfl) (hpl : (backTo pos (starEach es X.env)).any (·.1) = false := by rfl) :
  PE X (.Call (.Name x p) (e :: es) [] pos) (tCall sp dvs E t) := by
 intro pins s σ H Q I h
 refine wpAny_Call_Name_kw (vB I hg hm ?_ hdb)
 refine PySem.W.callWith_K (h₀ := X.base) I.ok.mod.kin hk (thn (ha pos pins s σ H _ I h) fun us s1 ⟨vs, H1, I1, r, q⟩ => ⟨I1.kIn, ?_⟩) he hpl
 exact run_fn F hr hb hd hx I1 r q
end

section
variable {X : Cx} {CX : CXT} {k : Nat} {f C : Addr} {fd : FuncData} {ps ks : List Str} {sp : Sp} {E : XK} {x m : Str} {p pos apos kpos : Pos} {e o : Expr} {es : List Expr} {kws : List Keyword} {te ta : TE} {t tk : TA} {nm : Option Str}
variable {g : List Value → List Value → List Value} {gV : List V → List V → List V}
end

structure FnScope (N P : List Str) (sc : Scope) : Prop where
 kind : sc.kind = .function
 co : sc.isCoroutine = false
 gen : sc.isGenerator = false
 nd : N.Nodup
 pre : N.take P.length = P
 par : ∀ x ∈ P, sc.names.lookup x = some .local ∨ sc.names.lookup x = some .cell
 nofree : ∀ y ∈ sc.names, y.2 ≠ .free

theorem bindL_out {kindOf : Str → Option NameKind} {x : Str} : ∀ {binds : List (Str × Value)} {m : Str → Option Value}, (∀ v, (x, v) ∉ binds) → bindL kindOf binds m x = m x
 | [], _, _ => rfl
 | (n, v) :: r, m, h => by
  unfold bindL
  rw [bindL_out fun w hw => h w (List.mem_cons_of_mem _ hw)]
  split
  ·have : x ≠ n := by rintro rfl; exact h v List.mem_cons_self
   simp [this]
  ·rfl
theorem bindC_out {kindOf : Str → Option NameKind} {x : Str} : ∀ {binds : List (Str × Value)} {m : Str → Option Value}, (∀ v, (x, v) ∉ binds) → bindC kindOf binds m x = m x
 | [], _, _ => rfl
 | (n, v) :: r, m, h => by
  unfold bindC
  rw [bindC_out fun w hw => h w (List.mem_cons_of_mem _ hw)]
  split
  ·rfl
  ·have : x ≠ n := by rintro rfl; exact h v List.mem_cons_self
   simp [this]
theorem bindL_get {kindOf : Str → Option NameKind} {x : Str} {v : Value} : ∀ {P : List Str} {vs : List Value} {i : Nat} {m : Str → Option Value}, P.Nodup → P[i]? = some x → vs[i]? = some v → kindOf x = some .local →
  bindL kindOf (P.zip vs) m x = some v
 | [], _, _, _, _, h, _, _ => by simp at h
 | _ :: _, [], _, _, _, _, h, _ => by simp at h
 | p :: P, w :: vs, 0, m, nd, h1, h2, hk => by
  simp at h1 h2; subst h1; subst h2
  show bindL kindOf ((p, w) :: P.zip vs) m p = _
  unfold bindL
  rw [bindL_out fun v hv => (List.nodup_cons.mp nd).1 (List.of_mem_zip hv).1, if_pos hk]
  simp
 | p :: P, w :: vs, i + 1, m, nd, h1, h2, hk => by
  show bindL kindOf ((p, w) :: P.zip vs) m x = _
  unfold bindL
  exact bindL_get (i := i) (List.nodup_cons.mp nd).2 (by simpa using h1) (by simpa using h2) hk
theorem bindC_get {kindOf : Str → Option NameKind} {x : Str} {v : Value} : ∀ {P : List Str} {vs : List Value} {i : Nat} {m : Str → Option Value}, P.Nodup → P[i]? = some x → vs[i]? = some v → kindOf x ≠ some .local →
  bindC kindOf (P.zip vs) m x = some v
 | [], _, _, _, _, h, _, _ => by simp at h
 | _ :: _, [], _, _, _, _, h, _ => by simp at h
 | p :: P, w :: vs, 0, m, nd, h1, h2, hk => by
  simp at h1 h2; subst h1; subst h2
  show bindC kindOf ((p, w) :: P.zip vs) m p = _
  unfold bindC
  rw [bindC_out fun v hv => (List.nodup_cons.mp nd).1 (List.of_mem_zip hv).1, if_neg hk]
  simp
 | p :: P, w :: vs, i + 1, m, nd, h1, h2, hk => by
  show bindC kindOf ((p, w) :: P.zip vs) m x = _
  unfold bindC
  exact bindC_get (i := i) (List.nodup_cons.mp nd).2 (by simpa using h1) (by simpa using h2) hk

noncomputable def start (N : List Str) (vs : List V) : St := vs.map some ++ List.replicate (N.length - vs.length) none

noncomputable def cxOf (CX : CXT) (P : Program) (w : World) (K : PySem.W.Frag) (mg : Str → Option Value) (base : Heap) (N : List Str) (qual : Str) (scope : Scope) (f : Addr) (cd : Value) (A : Around) (outer : List Env) (s : Shared) (H : Hp) (E : XK) : Cx where
 prog := P
 w := w
 K := K
 mg := mg
 base := base
 A := A.deeper (envOfC qual scope s.heap.objs.size f cd)
 N := N
 s₀ := s
 H₀ := H
 env := envOfC qual scope s.heap.objs.size f cd
 outer := outer
 stack := envOfC qual scope s.heap.objs.size f cd :: outer
 ex := []
 calm := true
 fn := fun _ => true
 pn := []
 xe := fun e s' => wpAny (model P w) (A.deeper (envOfC qual scope s.heap.objs.size f cd)) (leaving (envOfC qual scope s.heap.objs.size f cd) e) (fun _ s'' => CX outer H s E e s'') (fun e' s'' => CX outer H s E e' s'') s'

theorem cell_has {sc : Scope} {n : Nat} {x : Str} (h : sc.names.lookup x = some .cell) : ∃ c, (cellsFrom n sc.names []).lookup x = some c := by
 have q := PySem.W.cellsFrom_some sc.names n [] (.inl h)
 exact Option.isSome_iff_exists.mp q

theorem inv_start {CX : CXT} {P : Program} {w : World} {K : PySem.W.Frag} {mg : Str → Option Value} {base : Heap} {N ps : List Str} {qual : Str} {scope : Scope} {f : Addr} {cd : Value} {A : Around} {outer : List Env} {s s1 : Shared} {H : Hp} {E : XK} {us : List Value} {vs : List V}
  (S : FnScope N ps scope) (hd : A.handled = none) (e0 : Env0 P w K mg base A outer s H) (hl : vs.length = ps.length) (r : Vals vs us)
  (x : InCallC s s.heap.objs.size (bindL (envOfC qual scope s.heap.objs.size f cd).kindOf (ps.zip us) fun _ => none) (cellsFrom (s.heap.objs.size + 1) scope.names []) (bindC (envOfC qual scope s.heap.objs.size f cd).kindOf (ps.zip us) fun _ => none) s1) :
  Inv (cxOf CX P w K mg base N qual scope f cd A outer s H E) [] (start N vs) H s1 := by
 have hpl : ps.length ≤ N.length := by have := congrArg List.length S.pre; rw [List.length_take] at this; omega
 obtain ⟨h1, tk, rfl, hk⟩ := x.done
 have noA : ∀ b : Addr, b ∉ (cxOf CX P w K mg base N qual scope f cd A outer s H E).ex := fun b z => absurd (show b ∈ ([] : List Addr) from z) (by simp)
 refine ⟨⟨e0.mod, S.kind, rfl, rfl, Nat.le_refl _, fun y z c h1 h2 => ?_, fun y hy => ?_, fun y c _ h => ?_, fun _ => hd, Around.frames_deeper e0.frames, .inr ⟨rfl, rfl⟩, fun b z => absurd z (noA b), e0.bs, e0.bsz, fun b _ _ => noA b, fun b z => absurd z (noA b), e0.funs, e0.frf⟩,
  rfl, e0.bare, Un.kept hk, ⟨_, x.toInCall.ns, fun i y v h1 h2 h3 => ?_⟩, fun y c h => ⟨_, x.cell y c h⟩, e0.hok.fresh (Nat.le_refl _), fun y c h => ?_, fun p hp => absurd (show p ∈ ([] : List (Addr × Obj)) from hp) (by simp), e0.hok.kept hk, ?_⟩
 ·exact name_of_addr x.apart (PySem.mem_of_lookup h1) (PySem.mem_of_lookup h2)
 ·have hy : scope.names.lookup y = some .cell ∨ scope.names.lookup y = some .free := hy
  rcases hy with hy | hy
  ·exact cell_has hy
  ·exact absurd rfl (S.nofree _ (PySem.mem_of_lookup hy))
 ·exact Nat.le_of_lt (x.above y c (PySem.mem_of_lookup h))
 ·have hi : i < vs.length := by
   unfold start at h2
   by_cases hi : i < vs.length
   ·exact hi
   ·rw [List.getElem?_append_right (by simpa using hi)] at h2
    rw [List.getElem?_replicate] at h2
    split at h2 <;> cases h2
  have ha : vs[i]? = some v := by
   unfold start at h2
   rw [List.getElem?_append_left (by simpa using hi), List.getElem?_map] at h2
   cases e : vs[i]? with
   | none => rw [e] at h2; cases h2
   | some a => rw [e] at h2; cases h2; rfl
  obtain ⟨u, hu, rv⟩ := r.get ha
  have hp : ps[i]? = some y := by
   rw [← S.pre, List.getElem?_take_of_lt (by omega)]; exact h1
  have ndP : ps.Nodup := by rw [← S.pre]; exact S.nd.sublist (List.take_sublist _ _)
  refine ⟨u, rv, ?_⟩
  rcases S.par y (List.mem_of_getElem? hp) with k | k
  ·exact .inl ⟨k, bindL_get ndP hp hu k⟩
  ·obtain ⟨c, e⟩ := cell_has (n := s.heap.objs.size + 1) k
   refine .inr ⟨.inl k, c, e, ?_⟩
   have q := x.cell y c e
   rw [bindC_get ndP hp hu (by show scope.names.lookup y ≠ _; rw [k]; decide)] at q
   exact q
 ·exact e0.hok.fresh (Nat.le_of_lt (x.above y c (PySem.mem_of_lookup h)))
 ·unfold start
  show _ = N.length
  rw [List.length_append, List.length_map, List.length_replicate]
  omega

theorem fn_of {CX : CXT} {P : Program} {w : World} {K : PySem.W.Frag} {mg : Str → Option Value} {base : Heap} {k : Nat} {f : Addr} {name qual : Str} {params : Arguments} {body : List Stmt} {scope : Scope} {dV kV doc pm cdv ct oc : Value} {an od : Option Addr}
  {osl : Array (Option Value)} {N ps : List Str} {sp : Sp} (lk : K.lookup f = some ⟨oc, od, .func (PySem.W.fnOf name qual params body scope dV kV doc pm an cdv ct), osl⟩) (hcd : PySem.W.codeIn K cdv qual = true) (S : FnScope N ps scope)
  (len : ∀ vs H Q E, sp vs H Q E → vs.length = ps.length)
  (hbody : ∀ (A : Around) (outer : List Env) (s : Shared) (H : Hp) (vs : List V) (Q : VK) (E : XK), Room k (A.deeper (envOfC qual scope s.heap.objs.size f cdv)) → sp vs H Q E →
   ∃ t, PSs (cxOf CX P w K mg base N qual scope f cdv A outer s H E) body t ∧ t { nx := fun _ H' => Q .non H', rt := Q } (start N vs) H) :
  FnOk P w K mg base CX (k + 1) f (PySem.W.fnOf name qual params body scope dV kV doc pm an cdv ct) ps sp := by
 refine ⟨len, fun A outer s H args us vs Q E hr e0 hb r hsp => ?_⟩
 have hl := len _ _ _ _ hsp
 have KX : K.In s.heap := e0.mod.kin.keeps fun b o e => (e0.bs b o e).1
 have lim : s.heap.NoLimit := e0.mod.nolimit.keeps fun b o e => (e0.bs b o e).1
 have hkind : ∀ y ∈ ps.zip us, scope.names.lookup y.1 = some .local ∨ (scope.names.lookup y.1 = some .cell ∧ ((cellsFrom (s.heap.objs.size + 1) scope.names []).lookup y.1).isSome = true) := fun ⟨n, v⟩ hy => by
  rcases S.par n (List.of_mem_zip hy).1 with q | q
  ·exact .inl q
  ·exact .inr ⟨q, PySem.W.cellsFrom_some _ _ _ (.inl q)⟩
 refine codeAny_call_function hr.depth (KX _ _ lk) rfl S.co S.gen rfl (PySem.W.codeRec_of KX hcd) (hb _ _ _ _ ?_)
 refine wpAny_newFunctionEnv_cells S.kind hkind fun env he s1 x => ?_
 subst he
 refine ⟨lim.keeps x.toInCall.keep, codeAny_func ?_⟩
 obtain ⟨t, ht, hq⟩ := hbody A outer s H vs Q E (hr.deeper _) hsp
 have I : Inv (cxOf CX P w K mg base N qual scope f cdv A outer s H E) [] (start N vs) H s1 := inv_start S hr.hd e0 hl r x
 refine wpAny_mono (ht [] s1 (start N vs) H _ I hq) (fun fl s' hs => ?_) fun e s' hs => hs
 have fin : ∀ {σ' : St} {H' : Hp} {v : V} {u : Value}, Inv (cxOf CX P w K mg base N qual scope f cdv A outer s H E) [] σ' H' s' → RelV v u → Q v H' → CE outer P w H s Q u s' :=
  fun {σ' H' v u} J rv q => ⟨v, H', J.os, J.bare, J.base, J.hok, rv, q⟩
 cases fl with
 | ret u =>
  obtain ⟨v, σ', H', J, rv, q⟩ := hs
  exact fin J rv q
 | next =>
  obtain ⟨σ', H', J, q⟩ := hs
  exact fin (v := V.non) (u := Value.none) J rfl q
 | brk =>
  obtain ⟨_, _, _, q⟩ := hs
  exact False.elim q
 | cont =>
  obtain ⟨_, _, _, q⟩ := hs
  exact False.elim q
end L2

namespace L2
open PySem PySem.Spec PyProof.Rows
section
variable {X : Cx} {x : Str} {p pos : Pos} {e : Expr} {es : List Expr} {t : TA} {id T : String} {r : List V → Hp → VK → Prop}

noncomputable def tCB (r : List V → Hp → VK → Prop) (t : TA) : TE := fun σ H Q => t σ H fun vs H1 => r vs H1 Q
theorem xJ (hc : CallR X (.builtin id) r) (hg : Gl X x) (hm : X.mg x = none) (hv : bootBuiltins x = some (.builtin id)) (ha : PA X (e :: es) t) (hn : x ≠ "__name__" := by decide) (hdb : (x == ("__debug__" : Str)) = false := by decide)
  (he : starEach (e :: es) X.env = (false, eval e X.env) :: starEach es X.env := by rfl) (hpl : (backTo pos (starEach es X.env)).any (·.1) = false := by rfl) : PE X (.Call (.Name x p) (e :: es) [] pos) (tCB r t) := by
 intro pins s σ H Q I h
 refine wpAny_Call_Name_kw (ld_blt I hg hm hv ?_ hn hdb)
 exact PyProof.Rows.callWith_builtin1 (thn (ha pos pins s σ H _ I h) fun us s1 ⟨vs, H1, I1, r1, q1⟩ => hc pins s1 σ H1 vs us Q I1 r1 q1) he hpl
theorem xZ (hc : CallR X (.type T) r) (hg : Gl X x) (hm : X.mg x = none) (hv : bootBuiltins x = some (.type T)) (ha : PA X (e :: es) t) (hn : x ≠ "__name__" := by decide) (hdb : (x == ("__debug__" : Str)) = false := by decide)
  (he : starEach (e :: es) X.env = (false, eval e X.env) :: starEach es X.env := by rfl) (hpl : (backTo pos (starEach es X.env)).any (·.1) = false := by rfl) : PE X (.Call (.Name x p) (e :: es) [] pos) (tCB r t) := by
 intro pins s σ H Q I h
 refine wpAny_Call_Name_kw (ld_blt I hg hm hv ?_ hn hdb)
 exact PyProof.Rows.callWith_type1 (thn (ha pos pins s σ H _ I h) fun us s1 ⟨vs, H1, I1, r1, q1⟩ => hc pins s1 σ H1 vs us Q I1 r1 q1) he hpl
end
end L2

namespace HT
open PySem PyProof.Rows

section
open PySem.SeqAt
open PySem.AutoSeq1 (wpAny_loadPart')
open PySem.MeetsSeq PySem.MeetsSeq2 PySem.MeetsSeq3

end

section
variable {prog : Program} {w : World} {A : Around} {E : Value → Shared → Prop} {s : Shared}

theorem cat_tup {t b : Addr} {vs ws : List Value} {Q : Value → Shared → Prop} (ht : IsTup s.heap t vs.toArray) (hb : IsTup s.heap b ws.toArray) (hv : vs ≠ [])
  (h1 : ws = [] → Q (.ref t) s) (h2 : ws ≠ [] → Q (.ref s.heap.objs.size) { s with heap := s.heap.push { cls := .type "tuple", data := .seq (vs ++ ws).toArray } })
  (hsz : vs.length + ws.length ≤ sizeLine) : wpAny (model prog w) A (binaryOp .Add (.ref t) (.ref b)) Q E s := by
 obtain ⟨⟨cls, dd, data, sl⟩, ho, hc, n, hd⟩ := id ht
 obtain ⟨⟨cls2, dd2, data2, sl2⟩, ho2, hc2, n2, hd2⟩ := id hb
 simp only at hc hd hc2 hd2
 subst hc hd hc2 hd2
 have e : vs.toArray ++ ws.toArray = (vs ++ ws).toArray := by simp
 by_cases hw : ws = []
 ·exact concat_meets ⟨_, ho, rfl⟩ ⟨_, ho2, rfl⟩ noFill_tuple_add seq_tuple_add PySem.F.slot_tuple_add PySem.F.entry_tuple_add (PySem.F.args_tuple_add_2 _ _)
   (tuple_addW1 t b vs.toArray ws.toArray n n2 dd dd2 sl sl2 (by simpa using hv) (by simp [hw])) ⟨ho, ho2, h1 hw⟩
 ·refine concat_meets ⟨_, ho, rfl⟩ ⟨_, ho2, rfl⟩ noFill_tuple_add seq_tuple_add PySem.F.slot_tuple_add PySem.F.entry_tuple_add (PySem.F.args_tuple_add_2 _ _)
   (tuple_addW2 t b vs.toArray ws.toArray n n2 dd dd2 sl sl2 (by simpa using hv) (by simpa using hw) (by rw [List.size_toArray, List.size_toArray]; exact hsz)) ⟨ho, ho2, ?_⟩
  rw [e]
  exact h2 hw

noncomputable def sIx (n d : Nat) : Option Int → Nat
 | none => d
 | some v => if v < 0 then (v + (n : Int)).toNat else min v.toNat n
end
end HT

namespace L2
open PySem PySem.Spec PyProof.Rows

noncomputable abbrev TO := St → Hp → (Option Int → Hp → Prop) → Prop
noncomputable def PO (X : Cx) (e : Option Expr) (t : TO) : Prop :=
 ∀ (pins : List (Addr × Obj)) (s : Shared) (σ : St) (H : Hp) (Q : Option Int → Hp → Prop), Inv X pins σ H s → t σ H Q →
  wpAny (model X.prog X.w) X.A (evalPart e X.env) (fun u s' => ∃ o H', Inv X pins σ H' s' ∧ IsPart u o ∧ Q o H') X.xe s
noncomputable def tNoPart : TO := fun _ H Q => Q none H
noncomputable def tPart (t : TE) : TO := fun σ H Q => t σ H fun x H1 => ∃ i, x = .int i ∧ Q (some i) H1

section
variable {X : Cx} {e : Expr} {te : TE} {lo hi : Option Expr} {tl th : TO} {pos p2 : Pos}

theorem po_none : PO X none tNoPart := by
 intro pins s σ H Q I h
 rw [evalPart_none]
 exact wpAny_pure ⟨none, H, I, .none, h⟩
theorem po_some (h : PE X e te) : PO X (some e) (tPart te) := by
 intro pins s σ H Q I hw
 rw [evalPart_some]
 refine thn (h pins s σ H _ I hw) fun u s1 ⟨x, H1, I1, r1, q1⟩ => ?_
 obtain ⟨i, rfl, q⟩ := q1
 obtain ⟨t, rfl⟩ := r1
 exact ⟨some i, H1, I1, .int i t, q⟩

noncomputable def SlR (X : Cx) (r : V → Option Int → Option Int → Hp → VK → Prop) : Prop :=
 ∀ (pins : List (Addr × Obj)) (s : Shared) (σ : St) (H : Hp) (x : V) (v vl vu : Value) (lo hi : Option Int) (sl : Addr) (Q : VK), Inv X pins σ H s → RelV x v → s.heap.IsSliceOf sl vl vu .none → IsPart vl lo → IsPart vu hi → r x lo hi H Q →
  ∃ T id, typeLookup (.type T) "__getitem__" = pure (some (.builtin id)) ∧ s.TypeIs v T ∧ wpAny (model X.prog X.w) X.A (getItem v (.ref sl)) (EP X pins σ Q) X.xe s
noncomputable def tSl (r : V → Option Int → Option Int → Hp → VK → Prop) (te : TE) (tl th : TO) : TE := fun σ H Q => te σ H fun x H1 => tl σ H1 fun l H2 => th σ H2 fun u H3 => r x l u H3 Q
theorem pe_slice {r : V → Option Int → Option Int → Hp → VK → Prop} (hr : SlR X r) (he : PE X e te) (hl : PO X lo tl) (hu : PO X hi th) : PE X (.Subscript e (.Slice lo hi none p2) pos) (tSl r te tl th) := by
 intro pins s σ H Q I h
 refine Subscript_ (thn (he pins s σ H _ I h) fun v s1 ⟨x, H1, I1, r1, q1⟩ => ?_)
 refine wpAny_Slice (thn (hl pins s1 σ H1 _ I1 q1) fun vl s2 ⟨l, H2, I2, pl, q2⟩ => thn (hu pins s2 σ H2 _ I2 q2) fun vu s3 ⟨u, H3, I3, pu, q3⟩ => ?_)
 rw [evalPart_none]
 refine wpAny_pure ?_
 have I4 : Inv X pins σ H3 { s3 with heap := s3.heap.push { cls := .type "slice", data := .fields #[vl, vu, .none] } } := I3.kept (t' := s3.toks) fun b ob q => Heap.get?_push_of_some _ q
 obtain ⟨T, id, hT, ht, hg⟩ := hr pins { s3 with heap := s3.heap.push { cls := .type "slice", data := .fields #[vl, vu, .none] } } σ H3 x v vl vu l u s3.heap.objs.size Q I4 r1 (Heap.IsSliceOf.new ..) pl pu q3
 show wpAny (model X.prog X.w) X.A (subscriptTail e (.Slice lo hi none p2) v (.ref s3.heap.objs.size)) (EP X pins σ Q) X.xe { s3 with heap := s3.heap.push { cls := .type "slice", data := .fields #[vl, vu, .none] } }
 exact tail_any (ops := [.ref s3.heap.objs.size, v]) ht hT hg (by with_unfolding_all rfl)

noncomputable def cutV (xs : List V) (lo hi : Option Int) : List V := (xs.drop (HT.sIx xs.length 0 lo)).take (HT.sIx xs.length xs.length hi - HT.sIx xs.length 0 lo)
theorem jF (xs : List V) (lo hi : Option Int) : (cutV xs lo hi).length ≤ xs.length := by
 unfold cutV
 rw [List.length_take, List.length_drop]
 omega
noncomputable def rCatT (K : PySem.W.Frag) : R2 := fun x y H Q => ∃ a b xs ys, x = .ref a ∧ y = .ref b ∧ SqT K H a xs ∧ SqT K H b ys ∧ xs ≠ [] ∧ xs.length + ys.length ≤ sizeLine ∧
 (ys = [] → Q (.ref a) H) ∧ (ys ≠ [] → ∀ p, H p = none → Q (.ref p) (upd H p (.tup (xs ++ ys))))
theorem Vals.nil_iff {xs : List V} {us : List Value} (r : Vals xs us) : us = [] ↔ xs = [] := by
 cases r with
 | nil => simp
 | cons _ _ => simp
theorem op_catT : OpR X (binaryOp .Add) (rCatT X.K) := by
 intro pins s σ H x y v u Q I rx ry h
 obtain ⟨a, b, xs, ys, rfl, rfl, ha, hb, hx, hz, q1, q2⟩ := h
 cases rx
 cases ry
 obtain ⟨its, r1, p1, _⟩ := I.tuple ha
 obtain ⟨its2, r2, p2, _⟩ := I.tuple hb
 refine HT.cat_tup p1 p2 (fun z => hx (r1.nil_iff.mp z)) (fun z => ⟨.ref a, H, I, rfl, q1 (r2.nil_iff.mp z)⟩) (fun z => ?_) (by rw [← r1.length, ← r2.length]; exact hz)
 refine ⟨.ref s.heap.objs.size, _, I.laid (t' := s.toks) (o := .tup (xs ++ ys)) (fun b ob q => Heap.get?_push_of_some _ q) (Nat.le_refl _) ?_, rfl, q2 (fun w => z (r2.nil_iff.mpr w)) _ (I.hok.fresh (Nat.le_refl _))⟩
 exact ⟨by rw [List.length_append]; exact hz, _, r1.append r2, TupX.new _ _⟩
end
end L2

namespace L2
open PySem PySem.Spec PyProof.Rows

noncomputable def ixN (n : Nat) (i : Int) : Option Nat := if 0 ≤ i then (if i < n then some i.toNat else none) else if -(n : Int) ≤ i then some (i + n).toNat else none
noncomputable def atI {α : Type} (xs : List α) (i : Int) : Option α := (ixN xs.length i).bind fun j => xs[j]?
theorem ixN_seq {n : Nat} {i : Int} {j : Nat} (h : ixN n i = some j) : seqIndex? i n = some j ∧ j < n ∧ -(n : Int) ≤ i ∧ i < n := by
 unfold ixN at h
 by_cases h0 : 0 ≤ i
 ·rw [if_pos h0] at h
  by_cases h1 : i < n
  ·rw [if_pos h1] at h
   have e : i.toNat = j := Option.some.inj h
   exact ⟨by rw [seqIndex_of h0 h1, e], by omega, by omega, h1⟩
  ·rw [if_neg h1] at h; cases h
 ·rw [if_neg h0] at h
  by_cases h1 : -(n : Int) ≤ i
  ·rw [if_pos h1] at h
   have e : (i + n).toNat = j := Option.some.inj h
   exact ⟨by rw [seqIndex_neg (by omega) h1, e], by omega, h1, by omega⟩
  ·rw [if_neg h1] at h; cases h
theorem atI_get {α : Type} {xs : List α} {i : Int} {v : α} (h : atI xs i = some v) : ∃ j, seqIndex? i xs.length = some j ∧ xs[j]? = some v ∧ j < xs.length ∧ -(xs.length : Int) ≤ i ∧ i < xs.length := by
 unfold atI at h
 cases e : ixN xs.length i with
 | none => rw [e] at h; cases h
 | some j =>
  rw [e] at h
  obtain ⟨h1, h2, h3, h4⟩ := ixN_seq e
  exact ⟨j, h1, h, h2, h3, h4⟩
theorem zI {α : Type} {xs : List α} {j : Nat} {v : α} (h : xs[j]? = some v) : atI xs (j : Int) = some v := by
 have hj : j < xs.length := (List.getElem?_eq_some_iff.mp h).1
 have e : ixN xs.length (j : Int) = some j := by
  unfold ixN
  rw [if_pos (by omega), if_pos (by omega)]; simp
 unfold atI; rw [e]; exact h
noncomputable def PlainIx (b : Expr) : Prop := ∀ o i, subscripted b false o i = operate [o, i] (getItem o i)
noncomputable def IxR (X : Cx) (r : R2) : Prop :=
 ∀ (value slice : Expr) (pins : List (Addr × Obj)) (s : Shared) (σ : St) (H : Hp) (x y : V) (v u : Value) (Q : VK), Inv X pins σ H s → RelV x v → RelV y u → r x y H Q →
  subscripted slice false v u = operate [v, u] (getItem v u) → wpAny (model X.prog X.w) X.A (subscriptTail value slice v u) (EP X pins σ Q) X.xe s
noncomputable def MtR (X : Cx) (id : String) (r : V → List V → Hp → VK → Prop) : Prop :=
 ∀ (pins : List (Addr × Obj)) (s : Shared) (σ : St) (H : Hp) (x : V) (xs : List V) (v : Value) (us : List Value) (Q : VK), Inv X pins σ H s → RelV x v → Vals xs us → r x xs H Q →
  wpAny (model X.prog X.w) X.A (call (.builtin id) (v :: us)) (EP X pins σ Q) X.xe s
section
variable {X : Cx} {a b : Expr} {ta tb : TE} {pos : Pos}
theorem xG {r : R2} (hr : IxR X r) (ha : PE X a ta) (hb : PE X b tb) (hs : PlainIx b) : PE X (.Subscript a b pos) (tOp r ta tb) := by
 intro pins s σ H Q I h
 exact Subscript_ (binT ha hb I h fun v u s2 x y H2 I2 rx ry q => hr a b pins s2 σ H2 x y v u Q I2 rx ry q (hs _ _))

noncomputable def rIxL (K : PySem.W.Frag) : R2 := fun x y H Q => ∃ p xs i v, x = .ref p ∧ y = .int i ∧ SqL K H p xs ∧ atI xs i = some v ∧ Q v H
noncomputable def rIxT (K : PySem.W.Frag) : R2 := fun x y H Q => ∃ p xs i v, x = .ref p ∧ y = .int i ∧ SqT K H p xs ∧ atI xs i = some v ∧ Q v H
noncomputable def rIxS : R2 := fun x y H Q => ∃ z i c, x = .str z ∧ y = .int i ∧ z.length ≤ sizeLine ∧ atI z.cps.toList i = some c ∧ Q (.str ⟨#[c]⟩) H
theorem ix_list : IxR X (rIxL X.K) := by
 intro value slice pins s σ H x y v u Q I rx ry h hs
 obtain ⟨p, xs, i, z, rfl, rfl, hq, he, q⟩ := h
 cases rx
 obtain ⟨t, rfl⟩ := ry
 obtain ⟨its, r, pl, hz⟩ := I.list hq
 obtain ⟨j, h1, h2, h3, h4, h5⟩ := atI_get he
 obtain ⟨w, ew, rw'⟩ := r.get h2
 have hl := r.length
 have hn := line63
 have fin : EP X pins σ Q w s := ⟨z, H, I, rw', q⟩
 by_cases h0 : 0 ≤ i
 ·have hj : i.toNat = j := by
   rw [seqIndex_of h0 h5] at h1
   exact Option.some.inj h1
  exact item_listR pl.isList h0 (by omega) (by rw [hj]; simpa using ew) fin hs
 ·have hj : (i + (its.toArray.size : Int)).toNat = j := by
   rw [seqIndex_neg (by omega) h4] at h1
   rw [List.size_toArray, ← hl]
   exact Option.some.inj h1
  exact subscriptTail_builtinR (x := w) pl.isList.typeIs slot_list_getitem.lookup
   (wpAny_getItem_list_neg (Q := fun r s' => r = w ∧ EP X pins σ Q r s') pl.isList (by omega) (by rw [List.size_toArray] <;> omega) (by omega) (by rw [hj]; simpa using ew) ⟨rfl, fin⟩) hs
theorem ix_tup : IxR X (rIxT X.K) := by
 intro value slice pins s σ H x y v u Q I rx ry h hs
 obtain ⟨p, xs, i, z, rfl, rfl, hq, he, q⟩ := h
 cases rx
 obtain ⟨t, rfl⟩ := ry
 obtain ⟨its, r, pl, hz⟩ := I.tuple hq
 obtain ⟨j, h1, h2, h3, h4, h5⟩ := atI_get he
 obtain ⟨w, ew, rw'⟩ := r.get h2
 have hl := r.length
 have hn := line63
 have fin : EP X pins σ Q w s := ⟨z, H, I, rw', q⟩
 exact subscriptTail_builtinR (x := w) pl.typeIs slot_tuple_getitem.lookup
  (getItem_tuple (j := j) (Q := fun r s' => r = w ∧ EP X pins σ Q r s') pl (by omega) (by omega) (by rw [List.size_toArray, ← hl]; exact h1) (by simpa using ew) ⟨rfl, fin⟩) hs
theorem ix_str : IxR X rIxS := by
 intro value slice pins s σ H x y v u Q I rx ry h hs
 obtain ⟨z, i, c, rfl, rfl, hz, he, q⟩ := h
 obtain ⟨t, rfl⟩ := rx
 obtain ⟨t', rfl⟩ := ry
 obtain ⟨j, h1, h2, h3, h4, h5⟩ := atI_get he
 have hl : z.cps.toList.length = z.length := by simp [Str.length]
 rw [hl] at h1 h4 h5
 have hn := line63
 exact tail_any (typeIs_str s z t) slot_str_getitem.lookup (getItem_str (c := c) (by
  have e1 : decide (i < -(2 ^ 63 : Int)) = false := decide_eq_false (by omega)
  have e2 : decide (i ≥ 2 ^ 63) = false := decide_eq_false (by omega)
  rw [e1, e2, Bool.or_false]) (by rw [h1]; simpa using h2) ⟨.str ⟨#[c]⟩, H, I.tok _, ⟨_, rfl⟩, q⟩) hs
theorem mapSeq_set (its : List Value) (n j : Nat) (u : Value) : Obj.mapSeq (·.setIfInBounds j u) { cls := .type "list", data := .seq its.toArray n } = { cls := .type "list", data := .seq (its.set j u).toArray n } := by
 simp [Obj.mapSeq]
theorem Inv.lst {pins : List (Addr × Obj)} {σ : St} {H : Hp} {s : Shared} {p : Addr} {xs : List V} (I : Inv X pins σ H s) (h : H p = some (.lst xs)) :
  ∃ (its : List Value) (n : Nat), Vals xs its ∧ s.heap.get? p = some { cls := .type "list", data := .seq its.toArray n } ∧ xs.length ≤ sizeLine := by
 obtain ⟨z, its, n, r, e⟩ := I.hok p _ h
 exact ⟨its, n, r, e, z⟩
theorem Inv.lstUpd {pins : List (Addr × Obj)} {σ : St} {H : Hp} {s : Shared} {p : Addr} {xs ys : List V} {its its' : List Value} {n n' : Nat} {f : Obj → Obj} (I : Inv X pins σ H s) (h : H p = some (.lst xs))
  (ho : s.heap.get? p = some { cls := .type "list", data := .seq its.toArray n }) (hf : f { cls := .type "list", data := .seq its.toArray n } = { cls := .type "list", data := .seq its'.toArray n' }) (r : Vals ys its') (hz : ys.length ≤ sizeLine) (t : Nat) :
  Inv X pins σ (upd H p (.lst ys)) { s with heap := s.heap.update p f, toks := t } := by
 have e : (s.heap.update p f).get? p = some { cls := .type "list", data := .seq its'.toArray n' } := by
  rw [Heap.get?_update_self f ho (by rw [hf] <;> rfl), hf]
 refine I.write (x := p) (e := p) (by rw [h]; trivial) (.inl rfl) (fun b u hb q => (Heap.get?_update_other _ _ (Ne.symm hb)).trans q) ⟨_, e⟩ ?_
 exact ⟨hz, its', n', r, e⟩
noncomputable def rSetL : V → V → V → Hp → (Hp → Prop) → Prop := fun o i v H Q => ∃ p xs k j, o = .ref p ∧ i = .int k ∧ H p = some (.lst xs) ∧ ixN xs.length k = some j ∧ Q (upd H p (.lst (xs.set j v)))
theorem set_list : PSet X rSetL := by
 intro pins s σ H o i v ov iv u Q I ro ri rv h
 obtain ⟨p, xs, k, j, rfl, rfl, hp, hj, q⟩ := h
 cases ro
 obtain ⟨t, rfl⟩ := ri
 obtain ⟨its, n, r, ho, hz⟩ := I.lst hp
 obtain ⟨h1, h2, h3, h4⟩ := ixN_seq hj
 have hl := r.length
 have hn := line63
 have I' : Inv X pins σ (upd H p (.lst (xs.set j v))) { s with heap := s.heap.update p (Obj.mapSeq (·.setIfInBounds j u)) } :=
  I.lstUpd hp ho (mapSeq_set its n j u) (r.set rv j) (by rw [List.length_set]; exact hz) s.toks
 by_cases h0 : 0 ≤ k
 ·have hk : k.toNat = j := by
   rw [seqIndex_of h0 h4] at h1
   exact Option.some.inj h1
  exact PySem.W.ki_setAt ho h0 (by omega) (by rw [List.size_toArray, ← hl]; exact h4) (by rw [hk]; exact ⟨_, I', q⟩)
 ·have hk : (k + (its.toArray.size : Int)).toNat = j := by
   rw [seqIndex_neg (by omega) h3] at h1
   rw [List.size_toArray, ← hl]
   exact Option.some.inj h1
  exact PySem.W.ki_setBack ho (by omega) (by rw [List.size_toArray, ← hl]; exact h3) (by omega) (by rw [hk]; exact ⟨_, I', q⟩)

theorem slice_bounds (lo hi : Option Int) (n : Nat) : (sliceBounds lo hi none n).1 = ((HT.sIx n 0 lo : Nat) : Int) ∧ (sliceBounds lo hi none n).2.1 = ((HT.sIx n n hi : Nat) : Int) ∧ (sliceBounds lo hi none n).2.2 = 1 := by
 refine ⟨?_, ?_, rfl⟩
 ·cases lo with
  | none => simp [sliceBounds, HT.sIx]
  | some i =>
   simp only [sliceBounds, HT.sIx, Option.getD_none, show (1 : Int) > 0 by decide, if_true]
   by_cases h : i < 0
   ·simp only [h, if_true] <;> omega
   ·simp only [h, if_false] <;> omega
 ·cases hi with
  | none => simp [sliceBounds, HT.sIx]
  | some i =>
   simp only [sliceBounds, HT.sIx, Option.getD_none, show (1 : Int) > 0 by decide, if_true]
   by_cases h : i < 0
   ·simp only [h, if_true] <;> omega
   ·simp only [h, if_false] <;> omega
theorem slicePick_cut (its : List Value) (lo hi : Option Int) : slicePick its.toArray lo hi none = ((its.drop (HT.sIx its.length 0 lo)).take (HT.sIx its.length its.length hi - HT.sIx its.length 0 lo)).toArray := by
 obtain ⟨h1, h2, h3⟩ := slice_bounds lo hi its.toArray.size
 unfold slicePick
 rw [h1, h2, h3]
 simp only [sliceRange_one, pick_run, List.size_toArray] <;> rfl
noncomputable def rSlL (K : PySem.W.Frag) : V → Option Int → Option Int → Hp → VK → Prop := fun x lo hi H Q => ∃ a xs, x = .ref a ∧ SqL K H a xs ∧ ∀ p, H p = none → Q (.ref p) (upd H p (.lst (cutV xs lo hi)))
theorem sl_list : SlR X (rSlL X.K) := by
 intro pins s σ H x v vl vu lo hi sl Q I rx hs pl pu h
 obtain ⟨a, xs, rfl, hx, q⟩ := h
 cases rx
 obtain ⟨its, r, ht, hz⟩ := I.list hx
 have hlen := r.length
 refine ⟨"list", _, slot_list_getitem.lookup, ht.isList.typeIs, ?_⟩
 refine wpAny_getItem_list_slice ht.isList hs pl pu .none (by simp) ?_ (by rw [List.size_toArray] <;> omega)
 rw [slicePick_cut, ← hlen]
 refine ⟨.ref s.heap.objs.size, _, I.laid (t' := s.toks) (o := .lst (cutV xs lo hi)) (fun b ob q => Heap.get?_push_of_some _ q) (Nat.le_refl _) ?_, rfl, q _ (I.hok.fresh (Nat.le_refl _))⟩
 exact ⟨Nat.le_trans (jF xs lo hi) hz, _, 0, (r.drop (HT.sIx xs.length 0 lo)).take (HT.sIx xs.length xs.length hi - HT.sIx xs.length 0 lo), Heap.get?_push_size _ rfl⟩

noncomputable def flatV : V → Bool
 | .non => true
 | .bl _ => true
 | .int _ => true
 | .str _ => true
 | _ => false
noncomputable def eqV : V → V → Bool
 | .non, .non => true
 | .bl a, .bl b => a == b
 | .bl a, .int b => (if a then 1 else 0) == b
 | .int a, .bl b => a == (if b then 1 else 0)
 | .int a, .int b => a == b
 | .str a, .str b => a == b
 | _, _ => false
theorem eqAt_V {A : Around} {s : Shared} {y x : V} {u v : Value} (ry : RelV y u) (rx : RelV x v) (fy : flatV y = true) (fx : flatV x = true) : SeqAt.EqAt A s u v (eqV y x) := by
 cases y with
 | non =>
  cases ry
  cases x with
  | non => cases rx; exact SeqAt.EqAt.same _
  | bl b => cases rx; exact SeqAt.EqAt.none_bool b
  | int b => obtain ⟨t, rfl⟩ := rx; exact SeqAt.EqAt.none_int b t
  | str b => obtain ⟨t, rfl⟩ := rx; exact SeqAt.EqAt.none_str b t
  | _ => exact absurd (show false = true from fx) Bool.false_ne_true
 | bl a =>
  cases ry
  cases x with
  | non => cases rx; exact SeqAt.EqAt.bool_none a
  | bl b => cases rx; exact SeqAt.EqAt.bool_bool a b
  | int b => obtain ⟨t, rfl⟩ := rx; exact SeqAt.EqAt.bool_int a b t
  | str b => obtain ⟨t, rfl⟩ := rx; exact SeqAt.EqAt.bool_str a b t
  | _ => exact absurd (show false = true from fx) Bool.false_ne_true
 | int a =>
  obtain ⟨t', rfl⟩ := ry
  cases x with
  | non => cases rx; exact SeqAt.EqAt.int_none a t'
  | bl b => cases rx; exact SeqAt.EqAt.int_bool a t' b
  | int b => obtain ⟨t, rfl⟩ := rx; exact SeqAt.EqAt.int_int a t' b t
  | str b => obtain ⟨t, rfl⟩ := rx; exact SeqAt.EqAt.int_str a t' b t
  | _ => exact absurd (show false = true from fx) Bool.false_ne_true
 | str a =>
  obtain ⟨t', rfl⟩ := ry
  cases x with
  | non => cases rx; exact SeqAt.EqAt.str_none a t'
  | bl b => cases rx; exact SeqAt.EqAt.str_bool a t' b
  | int b => obtain ⟨t, rfl⟩ := rx; exact SeqAt.EqAt.str_int a t' b t
  | str b => obtain ⟨t, rfl⟩ := rx; exact SeqAt.EqAt.str_str a t' b t
  | _ => exact absurd (show false = true from fx) Bool.false_ne_true
 | _ => exact absurd (show false = true from fy) Bool.false_ne_true
noncomputable def eqU (x : V) (u : Value) : Bool := match u with
 | .none => eqV .non x
 | .bool b => eqV (.bl b) x
 | .int i _ => eqV (.int i) x
 | .str z _ => eqV (.str z) x
 | _ => false
theorem eqU_of {x y : V} {u : Value} (r : RelV y u) (f : flatV y = true) : eqU x u = eqV y x := by
 cases y with
 | non => cases r; rfl
 | bl b => cases r; rfl
 | int i => obtain ⟨t, rfl⟩ := r; rfl
 | str z => obtain ⟨t, rfl⟩ := r; rfl
 | _ => exact absurd (show false = true from f) Bool.false_ne_true
theorem any_eqU {x : V} : ∀ {xs : List V} {us : List Value}, Vals xs us → xs.all flatV = true → us.any (eqU x) = xs.any fun y => eqV y x
 | _, _, .nil, _ => rfl
 | y :: xs, u :: us, .cons r t, f => by
  rw [List.all_cons, Bool.and_eq_true] at f
  rw [List.any_cons, List.any_cons, eqU_of r f.1, any_eqU t f.2]
theorem mem_eqAt {A : Around} {s : Shared} {x : V} {v : Value} (rx : RelV x v) (fx : flatV x = true) : ∀ {xs : List V} {us : List Value}, Vals xs us → xs.all flatV = true → ∀ u ∈ us, SeqAt.EqAt A s u v (eqU x u)
 | _, _, .nil, _ => fun u hu => by cases hu
 | y :: xs, u :: us, .cons r t, f => fun u' hu => by
  rw [List.all_cons, Bool.and_eq_true] at f
  rcases List.mem_cons.mp hu with rfl | hu
  ·rw [eqU_of r f.1]; exact eqAt_V r rx f.1 fx
  ·exact mem_eqAt rx fx t f.2 u' hu
noncomputable def inV (x : V) (xs : List V) : Bool := xs.any fun y => eqV y x
noncomputable def rIn (K : PySem.W.Frag) (neg : Bool) : R2 := fun x y H Q => ∃ p xs, y = .ref p ∧ (SqL K H p xs ∨ SqT K H p xs) ∧ flatV x = true ∧ xs.all flatV = true ∧ Q (.bl (if neg then !inV x xs else inV x xs)) H
theorem op_notIn_seq : OpR X (compareOp .NotIn) (rIn X.K true) := by
 intro pins s σ H x y v u Q I rx ry h
 obtain ⟨p, xs, rfl, hq, fx, fs, q⟩ := h
 cases ry
 rcases hq with hq | hq
 ·obtain ⟨its, r, pl, hz⟩ := I.list hq
  refine SeqAt.notIn_listAt (eqU x) pl.isList (fun w hw => mem_eqAt rx fx r fs w (by simpa using hw)) ⟨.bl _, H, I, rfl, ?_⟩
  rw [show its.toArray.any (eqU x) = its.any (eqU x) by simp, any_eqU r fs]
  exact q
 ·obtain ⟨its, r, pl, hz⟩ := I.tuple hq
  refine SeqAt.notIn_tupleAt (eqU x) pl (fun w hw => mem_eqAt rx fx r fs w (by simpa using hw)) ⟨.bl _, H, I, rfl, ?_⟩
  rw [show its.toArray.any (eqU x) = its.any (eqU x) by simp, any_eqU r fs]
  exact q
theorem call_len_seq : CallR X (.builtin "len") (fun xs H Q => ∃ p ys, xs = [.ref p] ∧ (SqL X.K H p ys ∨ SqT X.K H p ys) ∧ Q (.int ys.length) H) := by
 intro pins s σ H xs us Q I r h
 obtain ⟨p, ys, rfl, hq, q⟩ := h
 obtain ⟨u, rfl, rx⟩ := vals1 r
 cases rx
 have hn := line63
 rcases hq with hq | hq
 ·obtain ⟨its, r', pl, hz⟩ := I.list hq
  have hlen := r'.length
  exact Calls.call_len_list pl.isList (by simp only [List.size_toArray] <;> omega) ⟨.int ys.length, H, I.tok _, ⟨s.toks + 1, by rw [List.size_toArray, hlen]⟩, q⟩
 ·obtain ⟨its, r', pl, hz⟩ := I.tuple hq
  have hlen := r'.length
  exact len_tuple pl (by simp only [List.size_toArray] <;> omega) ⟨.int ys.length, H, I.tok _, ⟨s.toks + 1, by rw [List.size_toArray, hlen]⟩, q⟩
theorem call_list_of : CallR X (.type "list") (fun xs H Q => ∃ p ys, xs = [.ref p] ∧ (SqL X.K H p ys ∨ SqT X.K H p ys) ∧ ∀ l, H l = none → Q (.ref l) (upd H l (.lst ys))) := by
 intro pins s σ H xs us Q I r h
 obtain ⟨p, ys, rfl, hq, q⟩ := h
 obtain ⟨u, rfl, rx⟩ := vals1 r
 cases rx
 have fin : ∀ (its : List Value), Vals ys its → ys.length ≤ sizeLine → ∀ (h' : Heap) (c' : Nat), (∀ b o', s.heap.get? b = some o' → h'.get? b = some o') →
   h'.get? s.heap.objs.size = some { cls := .type "list", dict := none, data := .seq its.toArray c', slots := #[] } → EP X pins σ Q (.ref s.heap.objs.size) { s with heap := h' } := fun its r' hz h' c' kp e =>
  ⟨.ref s.heap.objs.size, _, I.laid (t' := s.toks) kp (Nat.le_refl _) (show ObjOk X.prog X.w _ h' _ (.lst ys) from ⟨hz, its, c', r', e⟩), rfl, q _ (I.hok.fresh (Nat.le_refl _))⟩
 rcases hq with hq | hq
 ·obtain ⟨its, r', pl, hz⟩ := I.list hq
  have hlen := r'.length
  obtain ⟨o, ho, hc, n, hd⟩ := pl.isList
  exact call_list_seq p (.inl rfl) ho hc hd (fun h' c' kp e => fin its r' hz h' c' kp e) (by simp only [List.size_toArray] <;> omega)
 ·obtain ⟨its, r', pl, hz⟩ := I.tuple hq
  have hlen := r'.length
  obtain ⟨o, ho, hc, n, hd⟩ := pl
  exact call_list_seq p (.inr rfl) ho hc hd (fun h' c' kp e => fin its r' hz h' c' kp e) (by simp only [List.size_toArray] <;> omega)
theorem call_tuple_of : CallR X (.type "tuple") (fun xs H Q => ∃ p ys, xs = [.ref p] ∧ ((SqL X.K H p ys ∧ ∀ l, H l = none → Q (.ref l) (upd H l (.tup ys))) ∨ (SqT X.K H p ys ∧ Q (.ref p) H))) := by
 intro pins s σ H xs us Q I r h
 obtain ⟨p, ys, rfl, h⟩ := h
 obtain ⟨u, rfl, rx⟩ := vals1 r
 cases rx
 rcases h with ⟨hq, q⟩ | ⟨hq, q⟩
 ·obtain ⟨its, r', pl, hz⟩ := I.list hq
  have hlen := r'.length
  refine call_tuple_list pl.isList (fun h' kp => ?_) (by simp only [List.size_toArray] <;> omega)
  have I1 : Inv X pins σ H { s with heap := h' } := I.kept (t' := s.toks) kp
  have I2 : Inv X pins σ (upd H h'.objs.size (.tup ys)) { s with heap := h'.push { cls := .type "tuple", data := .seq its.toArray } } :=
   I1.laid (t' := s.toks) (fun b o e => Heap.get?_push_of_some _ e) (Nat.le_refl _) (show ObjOk X.prog X.w _ _ _ (.tup ys) from ⟨hz, its, r', TupX.new _ _⟩)
  exact ⟨.ref h'.objs.size, _, I2, rfl, q _ (I1.hok.fresh (Nat.le_refl _))⟩
 ·obtain ⟨its, r', pl, hz⟩ := I.tuple hq
  exact call_tuple_same pl ⟨.ref p, H, I, rfl, q⟩

noncomputable def tyV (K : PySem.W.Frag) (T : String) (x : V) (H : Hp) : Prop := match x with
 | .str _ => T = "str"
 | .int _ => T = "int"
 | .ref p => (T = "list" ∧ ∃ xs, SqL K H p xs) ∨ (T = "tuple" ∧ ∃ o, K.lookup p = some o ∧ o.cls = .type "tuple" ∧ o.dict = none) ∨
   (T = "dict" ∧ ((∃ kvs, H p = some (.dK kvs)) ∨ ∃ kvs, H p = some (.dT kvs))) ∨ (T = "set" ∧ ∃ S n, H p = some (.set S n))
 | _ => False
theorem tyV_is {pins : List (Addr × Obj)} {σ : St} {H : Hp} {s : Shared} {T : String} {x : V} {v : Value} (I : Inv X pins σ H s) (r : RelV x v) (ty : tyV X.K T x H) :
  s.TypeIs v T ∧ ∀ a, v = .ref a → ∃ ob, s.heap.get? a = some ob ∧ ob.dict = none := by
 cases x with
 | str z =>
  obtain ⟨t, rfl⟩ := r
  cases (show T = "str" from ty)
  exact ⟨typeIs_str s z t, fun _ e => nomatch e⟩
 | int i =>
  obtain ⟨t, rfl⟩ := r
  cases (show T = "int" from ty)
  exact ⟨typeIs_int s i t, fun _ e => nomatch e⟩
 | ref p =>
  cases r
  rcases ty with ⟨rfl, xs, hq⟩ | ⟨rfl, o, hk, hc, hd⟩ | ⟨rfl, hk⟩ | ⟨rfl, S, n, hk⟩
  ·obtain ⟨its, _, pl, _⟩ := I.list hq
   refine ⟨pl.isList.typeIs, fun a e => ?_⟩
   cases e
   obtain ⟨o, n, e, c, hd, _⟩ := pl
   exact ⟨o, e, hd⟩
  ·refine ⟨⟨o, I.kIn p o hk, hc⟩, fun a e => ?_⟩
   cases e
   exact ⟨o, I.kIn _ o hk, hd⟩
  ·have z : ∃ o, s.heap.get? p = some o ∧ o.ExactDict := by
    rcases hk with ⟨kvs, hk⟩ | ⟨kvs, hk⟩
    ·obtain ⟨_, _, _, _, o, _, _, e, ex, _⟩ := I.hok p _ hk
     exact ⟨o, e, ex⟩
    ·obtain ⟨_, _, _, _, o, _, _, e, ex, _⟩ := I.hok p _ hk
     exact ⟨o, e, ex⟩
   obtain ⟨o, e, ex⟩ := z
   refine ⟨⟨o, e, ex.1⟩, fun a e2 => ?_⟩
   cases e2
   exact ⟨o, e, ex.2.1⟩
  ·obtain ⟨o, _, _, _, e, ex, _⟩ := I.hok p _ hk
   refine ⟨⟨o, e, ex.1⟩, fun a e2 => ?_⟩
   cases e2
   exact ⟨o, e, ex.2.1⟩
 | _ => exact False.elim ty
noncomputable def tBM0 (K : PySem.W.Frag) (T : String) (r : V → List V → Hp → VK → Prop) (to : TE) : TE := fun σ H Q => to σ H fun x H1 => tyV K T x H1 ∧ r x [] H1 Q
noncomputable def tBM (K : PySem.W.Frag) (T : String) (r : V → List V → Hp → VK → Prop) (to : TE) (t : TA) : TE := fun σ H Q => to σ H fun x H1 => tyV K T x H1 ∧ t σ H1 fun xs H2 => r x xs H2 Q
variable {o e : Expr} {es : List Expr} {to : TE} {t : TA} {name : Str} {apos cpos : Pos} {T id : String} {r : V → List V → Hp → VK → Prop}
theorem pe_bm0 (pa : PlainAttrs T) (slot : Slot T name id) (hty : typeOf (.builtin id) = pure (.type "method_descriptor")) (hm : MtR X id r) (ho : PE X o to)
  (hbase : attributeBase o name X.env (eval o X.env) = eval o X.env := by rfl) (hline : (apos.endLine == cpos.line) = true := by rfl) : PE X (.Call (.Attribute o name apos) [] [] cpos) (tBM0 X.K T r to) := by
 intro pins s σ H Q I h
 refine wpAny_Call_method0_late hbase hline (thn (ho pins s σ H _ I h) fun v s1 ⟨x, H1, I1, r1, ty, q1⟩ => ?_)
 obtain ⟨h1, h2⟩ := tyV_is I1 r1 ty
 exact ⟨T, id, pa, slot, hty, h1, h2, Calls.callWith_builtin rfl (PySem.evalArgs_none (hm pins s1 σ H1 x [] v [] Q I1 r1 .nil q1))⟩
theorem pe_bm (pa : PlainAttrs T) (slot : Slot T name id) (hty : typeOf (.builtin id) = pure (.type "method_descriptor")) (hm : MtR X id r) (ho : PE X o to) (ha : PA X (e :: es) t)
  (hbase : attributeBase o name X.env (eval o X.env) = eval o X.env := by rfl)
  (hfew : ((backTo cpos (starEach (e :: es) X.env)).all (fun x => !x.1) && (backToKw cpos (keywordEach [] X.env)).all (fun x => x.1.isSome)
   && decide ((e :: es).length + ([] : List Keyword).length + (if ([] : List Keyword).isEmpty then 0 else 1) < 30)) = true := by rfl)
  (hline : (apos.endLine == cpos.line) = true := by rfl) (hs : starEach (e :: es) X.env = (false, eval e X.env) :: starEach es X.env := by rfl) (hplain : (backTo cpos (starEach es X.env)).any (·.1) = false := by rfl) :
  PE X (.Call (.Attribute o name apos) (e :: es) [] cpos) (tBM X.K T r to t) := by
 intro pins s σ H Q I h
 refine wpAny_Call_method_late hbase hfew hline rfl (thn (ho pins s σ H _ I h) fun v s1 ⟨x, H1, I1, r1, ty, q1⟩ => ?_)
 obtain ⟨h1, h2⟩ := tyV_is I1 r1 ty
 refine ⟨T, id, pa, slot, hty, h1, h2, ?_⟩
 have hA := ha cpos pins s1 σ H1 _ I1 q1
 rw [hs] at hA ⊢
 refine Calls.callWith_builtin (by show (false || (backTo cpos (starEach es X.env)).any (·.1)) = false; rw [hplain] <;> rfl) (Calls.evalArgs_plain ?_)
 exact thn hA fun us s2 ⟨vs, H2, I2, r2, q2⟩ => hm pins s2 σ H2 x vs v us Q I2 r1 r2 q2
end
end L2

namespace L2
open PySem PySem.Spec PyProof.Rows

noncomputable def MtM (X : Cx) (id : String) (r : V → List V → Hp → VK → Prop) : Prop :=
 ∀ (pins : List (Addr × Obj)) (s : Shared) (σ : St) (H : Hp) (x : V) (xs : List V) (v : Value) (us : List Value) (Q : VK), Inv X pins σ H s → RelV x v → Vals xs us → r x xs H Q →
  wpAny (model X.prog X.w) X.A (call (.builtin id) (v :: us)) (EP X pins σ Q) X.xe s

theorem Vals.one {x : V} {us : List Value} (h : Vals [x] us) : ∃ u, us = [u] ∧ RelV x u := by
 cases h with
 | cons r t =>
  cases t
  exact ⟨_, rfl, r⟩
theorem Vals.zero : ∀ {us : List Value}, Vals [] us → us = []
 | _, .nil => rfl
section
variable {X : Cx} {pins : List (Addr × Obj)} {σ : St} {H : Hp} {s : Shared} {l b : Addr} {xs ys zs : List V}

theorem Inv.lset {its its' : List Value} {n : Nat} {f : Array Value → Array Value} {t' : Nat} (I : Inv X pins σ H s) (hH : H l = some (.lst xs))
  (e : s.heap.get? l = some { cls := .type "list", data := .seq its.toArray n }) (hf : f its.toArray = its'.toArray) (hv : Vals ys its') (hz : ys.length ≤ sizeLine) :
  Inv X pins σ (upd H l (.lst ys)) { s with heap := s.heap.update l (Obj.mapSeq f), toks := t' } := by
 have q := PySem.IsL.update e f
 rw [hf] at q
 refine I.write (x := l) (e := l) (by rw [hH]; exact trivial) (.inl rfl) (fun b' u hb hu => (Heap.get?_update_other s.heap (Obj.mapSeq f) (Ne.symm hb)).trans hu) ⟨_, q⟩ ?_
 exact ⟨hz, its', _, hv, q⟩
theorem Inv.lnew {its : List Value} {t' : Nat} (I : Inv X pins σ H s) (hv : Vals ys its) (hz : ys.length ≤ sizeLine) :
  Inv X pins σ (upd H s.heap.objs.size (.lst ys)) { s with heap := s.heap.push { cls := .type "list", data := .seq its.toArray }, toks := t' } :=
 I.laid (fun _ _ q => Heap.get?_push_of_some _ q) (Nat.le_refl _) ⟨hz, its, 0, hv, Heap.get?_push_size _ rfl⟩
theorem Inv.fresh (I : Inv X pins σ H s) : H s.heap.objs.size = none := I.hok.fresh (Nat.le_refl _)
theorem Inv.lstM (I : Inv X pins σ H s) (hH : H l = some (.lst xs)) : xs.length ≤ sizeLine ∧ ∃ (its : List Value) (n : Nat), Vals xs its ∧ xs.length = its.length ∧ s.heap.get? l = some { cls := .type "list", data := .seq its.toArray n } := by
 obtain ⟨z, its, n, r, e⟩ := I.hok l _ hH
 exact ⟨z, its, n, r, r.length, e⟩

end

section
variable {X : Cx}

noncomputable def rAppend : V → List V → Hp → VK → Prop := fun x vs H Q => ∃ l xs y, x = .ref l ∧ vs = [y] ∧ H l = some (.lst xs) ∧ xs.length < sizeLine ∧ Q .non (upd H l (.lst (xs ++ [y])))
theorem zF : MtM X "list.append" rAppend := by
 intro pins s σ H x vs v us Q I rx rv h
 obtain ⟨l, xs, y, rfl, rfl, hH, hz, q⟩ := h
 cases rx
 obtain ⟨u, rfl, ru⟩ := rv.one
 obtain ⟨z, its, n, r, hl, e⟩ := I.lstM hH
 refine call_meets F.slot_list_append ⟨_, e, rfl⟩ F.entry_list_append (F.args_list_append_2 _ _) (PySem.list_append l its.toArray n u (by rw [List.size_toArray]; omega)) ⟨e, ?_⟩
 refine ⟨.non, _, I.lset (its' := its ++ [u]) hH e (by simp) (r.append (.cons ru .nil)) ?_, rfl, q⟩
 rw [List.length_append, List.length_singleton]
 omega

noncomputable def rClear : V → List V → Hp → VK → Prop := fun x vs H Q => ∃ l xs, x = .ref l ∧ vs = [] ∧ H l = some (.lst xs) ∧ Q .non (upd H l (.lst []))
theorem mt_clear : MtM X "list.clear" rClear := by
 intro pins s σ H x vs v us Q I rx rv h
 obtain ⟨l, xs, rfl, rfl, hH, q⟩ := h
 cases rx
 have hus := rv.zero
 subst hus
 obtain ⟨z, its, n, r, hl, e⟩ := I.lstM hH
 refine call_meets F.slot_list_clear ⟨_, e, rfl⟩ F.entry_list_clear (F.args_list_clear_1 _) (AutoSeq1.list_clear_list_0 l its.toArray n (by rw [List.size_toArray]; omega)) ⟨e, ?_⟩
 exact ⟨.non, _, I.lset (its' := []) (ys := []) hH e rfl .nil (Nat.zero_le _), rfl, q⟩

noncomputable def rCat : R2 := fun x y H Q => ∃ l b xs zs, x = .ref l ∧ y = .ref b ∧ H l = some (.lst xs) ∧ H b = some (.lst zs) ∧ xs.length + zs.length ≤ sizeLine ∧ ∀ p, H p = none → Q (.ref p) (upd H p (.lst (xs ++ zs)))
theorem kB : OpR X (binaryOp .Add) rCat := by
 intro pins s σ H x y v u Q I rx ry h
 obtain ⟨l, b, xs, zs, rfl, rfl, hH, hB, hz, q⟩ := h
 cases rx
 cases ry
 obtain ⟨z, its, n, r, hl, e⟩ := I.lstM hH
 obtain ⟨z2, its2, n2, r2, hl2, e2⟩ := I.lstM hB
 refine PySem.P.add_list e e2 ?_ (by rw [List.size_toArray, List.size_toArray]; omega)
 have ea : its.toArray ++ its2.toArray = (its ++ its2).toArray := by simp
 rw [ea]
 exact ⟨.ref _, _, I.lnew (t' := s.toks) (r.append r2) (by rw [List.length_append]; omega), rfl, q _ I.fresh⟩
end

section
variable {prog : Program} {w : World} {A : Around} {E : Value → Shared → Prop} {s : Shared}
end

section
variable {X : Cx}
end
end L2

namespace L2
open PySem PySem.Spec PyProof.Rows

section
variable {κ : Type} [DecidableEq κ]
noncomputable def putK (kvs : List (κ × V)) (k : κ) (v : V) : List (κ × V) :=
 if (kvs.any fun kv => decide (kv.1 = k)) = true then kvs.map (fun kv => if kv.1 = k then (kv.1, v) else kv) else kvs ++ [(k, v)]
theorem length_putK (kvs : List (κ × V)) (k : κ) (v : V) : (putK kvs k v).length ≤ kvs.length + 1 := by
 unfold putK
 split
 ·rw [List.length_map]; omega
 ·rw [List.length_append, List.length_cons, List.length_nil]; omega
theorem KV.any {kvs : List (κ × V)} {vs : List (κ × Value)} (r : KV kvs vs) (k : κ) : (kvs.any fun kv => decide (kv.1 = k)) = vs.any fun kv => decide (kv.1 = k) := by
 unfold KV at r
 induction r with
 | nil => rfl
 | cons h t ih => rw [List.any_cons, List.any_cons, ih, h.1]
theorem KV.repl {kvs : List (κ × V)} {vs : List (κ × Value)} (r : KV kvs vs) (k : κ) {y : V} {u : Value} (ry : RelV y u) :
  KV (kvs.map fun kv => if kv.1 = k then (kv.1, y) else kv) (vs.map fun kv => if kv.1 = k then (kv.1, u) else kv) := by
 unfold KV at r ⊢
 induction r with
 | nil => exact .nil
 | @cons p q ps qs h t ih =>
  rw [List.map_cons, List.map_cons]
  refine .cons ?_ ih
  obtain ⟨h1, h2⟩ := h
  by_cases e : p.1 = k
  ·rw [if_pos e, if_pos (h1.symm.trans e)]; exact ⟨h1, ry⟩
  ·rw [if_neg e, if_neg (fun z => e (h1.trans z))]; exact ⟨h1, h2⟩
theorem KV.put {kvs : List (κ × V)} {vs : List (κ × Value)} (r : KV kvs vs) (k : κ) {y : V} {u : Value} (ry : RelV y u) : KV (putK kvs k y) (stored vs k u) := by
 unfold putK stored
 rw [r.any k]
 by_cases e : (vs.any fun kv => decide (kv.1 = k)) = true
 ·rw [if_pos e, if_pos e]; exact r.repl k ry
 ·rw [if_neg e, if_neg e]; exact Paired.snoc r ⟨rfl, ry⟩
theorem KV.length {kvs : List (κ × V)} {vs : List (κ × Value)} (r : KV kvs vs) : kvs.length = vs.length := Paired.length r
end

section
variable {P : Program} {w : World} {H : Hp} {h : Heap} {a : Addr}
theorem rd_of {u : HO} (ok : HOk P w H h) (e : Rd H a u) : ObjOk P w H h a u := e.ok ok
theorem dk_rd {kvs : List (Key × V)} (ok : HOk P w H h) (e : Rd H a (.dK kvs)) : kvs.length ≤ sizeLine ∧ (a == sysModules) = false ∧ ∃ vs, KV kvs vs ∧ h.DictOf (mixKind P w) a vs :=
 show ObjOk P w H h a (.dK kvs) from rd_of ok e
end

section
variable {X : Cx} {pins : List (Addr × Obj)} {σ : St} {H : Hp} {s : Shared} {a : Addr} {y v : V} {u r : Value} {o : Option V} {A : Around} {E : Value → Shared → Prop}

theorem Inv.big (I : Inv X pins σ H s) : sysModules < s.heap.objs.size := by
 have h : mainGlobals < s.heap.objs.size := (I.mod.glob.keeps I.bk).lt
 exact Nat.lt_trans (by decide) h

end

section
variable {X : Cx} {pins : List (Addr × Obj)} {σ : St} {H : Hp} {s : Shared} {a : Addr} {kvs : List (Key × V)} {k : Key} {u : Value} {A : Around} {E : Value → Shared → Prop}
theorem d_len {Q : Value → Shared → Prop} (I : Inv X pins σ H s) (e : Rd H a (.dK kvs)) (h : ∀ t s', Inv X pins σ H s' → Q (.int kvs.length t) s') : wpAny (model X.prog X.w) A (call (.builtin "len") [.ref a]) Q E s := by
 obtain ⟨z, hd, vs, rel, dd⟩ := dk_rd I.hok e
 refine call_len_dict hd dd (by rw [← rel.length]; rw [sizeLine_eq] at z; omega) ?_
 rw [← rel.length]
 exact h _ _ (I.tok _)
end

section
variable {X : Cx} {o i e value : Expr} {pos pos' tpos : Pos} {td ty tv : TE}
end

section
variable {X : Cx} {pos : Pos}
end

noncomputable def mergeK (kvs more : List (Key × V)) : List (Key × V) := more.foldl (fun acc kv => putK acc kv.1 kv.2) kvs
theorem KV.merge : ∀ {more : List (Key × V)} {rs : List (Key × Value)} {kvs : List (Key × V)} {vs : List (Key × Value)}, KV more rs → KV kvs vs → KV (mergeK kvs more) (merged vs rs) := by
 intro more rs kvs vs r
 unfold KV at r
 induction r generalizing kvs vs with
 | nil => intro q; exact q
 | @cons p q ps qs h t ih =>
  intro r0
  have e : KV (putK kvs p.1 p.2) (stored vs q.1 q.2) := by
   have := r0.put p.1 h.2
   rw [← h.1]; exact this
  exact ih e
theorem yN : ∀ (more kvs : List (Key × V)), (mergeK kvs more).length ≤ kvs.length + more.length
 | [], kvs => by show kvs.length ≤ kvs.length + 0; omega
 | p :: r, kvs => by
  have h1 := yN r (putK kvs p.1 p.2)
  have h2 := length_putK kvs p.1 p.2
  show (mergeK (putK kvs p.1 p.2) r).length ≤ _
  rw [List.length_cons]; omega
section
variable {X : Cx} {pins : List (Addr × Obj)} {σ : St} {H : Hp} {s : Shared} {a : Addr} {y d : V} {u r : Value} {o : Option V} {A : Around} {E : Value → Shared → Prop}
end

section
variable {X : Cx} {o e f : Expr} {apos cpos : Pos} {td ty tx : TE}
end

section
variable {X : Cx} {pins : List (Addr × Obj)} {σ : St} {H : Hp} {s : Shared} {a : Addr} {kvs : List (Key × V)} {A : Around} {E : Value → Shared → Prop}
end

section
variable {X : Cx} {pins : List (Addr × Obj)} {σ : St} {H : Hp} {s : Shared} {a : Addr} {y : V} {u : Value} {A : Around} {E : Value → Shared → Prop}
end
end L2

namespace Att
open PySem PySem.W PySem.Calls PyProof.Rows

theorem vE {P : Params} {h : Heap} : ∀ (ns : List Int) (vs : List Value), WellAll P h vs (ns.map WData.int) → IntsAre vs ns := by
 intro ns
 induction ns with
 | nil =>
  intro vs w
  rw [List.map_nil] at w
  cases w
  exact .nil
 | cons n ns ih =>
  intro vs w
  rw [List.map_cons] at w
  cases w with
  | cons a b =>
   cases a
   exact .cons _ _ (ih _ b)

theorem script_of {l : OpenLaw} {n : Nat} (hn : l.most = some n) {P : Params} {h : Heap} {args : List WData} {vals : List Value}
  (hpre : l.row.toRowW.claim.pre args = true) (hwl : WellAll P h vals args) :
  ∃ a vs ns, vals = [Value.ref a] ∧ args = [WData.list (ns.map WData.int)] ∧ h.get? a = some { cls := .type "list", data := .seq vs.toArray } ∧ IntsAre vs ns ∧ ns.length ≤ n := by
 have hsh : WShape.hasAll [] args [.list .int] = true := (pre_splitW hpre).1
 have hc : l.pre.holds [] { args := args } = true := (pre_splitW hpre).2
 obtain ⟨d, r, rfl, h1, h2⟩ := hasAllW_cons hsh
 obtain rfl := hasAllW_nil h2
 obtain ⟨xs, rfl, h3⟩ := hasW_list h1
 obtain ⟨ns, rfl⟩ := items_int h3
 have hlen : ns.length ≤ n := by
  unfold OpenLaw.pre at hc
  have h4 : (WTm.not (.lt (.lit (.int (n : Int))) (.len (.arg 0)))).holds [] { args := [.list (ns.map .int)] } = true := by
   have h4 := (holds_andW hc).1
   rw [hn] at h4
   exact h4
  have h5 := condW_of h4 (w_not (w_lt w_lit (w_len_list (w_arg rfl))))
  rw [List.length_map] at h5
  refine Nat.le_of_not_lt fun q => ?_
  have q' : (n : Int) < ((ns.length : Nat) : Int) := by omega
  first
   | (rw [decide_eq_true q'] at h5; exact absurd h5 (by decide))
   | (simp at h5; omega)
 cases hwl with
 | cons w1 w2 =>
  cases w2
  cases w1 with
  | list ho hall => exact ⟨_, _, ns, rfl, rfl, ho, vE ns _ hall, hlen⟩

theorem post_true (l : OpenLaw) (args : List WData) : l.row.toRowW.claim.post args (.bool true) args = true :=
 postW_of (r := l.row.toRowW) (X := (true == true))
  (show WShape.has [] (.bool true) .bool = true by first | rfl | decide | simp [WShape.has, WShape.arms, WShape.armsAll])
  (show (WTm.eq .res (.lit (.bool true))).value [] { args := args, res := some (.bool true), after := args } = some (.bool (true == true)) from w_eq_bool (w_res rfl) w_lit) rfl

theorem attach_call {l : OpenLaw} {n : Nat} {q : Program} {loose : List Str} {XP : (Str → Option Value) → Heap → Prop} {YP : World → Heap → Prop} {d : DefRec}
  (hn : l.most = some n) (hdf : d.params.defaults = [])
  (call : ∀ (w : World) (s₀ s₁ : Shared) (mg mb : Str → Option Value) (fa : Addr) (o : Obj) (pm cd doc : Value) (a : Addr) (vs : List Value) (ns : List Int),
   Ground q loose [] XP w s₀ mg mb s₁.heap → YP w s₁.heap →
   s₁.heap.get? fa = some o → o.data = .func (docDef d.name d.params d.body d.scope pm cd doc) → s₁.heap.CodeRec cd d.name → mg d.name = some (.ref fa) →
   s₁.heap.get? a = some { cls := .type "list", data := .seq vs.toArray } → IntsAre vs ns → ns.length ≤ n → s₁.gens = #[] →
   codeAny (model l.prog w) callerA (.call (.ref fa) ⟨[.ref a], []⟩) (fun r s' => r = .ok (.ret (.bool true)) ∧ OldK s₁.heap s'.heap ∧ s'.os = s₁.os ∧ AllBare s'.gens) s₁) :
  WalkO q loose XP YP l.row.toRowW d [] (fun f vs => PySem.call f vs) := by
 intro w s₀ s₁ mg mb G Y fa o pm cd doc dV kV ho hd hcd hD hmg hg args vals as hpre hlay hrd hwl hlo
 obtain rfl : dV = .none := Dflts.none hD hdf
 obtain rfl : kV = .none := Dflts.noKw hD
 obtain ⟨a, vs, ns, rfl, rfl, hobj, hints, hlen⟩ := script_of hn hpre hwl
 refine enter_call (codeAny_mono (call w s₀ s₁ mg mb fa o pm cd doc a vs ns G Y ho (fd_plain hd) hcd hmg hobj hints hlen hg) fun r s' hq => ?_)
 obtain ⟨rfl, h2, h3, h4⟩ := hq
 exact ⟨.inl ⟨.bool true, .bool true, [], rfl, fun _ => rfl, .bool true, post_true l _, fun _ => ⟨List.Pairwise.nil, fun _ hm => (nomatch hm)⟩⟩, h2, h3, h4⟩

section
variable {prog : Program} {w : World} {A : Around} {E : Value → Shared → Prop} {s : Shared} {K : Frag}

end
end Att

namespace L2
open PySem PySem.Spec PyProof.Rows

theorem vals_ints : ∀ {vs : List Value} {ns : List Int}, IntsAre vs ns → Vals (ns.map V.int) vs
 | _, _, .nil => .nil
 | _, _, .cons n t h => .cons ⟨t, rfl⟩ (vals_ints h)

noncomputable def Only (H : Hp) : Prop := ∀ b, H b = none ∨ ∃ o xs, H b = some (.frz o (.lst xs))

theorem law_call {P : Program} {w : World} {K : PySem.W.Frag} {mg mb : Str → Option Value} {CX : CXT} {k : Nat} {fa a : Addr} {fd : FuncData} {x : Str} {sp : Sp} {s₁ : Shared} {vs : List Value} {ns : List Int}
  (KX : K.In s₁.heap) (hns : s₁.heap.Ns mainGlobals mg) (hb : s₁.heap.Ns builtinsNs mb) (hbb : ∀ x : Str, x ≠ "__name__" → mb x = bootBuiltins x) (hlim : s₁.heap.NoLimit) (hg : s₁.gens = #[])
  (ha : s₁.heap.get? a = some { cls := .type "list", data := .seq vs.toArray }) (hi : IntsAre vs ns) (hl : ns.length ≤ sizeLine) (hr : Room k callerA)
  (F : ∀ base : Heap, K.In base → base.Ns mainGlobals mg → FnOk P w K mg base CX k fa fd [x] sp) (hbind : ∀ (s : Shared) (u : Value), BindsTo s fd ⟨[u], []⟩ [(x, u)])
  (hsp : ∀ H : Hp, Only H → SqL K H a (ns.map V.int) → sp [.ref a] H (fun v _ => v = .bl true) fun _ _ _ => False)
  (hCX : ∀ H e s', CX [] H s₁ (fun _ _ _ => False) e s' → False) :
  codeAny (model P w) callerA (.call (.ref fa) ⟨[.ref a], []⟩) (fun r s' => r = .ok (.ret (.bool true)) ∧ OldK s₁.heap s'.heap ∧ s'.os = s₁.os ∧ AllBare s'.gens) s₁ := by
 have rv := vals_ints hi
 have lenV := hi.length
 have core : ∀ H : Hp, Only H → SqL K H a (ns.map V.int) → HOk P w H s₁.heap → (∀ b, H b ≠ none → b = a) → (H a ≠ none → K.lookup a = none) →
   codeAny (model P w) callerA (.call (.ref fa) ⟨[.ref a], []⟩) (fun r s' => r = .ok (.ret (.bool true)) ∧ OldK s₁.heap s'.heap ∧ s'.os = s₁.os ∧ AllBare s'.gens) s₁ := by
  intro H hO hS hok hA hK
  have base_of : ∀ {b : Addr} {o : Obj}, s₁.heap.get? b = some o → H b = none → (hidT s₁.heap H).get? b = some o := fun e n => hidT_get e n
  have noA : ∀ {b : Addr} {o : Obj} {es : Array DictEntry} {ep : Nat}, s₁.heap.get? b = some o → o.data = .dict es ep → H b = none := fun {b o es ep} e d => by
   cases q : H b with
   | none => rfl
   | some u =>
    have e' : b = a := hA b (by rw [q]; simp)
    subst e'
    rw [ha] at e; cases e
    have d' : Data.seq vs.toArray _ = Data.dict es ep := d
    cases d'
  have nsK : ∀ {b : Addr} {m : Str → Option Value}, s₁.heap.Ns b m → (hidT s₁.heap H).Ns b m := fun {b m} ⟨o, es, ep, e, d, r⟩ => ⟨o, es, ep, base_of e (noA e d), d, r⟩
  have hKb : K.In (hidT s₁.heap H) := fun b o e => base_of (KX b o e) (by
   cases q : H b with
   | none => rfl
   | some u =>
    have e' : b = a := hA b (by rw [q]; simp)
    subst e'
    rw [hK (by rw [q]; simp)] at e; cases e)
  have hM : Mod K mg (hidT s₁.heap H) := ⟨hKb, nsK hns, ⟨mb, nsK hb, hbb⟩, let ⟨mc, h1, h2⟩ := hlim; ⟨mc, nsK h1, h2⟩⟩
  have e0 : Env0 P w K mg (hidT s₁.heap H) callerA [] s₁ H := ⟨rfl, hM, fun b o e => of_hidT e, Nat.le_of_eq (hidT_size _ _), trivial, fun b hb => absurd (show b ∈ ([] : List Addr) from hb) (by simp), hok, .of_eq hg⟩
  refine codeAny_mono ((F _ hKb (nsK hns)).run callerA [] s₁ H ⟨[.ref a], []⟩ [.ref a] [.ref a] _ _ hr e0 (hbind s₁ (.ref a)) (.cons rfl .nil) (hsp H hO hS)) fun r s' h => ?_
  cases r with
  | error e => exact (hCX H e s' h).elim
  | ok fl =>
   cases fl with
   | next => exact False.elim h
   | brk => exact False.elim h
   | cont => exact False.elim h
   | ret u =>
    obtain ⟨v, H', os, bare, un, hok', r', q⟩ := h
    have q' : v = .bl true := q
    subst q'
    obtain rfl : u = Value.bool true := r'
    refine ⟨rfl, OldK.of_keep fun b o e => ?_, os, bare⟩
    cases q : H b with
    | none => exact un.keep b o e q (by intro z; exact absurd (show b ∈ ([] : List Addr) from z) (by simp)) (by simp)
    | some u =>
     rcases hO b with z | ⟨ob, xs, z⟩
     ·rw [q] at z; cases z
     ·have z2 := un.frzs b ob _ z
      obtain ⟨e1, _⟩ := hok b _ z
      obtain ⟨e2, _⟩ := hok' b _ z2
      rw [e] at e1; cases e1
      exact e2
 cases hk : K.lookup a with
 | some o =>
  have e := KX a o hk
  rw [ha] at e
  cases e
  refine core (fun _ => none) (fun _ => .inl rfl) (.inr ⟨_, vs.toArray, _, hk, rfl, rfl, rfl, by rw [List.size_toArray, lenV]; exact hl, by simpa using rv⟩) (fun b u z => by have z' : (none : Option HO) = some u := z; cases z') (fun b z => absurd rfl z) fun z => absurd rfl z
 | none =>
  refine core (fun b => if b = a then some (.frz { cls := .type "list", data := .seq vs.toArray } (.lst (ns.map V.int))) else none) (fun b => ?_) (.inl (.inr ⟨{ cls := .type "list", data := .seq vs.toArray }, if_pos rfl⟩)) (fun b u z => ?_) (fun b z => ?_) fun _ => hk
  ·by_cases hb : b = a
   ·exact .inr ⟨_, _, if_pos hb⟩
   ·exact .inl (if_neg hb)
  ·by_cases hb : b = a
   ·have z' := (if_pos hb).symm.trans z
    cases z'
    subst hb
    exact ⟨ha, by rw [List.length_map]; exact hl, vs, _, rv, ha⟩
   ·have z' := (if_neg hb).symm.trans z
    cases z'
  ·by_cases hb : b = a
   ·exact hb
   ·exact absurd (if_neg hb) z
end L2

namespace L2
open PySem PySem.Spec PyProof.Rows

theorem walk_of {l : PySem.W.OpenLaw} {n k : Nat} {q : Program} {loose : List Str} {XP : (Str → Option Value) → Heap → Prop} {YP : World → Heap → Prop} {d : DefRec} {K : Params → PySem.W.Frag} {CX : World → CXT} {sp : World → Sp} {x : Str}
  (hn : l.most = some n) (hn2 : n ≤ sizeLine) (hdf : d.params.defaults = []) (hr : Room k callerA)
  (hY : ∀ (w : World) (h : Heap), YP w h → (K w.params).In h)
  (F : ∀ (w : World) (mg : Str → Option Value) (fa : Addr) (h : Heap), (K w.params).In h → h.Ns mainGlobals mg → mg d.name = some (.ref fa) →
   ∃ fd : FuncData, (∀ (s : Shared) (u : Value), BindsTo s fd ⟨[u], []⟩ [(x, u)]) ∧
    ∀ base : Heap, (K w.params).In base → base.Ns mainGlobals mg → FnOk l.prog w (K w.params) mg base (CX w) k fa fd [x] (sp w))
  (hsp : ∀ (w : World) (H : Hp) (a : Addr) (ns : List Int), ns.length ≤ n → Only H → SqL (K w.params) H a (ns.map V.int) → sp w [.ref a] H (fun v _ => v = .bl true) fun _ _ _ => False)
  (hCX : ∀ (w : World) (H : Hp) (s : Shared) (e : Value) (s' : Shared), CX w [] H s (fun _ _ _ => False) e s' → False) :
  PySem.W.WalkO q loose XP YP l.row.toRowW d [] (fun f vs => PySem.call f vs) := by
 refine Att.attach_call hn hdf fun w s₀ s₁ mg mb fa o pm cd doc a vs ns G Y ho hd hcd hmg hobj hints hlen hg => ?_
 have KX := hY w _ Y
 obtain ⟨fd, hb, hF⟩ := F w mg fa _ KX G.T.g hmg
 exact law_call KX G.T.g G.T.b G.T.builtins G.T.nolimit hg hobj hints (Nat.le_trans hlen hn2) hr hF hb (fun H hO hS => hsp w H a ns hlen hO hS) fun H e s' => hCX w H s₁ e s'
end L2

namespace L2
open PySem PySem.Spec PyProof.Rows

noncomputable abbrev CX0 : CXT := fun _ _ _ _ _ _ => False
noncomputable abbrev E0 : XK := fun _ _ _ => False
theorem pass0 {X : Cx} : Passes CX0 X E0 := fun _ _ _ _ _ _ _ h => h.elim

structure Fun (K : PySem.W.Frag) (x qual : Str) (st : Stmt) (f : Addr) (fd : FuncData) : Prop where
 ex : ∃ (oc : Value) (od : Option Addr) (kV doc pm : Value) (an : Option Addr) (cdv ct : Value) (osl : Array (Option Value)),
  fd = PySem.W.fnOf x qual (xD st) (xC st) (xB st) .none kV doc pm an cdv ct ∧ K.lookup f = some ⟨oc, od, .func fd, osl⟩ ∧ PySem.W.codeIn K cdv qual = true
 kp : PySem.W.keepIn K (.ref f) = true
section
variable {P : Program} {w : World} {K : PySem.W.Frag} {mg : Str → Option Value} {base : Heap}
theorem Fun.ok {x qual : Str} {st : Stmt} {f : Addr} {fd : FuncData} {N ps : List Str} {k : Nat} {sp : Sp} (F : Fun K x qual st f fd) (S : FnScope N ps (xB st)) (len : ∀ vs H Q E, sp vs H Q E → vs.length = ps.length)
  (hbody : ∀ (cdv : Value) (A : Around) (outer : List Env) (s : Shared) (H : Hp) (vs : List V) (Q : VK) (E : XK), Room k (A.deeper (envOfC qual (xB st) s.heap.objs.size f cdv)) → sp vs H Q E →
   ∃ t, PSs (cxOf CX0 P w K mg base N qual (xB st) f cdv A outer s H E).nox (xC st) t ∧ t { nx := fun _ H' => Q .non H', rt := Q } (start N vs) H) : FnOk P w K mg base CX0 (k + 1) f fd ps sp := by
 obtain ⟨oc, od, kV, doc, pm, an, cdv, ct, osl, rfl, lk, hcd⟩ := F.ex
 refine fn_of lk hcd S len fun A outer s H vs Q E hr hsp => ?_
 obtain ⟨t, h, q⟩ := hbody cdv A outer s H vs Q E hr hsp
 exact ⟨t, h.nox, q⟩
theorem Fun.binds {x qual : Str} {st : Stmt} {f : Addr} {fd : FuncData} {ps : List Str} (F : Fun K x qual st f fd)
  (h : ∀ (kV doc pm : Value) (an : Option Addr) (cdv ct : Value) (us : List Value), us.length = ps.length → bindArgs (PySem.W.fnOf x qual (xD st) (xC st) (xB st) .none kV doc pm an cdv ct) ⟨us, []⟩ = pure (ps.zip us)) : Binds K fd ps [] := by
 obtain ⟨oc, od, kV, doc, pm, an, cdv, ct, osl, rfl, lk, hcd⟩ := F.ex
 exact .all (h kV doc pm an cdv ct)
theorem zY {x qual : Str} {st : Stmt} {f : Addr} {oc : Value} {od an : Option Addr} {osl : Array (Option Value)} {kV doc pm cdv ct : Value} (l : K.lookup f = some ⟨oc, od, .func (PySem.W.fnOf x qual (xD st) (xC st) (xB st) .none kV doc pm an cdv ct), osl⟩)
  (c : PySem.W.codeIn K cdv qual = true) (k : PySem.W.keepIn K (.ref f) = true) : Fun K x qual st f (PySem.W.fnOf x qual (xD st) (xC st) (xB st) .none kV doc pm an cdv ct) := ⟨⟨oc, od, kV, doc, pm, an, cdv, ct, osl, rfl, l, c⟩, k⟩
end
section
variable {X : Cx}
theorem pv (i : Nat) {x : Str} {pos : Pos} (hN : X.N[i]? = some x := by rfl) (hv : Vis X.env.scope x := by first | exact Or.inl rfl | exact Or.inr (Or.inl rfl) | exact Or.inr (Or.inr rfl)) (hd : (x == ("__debug__" : Str)) = false := by decide)
  (hcd : (x == ("__classdict__" : Str)) = false := by decide) : PE X (.Name x pos) (tVar i) := pe_var hN hv hd hcd
end

theorem iteF {A B : Prop} (h : B) : if false = true then A else B := by
 rw [if_neg Bool.false_ne_true]
 exact h
theorem iteT {A B : Prop} (h : A) : if true = true then A else B := by
 rw [if_pos rfl]
 exact h
theorem ite2 {c A B : Prop} [Decidable c] (h1 : c → A) (h2 : ¬ c → B) : if c then A else B := by
 by_cases h : c
 ·rw [if_pos h]
  exact h1 h
 ·rw [if_neg h]
  exact h2 h
noncomputable def Same (H H' : Hp) : Prop := ∀ b o, H b = some o → H' b = some o
theorem Same.refl (H : Hp) : Same H H := fun _ _ h => h
theorem Same.trans {H H1 H2 : Hp} (a : Same H H1) (b : Same H1 H2) : Same H H2 := fun c o h => b c o (a c o h)
theorem Same.free {H H' : Hp} (e : Same H H') {l : Addr} (h : H' l = Option.none) : H l = Option.none := by
 cases q : H l with
 | none => rfl
 | some o =>
  rw [e l o q] at h
  cases h
theorem Same.seq {K : PySem.W.Frag} {H H' : Hp} {a : Addr} {xs : List V} (e : Same H H') (h : SqL K H a xs) : SqL K H' a xs := by
 rcases h with (h | ⟨o, h⟩) | h
 ·exact .inl (.inl (e _ _ h))
 ·exact .inl (.inr ⟨o, e _ _ h⟩)
 ·exact .inr h

end L2

namespace L2
open PySem PySem.Spec PyProof.Rows
section
variable {X : Cx}
theorem call_lenD : CallR X (.builtin "len") (fun xs H Q => ∃ a kvs, xs = [V.ref a] ∧ H a = some (.dK kvs) ∧ Q (.int kvs.length) H) := by
 intro pins s σ H xs us Q I r h
 obtain ⟨a, kvs, rfl, ha, q⟩ := h
 obtain ⟨u, rfl, ru⟩ := vals1 r
 cases ru
 exact d_len I (.inl ha) fun t s' I' => ⟨.int kvs.length, H, I', ⟨t, rfl⟩, q⟩
end
section
variable {κ : Type} [DecidableEq κ]
end
end L2

namespace L2
open PySem PySem.Spec PyProof.Rows

theorem closure_of {scope : Scope} {env : Env} (h : ∀ p ∈ scope.names, p.2 = .free → ∃ c, env.cells.lookup p.1 = some c) :
  ∃ cl, closureFor scope env = pure cl ∧ (∀ x c, cl.lookup x = some c → env.cells.lookup x = some c) ∧ (∀ p ∈ scope.names, p.2 = .free → ∃ c, cl.lookup p.1 = some c) := by
 have key : ∀ (names : List (Str × NameKind)) (acc : List (Str × Addr)), (∀ p ∈ names, p.2 = .free → ∃ c, env.cells.lookup p.1 = some c) → (∀ x c, acc.lookup x = some c → env.cells.lookup x = some c) →
   ∃ cl, (forIn names acc (fun (x : Str × NameKind) (r : List (Str × Addr)) => (if (x.2 == NameKind.free) = true then (do let a ← cellOf env x.1; pure (ForInStep.yield ((x.1, a) :: r))) else pure (ForInStep.yield r) : Sem (ForInStep (List (Str × Addr))))) : Sem (List (Str × Addr))) = pure cl ∧
    (∀ x c, cl.lookup x = some c → env.cells.lookup x = some c) ∧ (∀ x c, acc.lookup x = some c → ∃ c, cl.lookup x = some c) ∧ (∀ p ∈ names, p.2 = .free → ∃ c, cl.lookup p.1 = some c) := by
  intro names
  induction names with
  | nil => intro acc _ ha; exact ⟨acc, rfl, ha, fun x c e => ⟨c, e⟩, fun p hp => by cases hp⟩
  | cons p r ih =>
   intro acc hn ha
   obtain ⟨n, k⟩ := p
   by_cases hk : k = .free
   ·subst hk
    obtain ⟨c, hc⟩ := hn (n, .free) List.mem_cons_self rfl
    have ha' : ∀ x d, ((n, c) :: acc).lookup x = some d → env.cells.lookup x = some d := fun x d e => by
     rw [List.lookup_cons] at e
     cases hx : x == n with
     | true => rw [hx] at e; cases e; rw [eq_of_beq hx]; exact hc
     | false => rw [hx] at e; exact ha x d e
    obtain ⟨cl, e, h1, h2, h3⟩ := ih ((n, c) :: acc) (fun p hp => hn p (List.mem_cons_of_mem _ hp)) ha'
    have hcell : cellOf env n = pure c := by unfold cellOf; rw [hc]
    refine ⟨cl, ?_, h1, fun x d ex => ?_, fun p hp hf => ?_⟩
    ·rw [List.forIn_cons]
     show (if (NameKind.free == NameKind.free) = true then (do let a ← cellOf env n; pure (ForInStep.yield ((n, a) :: acc))) else _) >>= _ = _
     rw [if_pos (show (NameKind.free == NameKind.free) = true from rfl), hcell]
     exact e
    ·cases hx : x == n with
     | true => exact h2 x c (by rw [List.lookup_cons, hx])
     | false => exact h2 x d (by rw [List.lookup_cons, hx]; exact ex)
    ·rcases List.mem_cons.mp hp with rfl | hp
     ·exact h2 n c (by rw [List.lookup_cons, beq_self_eq_true])
     ·exact h3 p hp hf
   ·obtain ⟨cl, e, h1, h2, h3⟩ := ih acc (fun p hp => hn p (List.mem_cons_of_mem _ hp)) ha
    refine ⟨cl, ?_, h1, h2, fun p hp hf => ?_⟩
    ·rw [List.forIn_cons]
     show (if (k == NameKind.free) = true then _ else _) >>= _ = _
     rw [if_neg (by simpa using hk)]
     exact e
    ·rcases List.mem_cons.mp hp with rfl | hp
     ·exact absurd hf hk
     ·exact h3 p hp hf
 obtain ⟨cl, e, h1, _, h3⟩ := key scope.names [] h (fun x c e => by cases e)
 refine ⟨cl, ?_, h1, h3⟩
 show (forIn scope.names [] _ >>= fun r => pure r) = pure cl
 rw [bind_pure]
 exact e

theorem vV {α : Type} (x : Str) (k : α) (l : List (Str × α)) : List.lookup x ((x, k) :: l) = some k := by rw [List.lookup_cons, beq_self_eq_true]
theorem vW {α : Type} {x n : Str} (k : α) (l : List (Str × α)) (h : (x == n) = false) : List.lookup x ((n, k) :: l) = List.lookup x l := by rw [List.lookup_cons, h]
theorem yB {env : Env} {x : Str} : ∀ (names : List (Str × NameKind)),
  (names.map fun (n, k) => if (k == NameKind.free && env.scope.kind == .function && env.kindOf n == some .cell) then (n, NameKind.cell) else (n, k)).lookup x =
   (names.lookup x).map fun k => if (k == NameKind.free && env.scope.kind == .function && env.kindOf x == some .cell) then NameKind.cell else k
 | [] => rfl
 | (n, k) :: r => by
  have ih := @yB env x r
  show List.lookup x ((if (k == NameKind.free && env.scope.kind == .function && env.kindOf n == some .cell) = true then (n, NameKind.cell) else (n, k)) :: _) = _
  cases hx : x == n with
  | true =>
   have e : x = n := eq_of_beq hx
   subst e
   rw [vV]
   by_cases hc : (k == NameKind.free && env.scope.kind == .function && env.kindOf x == some .cell) = true
   ·rw [if_pos hc, vV]
    show _ = some (if (k == NameKind.free && env.scope.kind == .function && env.kindOf x == some .cell) = true then NameKind.cell else k)
    rw [if_pos hc]
   ·rw [if_neg hc, vV]
    show _ = some (if (k == NameKind.free && env.scope.kind == .function && env.kindOf x == some .cell) = true then NameKind.cell else k)
    rw [if_neg hc]
  | false =>
   rw [vW _ _ hx]
   by_cases hc : (k == NameKind.free && env.scope.kind == .function && env.kindOf n == some .cell) = true
   ·rw [if_pos hc, vW _ _ hx]; exact ih
   ·rw [if_neg hc, vW _ _ hx]; exact ih

noncomputable def cxC (X : Cx) (scope : Scope) (cl : List (Str × Addr)) (N : List Str) (fp : List Addr) (s : Shared) (H : Hp) : Cx where
 prog := X.prog
 w := X.w
 K := X.K
 mg := X.mg
 base := X.base
 A := X.A
 N := N
 s₀ := s
 H₀ := H
 env := compEnvC scope cl s.heap.objs.size X.env
 outer := X.stack
 stack := X.stack
 ex := fp
 fn := fun _ => false
 calm := X.calm
 pn := []
 xe := fun _ _ => False

noncomputable def PTs (X : Cx) (ifs : List Expr) (t : TT) : Prop :=
 ∀ (pins : List (Addr × Obj)) (s : Shared) (σ : St) (H : Hp) (Q : Bool → Hp → Prop), Inv X pins σ H s → t σ H Q →
  wpAny (model X.prog X.w) X.A (forIn ifs true fun c r => if r = true then do let ok ← isTrue c X.env (eval c X.env); pure (ForInStep.yield ok) else pure (ForInStep.yield r)) (TP X pins σ Q) X.xe s
noncomputable def tYes : TT := fun _ H Q => Q true H
theorem jQ {X : Cx} : PTs X [] tYes := fun _ _ _ H _ I h => wpAny_tests_nil ⟨H, I, h⟩
theorem pts_one {X : Cx} {c : Expr} {t : TT} (h : PT X c t) : PTs X [c] t := fun pins s σ H Q I q => wpAny_tests_one (h pins s σ H Q I q)

noncomputable def frees (js : List Nat) (σ : St) : St := js.map fun j => σ.getD j none
noncomputable abbrev stC (k : Nat) (js : List Nat) (σ : St) : St := List.replicate k none ++ frees js σ

noncomputable def rdC (k : Nat) (js : List Nat) (g : TG) (tt : TT) (te : TE) (J : It) (σ : St) (H1 : Hp) (Q : VK) : Prop := ∀ D, H1 D = none →
 ∃ W : Nat → Nat → List V → Hp → Prop, (∃ m, W 0 m [] (upd H1 D (.lst []))) ∧ ∀ i m ys H2, W i m ys H2 → H2 D = some (.lst ys) ∧
  ((J.stop i H2 ∧ Q (.ref D) H2) ∨ (J.go i H2 ∧ ∀ x H3, J.yld i H2 x H3 → g x (stC k js σ) H3 fun σ4 H4 => (∃ ow : St, ow.length = k ∧ σ4 = ow ++ frees js σ) ∧
   tt σ4 H4 fun b H5 => if b = true then te σ4 H5 fun y H6 => H6 D = some (.lst ys) ∧ ys.length < sizeLine ∧ ∃ m', m' < m ∧ W (i + 1) m' (ys ++ [y]) (upd H6 D (.lst (ys ++ [y])))
    else ∃ m', m' < m ∧ W (i + 1) m' ys H5))
noncomputable def tComp (k : Nat) (js : List Nat) (wi : TI) (g : TG) (tt : TT) (te : TE) : TE := fun σ H Q => wi σ H fun J H1 => rdC k js g tt te J σ H1 Q

structure CompOk (sc : Scope) (N0 : List Str) (scope : Scope) (N : List Str) (k : Nat) (js : List Nat) : Prop where
 kind : scope.kind = .function
 cell : ∀ y ∈ scope.names, y.2 ≠ .cell
 names : ∀ y ∈ scope.names, y.2 = .local → scope.names.lookup y.1 = some .local
 free : ∀ p ∈ scope.names, p.2 = .free → sc.names.lookup p.1 = some .cell ∨ sc.names.lookup p.1 = some .free
 fn : ∀ x ∈ N.drop k, scope.names.lookup x = some .free
 at' : js.map (fun j => N0[j]?) = (N.drop k).map some
 le : k ≤ N.length
 nd : N.Nodup

theorem jD {names : List (Str × NameKind)} {x : Str} {k : NameKind} (h : names.lookup x = some k) : (x, k) ∈ names := PySem.mem_of_lookup h

section
variable {X : Cx} {elt tg iter : Expr} {ifs : List Expr} {scope : Scope} {cpos : Pos} {N : List Str} {k : Nat} {js : List Nat} {cl : List (Str × Addr)} {g : TG} {tt : TT} {te : TE}

theorem inv_block {pins : List (Addr × Obj)} {σ : St} {H : Hp} {s : Shared} {fp : List Addr} {h₁ : Heap} {t' : Nat} {m : Str → Option Value} (C : CompOk X.env.scope X.N scope N k js)
  (hcl1 : ∀ x c, cl.lookup x = some c → X.env.cells.lookup x = some c) (hcl2 : ∀ p ∈ scope.names, p.2 = .free → ∃ c, cl.lookup p.1 = some c)
  (I : Inv X pins σ H s) (f2 : ∀ b ∈ fp, FpOk X pins H b) (flt : ∀ b ∈ fp, b < s.heap.objs.size) (hns : h₁.Ns s.heap.objs.size m) (keep : ∀ b o, s.heap.get? b = some o → h₁.get? b = some o) :
  Inv (cxC X scope cl N fp s H) [] (stC k js σ) H { s with heap := h₁, toks := t' } := by
 have relk : ∀ x, (cxC X scope cl N fp s H).env.kindOf x = (scope.names.lookup x).map fun k => if (k == NameKind.free && X.env.scope.kind == .function && X.env.kindOf x == some .cell) then NameKind.cell else k := fun x => yB scope.names
 have wasfree : ∀ x, ((cxC X scope cl N fp s H).env.kindOf x = some .cell ∨ (cxC X scope cl N fp s H).env.kindOf x = some .free) → scope.names.lookup x = some .free := fun x hx => by
  rw [relk x] at hx
  cases e : scope.names.lookup x with
  | none => rw [e] at hx; rcases hx with hx | hx <;> cases hx
  | some kd =>
   rw [e] at hx
   by_cases hk : kd = .free
   ·rw [hk]
   ·have hk' : (kd == NameKind.free) = false := by simpa using hk
    rw [Option.map_some, hk', Bool.false_and, Bool.false_and, if_neg Bool.false_ne_true] at hx
    rcases hx with hx | hx
    ·exact absurd (Option.some.inj hx) (C.cell _ (jD e))
    ·exact absurd (Option.some.inj hx) hk
 have clt : ∀ x c, cl.lookup x = some c → c < s.heap.objs.size := fun x c e => by
  obtain ⟨v, z⟩ := I.cell x c (hcl1 x c e)
  exact z.lt
 have ok : (cxC X scope cl N fp s H).Ok :=
  {mod := I.ok.mod
   kind := by show (relabel scope X.env).kind = _; exact C.kind
   glob := I.ok.glob
   blt := I.ok.blt
   above := Nat.le_refl _
   inj := fun x y c e1 e2 => I.ok.inj x y c (hcl1 x c e1) (hcl1 y c e2)
   has := fun x hx => hcl2 (x, .free) (jD (wasfree x hx)) rfl
   cab := fun x c z => by cases z
   hd := I.ok.hd
   frames := I.ok.frames
   stk := .inl rfl
   exf := fun b hb => ⟨Nat.ne_of_lt (flt b hb), fun x c e => (f2 b hb).2.2.2.2.1 x c (hcl1 x c e)⟩
   bs := fun b o e => I.bs b o e
   bsz := Nat.le_trans I.ok.bsz I.sz
   noex := fun b o e hb => by
    rcases (f2 b hb).2.2.2.1 with z | z
    ·exact I.ok.noex b o e z
    ·exact absurd (Nat.lt_of_lt_of_le (Heap.lt_size (I.ok.bs b o e).1) z) (Nat.lt_irrefl _)
   exfs := fun b hb z => by
    rcases List.mem_cons.mp (I.stkSub b z) with q | q
    ·exact (f2 b hb).2.1 q
    ·exact (f2 b hb).2.2.1 q
   funs := I.stack
   frf := I.stkFree }
 have hlen : (stC k js σ).length = N.length := by
  have q := congrArg List.length C.at'
  rw [List.length_map, List.length_map, List.length_drop] at q
  have := C.le
  show (List.replicate k none ++ frees js σ).length = N.length
  rw [List.length_append, List.length_replicate, frees, List.length_map]
  omega
 refine ⟨ok, rfl, I.bare, Un.kept keep, ⟨m, hns, fun i x v e1 e2 e3 => ?_⟩, fun x c e => ?_, I.hok.fresh (Nat.le_refl _), fun x c e => I.freeC x c (hcl1 x c e), fun p hp => absurd (show p ∈ ([] : List (Addr × Obj)) from hp) (by simp), I.hok.kept keep, hlen⟩
 ·have e1 : N[i]? = some x := e1
  have hik : k ≤ i := by
   by_cases hik : k ≤ i
   ·exact hik
   ·have e2' : (List.replicate k (none : Option V) ++ frees js σ)[i]? = some (some v) := e2
    rw [List.getElem?_append_left (by rw [List.length_replicate]; omega), List.getElem?_replicate] at e2'
    split at e2' <;> cases e2'
  obtain ⟨d, rfl⟩ : ∃ d, i = k + d := ⟨i - k, by omega⟩
  have e2' : (List.replicate k (none : Option V) ++ frees js σ)[k + d]? = some (some v) := e2
  rw [List.getElem?_append_right (by rw [List.length_replicate]; omega), List.length_replicate, Nat.add_sub_cancel_left, frees, List.getElem?_map] at e2'
  have ed : (N.drop k)[d]? = some x := by rw [List.getElem?_drop]; exact e1
  cases ej : js[d]? with
  | none => rw [ej] at e2'; cases e2'
  | some j =>
   rw [ej] at e2'
   have ev : σ.getD j none = some v := Option.some.inj e2'
   have ej2 : X.N[j]? = some x := by
    have q := congrArg (fun l => l[d]?) C.at'
    simp only [List.getElem?_map, ej, ed, Option.map_some] at q
    exact Option.some.inj q
   have eσ : σ[j]? = some (some v) := by
    rw [List.getD_eq_getElem?_getD] at ev
    cases z : σ[j]? with
    | none => rw [z] at ev; cases ev
    | some w => rw [z] at ev; exact congrArg some ev
   have hfx : scope.names.lookup x = some .free := C.fn x (List.mem_of_getElem? ed)
   have hX : X.env.scope.names.lookup x = some .cell ∨ X.env.scope.names.lookup x = some .free := C.free (x, .free) (jD hfx) rfl
   obtain ⟨mX, _, lX⟩ := I.loc
   obtain ⟨u, ru, lu⟩ := lX j x v ej2 eσ (hX.elim (fun z => .inr (.inl z)) fun z => .inr (.inr z))
   refine ⟨u, ru, .inr ⟨?_, ?_⟩⟩
   ·rw [relk x, hfx]
    show some (if _ then _ else _) = _ ∨ some (if _ then _ else _) = _
    split
    ·exact .inl rfl
    ·exact .inr rfl
   ·rcases lu with ⟨z, _⟩ | ⟨_, c, ec, ic⟩
    ·have z : X.env.scope.names.lookup x = some .local := z
     rcases hX with q | q <;> rw [q] at z <;> cases z
    ·obtain ⟨c', ec'⟩ := hcl2 (x, .free) (jD hfx) rfl
     have : c' = c := Option.some.inj ((hcl1 x c' ec').symm.trans ec)
     subst this
     obtain ⟨o, ho, hd⟩ := ic
     exact ⟨c', ec', o, keep _ _ ho, hd⟩
 ·obtain ⟨v, o, ho, hd⟩ := I.cell x c (hcl1 x c e)
  exact ⟨v, o, keep _ _ ho, hd⟩

theorem comp_run {pins : List (Addr × Obj)} {σ : St} {H2 : Hp} {s2 : Shared} {E : Value → Shared → Prop} {it : Addr} {fp : List Addr} {tn : Nat → Heap → Prop} {J : It} {Q : VK} {RR : Value → Addr → Result → Shared → Prop}
  (hc : X.calm = true) (C : CompOk X.env.scope X.N scope N k js) (hcl1 : ∀ x c, cl.lookup x = some c → X.env.cells.lookup x = some c) (hcl2 : ∀ p ∈ scope.names, p.2 = .free → ∃ c, cl.lookup p.1 = some c)
  (hg : ∀ fp s H, PG (cxC X scope cl N fp s H) tg g) (ht : ∀ fp s H, PTs (cxC X scope cl N fp s H) ifs tt) (he : ∀ fp s H, PE (cxC X scope cl N fp s H) elt te)
  (I : Inv X pins σ H2 s2) (T : Turn X.prog X.w X.K tg J fp it tn) (st : tn 0 s2.heap) (f2 : ∀ b ∈ fp, FpOk X pins H2 b) (rd : rdC k js g tt te J σ H2 Q)
  (fin : ∀ D L H' s', Inv X pins σ H' s' → FpOk X pins H' L → (∃ m, s'.heap.Ns L m) → Q (.ref D) H' → RR (.ref D) L (.ok .next) s') :
  wpAny (model X.prog X.w) X.A (newList []) (fun acc s₃ => wpAny (model X.prog X.w) X.A (newFunctionEnv scope X.env.globals cl [] X.env.qual none .none (some X.env)) (fun cenv s₄ =>
   codeAny (model X.prog X.w) X.A (.compStart (.ListComp elt [⟨tg, iter, ifs, 0⟩] scope cpos) 0 (.ref it) acc { cenv with scope := relabel scope X.env }) (RR acc cenv.locals) s₄) E s₃) E s2 := by
 refine wpAny_newObj_type (wpAny_newFunctionEnv C.cell (by intro y hy; simp at hy) (fun h₁ hns₁ hsb₁ => ?_) C.kind)
 dsimp only at hns₁ hsb₁ ⊢
 have hD : H2 s2.heap.objs.size = none := I.hok.fresh (Nat.le_refl _)
 have Id : Inv X pins σ (upd H2 s2.heap.objs.size (.lst [])) { s2 with heap := s2.heap.push { cls := .type "list", dict := none, data := .seq ([] : List Value).toArray } } :=
  I.laid (t' := s2.toks) (fun b u e => Heap.get?_push_of_some _ e) (Nat.le_refl _) ⟨Nat.zero_le _, [], 0, .nil, Heap.get?_push_size _ rfl⟩
 have kD : ∀ b o, s2.heap.get? b = some o → (s2.heap.push { cls := .type "list", dict := none, data := .seq ([] : List Value).toArray }).get? b = some o := fun b o e => Heap.get?_push_of_some _ e
 generalize hHd : s2.heap.push { cls := .type "list", dict := none, data := .seq ([] : List Value).toArray } = Hd at hns₁ hsb₁ Id kD ⊢
 have szd : Hd.objs.size = s2.heap.objs.size + 1 := by rw [← hHd, Heap.size_push]
 have keep : ∀ b o, Hd.get? b = some o → h₁.get? b = some o := fun b o e => hsb₁.extBut b o (Nat.ne_of_lt (Heap.lt_size e)) (Heap.get?_push_of_some _ e)
 have flt2 : ∀ b ∈ fp, b < s2.heap.objs.size := fun b hb => by
  obtain ⟨o, e, _⟩ := T.obj _ _ st b hb
  exact Heap.lt_size e
 have fd : ∀ b ∈ fp, FpOk X pins (upd H2 s2.heap.objs.size (.lst [])) b := fun b hb =>
  ⟨by rw [qA (Nat.ne_of_lt (flt2 b hb))]; exact (f2 b hb).1, (f2 b hb).2⟩
 obtain ⟨W, ⟨m0, w0⟩, turn⟩ := rd _ hD
 generalize hY : cxC X scope cl N fp { s2 with heap := Hd } (upd H2 s2.heap.objs.size (.lst [])) = Y
 have hg := hg fp { s2 with heap := Hd } (upd H2 s2.heap.objs.size (.lst []))
 have ht := ht fp { s2 with heap := Hd } (upd H2 s2.heap.objs.size (.lst []))
 have he := he fp { s2 with heap := Hd } (upd H2 s2.heap.objs.size (.lst []))
 have loop : ∀ s₃ : Shared, s₃ = { s2 with heap := h₁, toks := s2.toks + ([] : List (Str × Value)).length } →
   codeAny (model X.prog X.w) X.A (.compLoop (.ListComp elt [⟨tg, iter, ifs, 0⟩] scope cpos) 0 (.ref it) (.ref s2.heap.objs.size) (compEnvC scope cl Hd.objs.size X.env))
    (RR (.ref s2.heap.objs.size) Hd.objs.size) s₃ := by
  rintro s₃ rfl
  have IY : Inv Y [] (stC k js σ) (upd H2 s2.heap.objs.size (.lst [])) { s2 with heap := h₁, toks := s2.toks + ([] : List (Str × Value)).length } := by
   rw [← hY]
   exact inv_block (t' := s2.toks + ([] : List (Str × Value)).length) C hcl1 hcl2 Id fd (fun b hb => Nat.lt_of_lt_of_le (flt2 b hb) (by show s2.heap.objs.size ≤ Hd.objs.size; omega)) hns₁ keep
  rw [hY] at hg ht he
  have yprog : Y.prog = X.prog := by rw [← hY]; rfl
  have yw : Y.w = X.w := by rw [← hY]; rfl
  have yK : Y.K = X.K := by rw [← hY]; rfl
  have yA : Y.A = X.A := by rw [← hY]; rfl
  have yc : Y.calm = true := by rw [← hY]; exact hc
  have yenv : Y.env = compEnvC scope cl Hd.objs.size X.env := by rw [← hY]; rfl
  have yxe : Y.xe = fun _ _ => False := by rw [← hY]; rfl
  have ybase : ∀ {pn σ' H' s'}, Inv Y pn σ' H' s' → Un (frs X.stack) fp (upd H2 s2.heap.objs.size (.lst [])) H' Hd s'.heap ∧ s'.os = s2.os := fun {pn σ' H' s'} J => by
   have u := J.base
   have o := J.os
   rw [← hY] at u o
   exact ⟨u, o⟩
  have statY : ∀ {H' : Hp}, (∀ b ∈ fp, H' b = none) → ∀ b ∈ fp, FpOk Y [] H' b := fun {H'} hn b hb => by
   rw [← hY]
   refine ⟨hn b hb, Nat.ne_of_lt (Nat.lt_of_lt_of_le (flt2 b hb) (by show s2.heap.objs.size ≤ Hd.objs.size; omega)), ?_, .inl hb, fun x c e => (f2 b hb).2.2.2.2.1 x c (hcl1 x c e), fun p hp => absurd (show p ∈ ([] : List (Addr × Obj)) from hp) (by simp)⟩
   intro z
   rcases List.mem_cons.mp (I.stkSub b z) with q | q
   ·exact (f2 b hb).2.1 q
   ·exact (f2 b hb).2.2.1 q
  have st₁ : tn 0 h₁ := T.keep _ _ _ st fun b hb o e => keep b o (kD b o e)
  refine codeAny_loop rfl (fun n s' => ∃ i ys H', Inv Y [] (stC k js σ) H' s' ∧ tn i s'.heap ∧ (∀ b ∈ fp, H' b = none) ∧ W i n ys H') ?_ m0 ⟨0, [], _, IY, st₁, fun b hb => (fd b hb).1, w0⟩
  rintro n s3 ⟨i, ys, H3, I3, st3, fr3, w3⟩
  show wpAny _ X.A ((compTurn (.ListComp elt [⟨tg, iter, ifs, 0⟩] scope cpos) 0 (.ref it) (.ref s2.heap.objs.size) (compEnvC scope cl Hd.objs.size X.env)).onRaise (fun x => do noteFrame x (compEnvC scope cl Hd.objs.size X.env); theTreesLotGoes x)) _ _ s3
  refine wpAny_noted ?_
  rw [compTurn_list]
  obtain ⟨hDs, tr⟩ := turn i n ys H3 w3
  have hPE : ∀ {α : Type} {t : Sem α} {R R' : α → Shared → Prop} {E' : Value → Shared → Prop} {s : Shared}, wpAny (model Y.prog Y.w) Y.A t R Y.xe s → (∀ a s, R a s → R' a s) → wpAny (model X.prog X.w) X.A t R' E' s := fun {α t R R' E' s} h hQ => by
   rw [yprog, yw, yA, yxe] at h
   exact wpAny_mono h hQ fun _ _ z => z.elim
  rcases tr with ⟨stop, qn⟩ | ⟨go, step⟩
  ·refine wpAny_bind (wpAny_standAt (wpAny_bind ?_))
   have dn := T.done Y yprog yw yK yc i [] s3 (stC k js σ) H3 (fun _ _ => False) I3 (statY fr3) st3 stop
   rw [yA] at dn
   refine wpAny_mono dn (fun r s4 ⟨hr, I4⟩ => ?_) fun _ _ z => z.elim
   subst hr
   obtain ⟨u4, o4⟩ := ybase I4
   refine wpAny_pure (fin _ _ H3 s4 ?_ ?_ ?_ qn)
   ·refine I.call' (ch := fp) o4 ((Un.laid (fun b o e => kD b o e) (Nat.le_refl _) hD).trans u4) (by have := I4.hok; rw [yprog, yw] at this; exact this) I4.bare fun b hb => ?_
    obtain ⟨_, q1, q2, q3, q4, q5⟩ := f2 b hb
    exact ⟨q3, q1, q4, q5⟩
   ·refine I.fpOk (by show s2.heap.objs.size ≤ Hd.objs.size; omega) ?_
    have := I4.free
    rw [yenv] at this
    exact this
   ·obtain ⟨m, hn, _⟩ := I4.loc
    rw [yenv] at hn
    exact ⟨m, hn⟩
  ·refine wpAny_bind (wpAny_standAt (wpAny_bind ?_))
   have itm := T.item Y yprog yw yK yc i [] s3 (stC k js σ) H3 (fun _ _ => False) I3 (statY fr3) st3 go
   rw [yA] at itm
   refine wpAny_mono itm (fun r s4 ⟨u, hr, h4⟩ => ?_) fun _ _ z => z.elim
   subst hr
   refine wpAny_bind (wpAny_mono h4 (fun _ s5 ⟨x, H5, I5, r5, y5, st5, fr5⟩ => ?_) fun _ _ z => z.elim)
   have I5' := I5.pinned (statY fr5) (T.obj _ _ st5)
   have as := hg _ s5 (stC k js σ) H5 x u _ I5' r5 (step x H5 y5)
   rw [yenv] at as
   refine wpAny_bind (hPE as fun _ s6 ⟨σ6, H6, I6, ⟨ow, eow, e6⟩, q6⟩ => ?_)
   have again : ∀ {H7 : Hp} {s7 : Shared} {zs : List V}, Inv Y ([] ++ pinsAt fp s5.heap) σ6 H7 s7 → (∃ m', m' < n ∧ W (i + 1) m' zs H7) →
     ∃ m, m < n ∧ ∃ i ys H', Inv Y [] (stC k js σ) H' s7 ∧ tn i s7.heap ∧ (∀ b ∈ fp, H' b = none) ∧ W i m ys H' := fun {H7 s7 zs} I7 ⟨m', hm, w7⟩ => by
    have J7 : Inv Y ([] ++ pinsAt fp s5.heap) (stC k js σ) H7 s7 := by
     refine I7.weak ?_ fun j v e => ?_
     ·rw [e6]
      show (List.replicate k none ++ frees js σ).length = _
      rw [List.length_append, List.length_append, List.length_replicate, eow]
     ·have e : (List.replicate k (none : Option V) ++ frees js σ)[j]? = some (some v) := e
      rw [e6]
      by_cases hj : j < k
      ·rw [List.getElem?_append_left (by rw [List.length_replicate]; exact hj), List.getElem?_replicate] at e
       split at e <;> cases e
      ·rw [List.getElem?_append_right (by rw [List.length_replicate]; omega), List.length_replicate] at e
       rw [List.getElem?_append_right (by omega), eow]
       exact e
    refine ⟨m', hm, i + 1, zs, H7, J7.unpinned, T.keep _ _ _ st5 fun b hb o e => (I7.pin (b, o) (List.mem_append_right _ (List.mem_append_right _ (jU hb e)))).1, fun b hb => ?_, w7⟩
    obtain ⟨o, e, d⟩ := T.obj _ _ st5 b hb
    exact (I7.pin (b, o) (List.mem_append_right _ (List.mem_append_right _ (jU hb e)))).2.1
   have tst := ht _ s6 σ6 H6 _ I6 q6
   rw [yenv] at tst
   refine wpAny_bind (hPE tst fun b s7 ⟨H7, I7, q7⟩ => ?_)
   cases b with
   | false => exact wpAny_pure ⟨rfl, again I7 q7⟩
   | true =>
    have ev := he _ s7 σ6 H7 _ I7 q7
    rw [yenv] at ev
    refine wpAny_bind (wpAny_bind (hPE ev fun v s8 ⟨y, H8, I8, r8, q8, z8, w8⟩ => ?_))
    refine wpAny_bind (hPE (zF (X := Y) _ s8 σ6 H8 (.ref s2.heap.objs.size) [y] (.ref s2.heap.objs.size) [v] (fun _ H9 => H9 = upd H8 s2.heap.objs.size (.lst (ys ++ [y]))) I8 rfl (.cons r8 .nil) ⟨_, ys, y, rfl, rfl, q8, z8, rfl⟩) fun _ s9 ⟨_, H9, I9, _, e9⟩ => ?_)
    subst e9
    exact wpAny_pure (wpAny_pure ⟨rfl, again I9 w8⟩)
 exact codeAny_compStart_list (loop _ rfl) (T.self _ 0 _ _ _ (T.keep _ _ _ st fun b hb o e => keep b o (kD b o e)) (loop _ rfl))

theorem hcl_of {pins : List (Addr × Obj)} {σ : St} {H : Hp} {s : Shared} (I : Inv X pins σ H s) (C : CompOk X.env.scope X.N scope N k js) : ∀ p ∈ scope.names, p.2 = .free → ∃ c, X.env.cells.lookup p.1 = some c :=
 fun p hp hf => I.ok.has p.1 (C.free p hp hf)

theorem jZ {wi : TI} {sc : Scope} {N0 : List Str} (hc : X.calm = true) (C : CompOk sc N0 scope N k js) (hi : PI X tg iter wi)
  (hg : ∀ cl fp s H, PG (cxC X scope cl N fp s H) tg g) (ht : ∀ cl fp s H, PTs (cxC X scope cl N fp s H) ifs tt) (he : ∀ cl fp s H, PE (cxC X scope cl N fp s H) elt te)
  (hs : ∀ x, foldedSetIterable iter X.env x = pure x := by intro _; rfl) (hsc : X.env.scope = sc := by rfl) (hN0 : X.N = N0 := by rfl) : PE X (.ListComp elt [⟨tg, iter, ifs, 0⟩] scope cpos) (tComp k js wi g tt te) := by
 subst hsc hN0
 intro pins s σ H Q I h
 obtain ⟨cl, e, h1, h2⟩ := closure_of (hcl_of I C)
 rw [eval_ListComp]
 refine wpAny_comprehension_free (use := none) rfl hs e C.kind C.names (thn (hi pins s σ H _ I h) fun v s1 q => thn q fun itv s2 q2 => ?_)
 obtain ⟨it, fp, tn, J, H2, rfl, I2, T, st, f2, rd⟩ := q2
 refine comp_run (RR := fun acc L => compPost (model X.prog X.w) X.A X.xe none (EP X pins σ Q) acc L) hc C h1 h2 (hg cl) (ht cl) (he cl) I2 T st f2 rd ?_
 intro D L H' s' I' ⟨f0, f1, _, f3, f4, f5⟩ ⟨m, hn⟩ q
 refine ⟨m, hn, fun h' sb => ⟨.ref D, H', ?_, rfl, q⟩⟩
 exact I'.turned (t' := s'.toks) (fun b o hb e => (sb.2 b hb).trans e) f0 f1 f3 f4 f5

theorem jT {wi : TI} {i : Nat} {x : Str} {pos pos' : Pos} {sc : Scope} {N0 : List Str} (hN : X.N.Nodup) (hi' : X.N[i]? = some x) (hx : Loc X.env.scope x) (hc : X.calm = true) (C : CompOk sc N0 scope N k js) (hi : PI X tg iter wi)
  (hg : ∀ cl fp s H, PG (cxC X scope cl N fp s H) tg g) (ht : ∀ cl fp s H, PTs (cxC X scope cl N fp s H) ifs tt) (he : ∀ cl fp s H, PE (cxC X scope cl N fp s H) elt te)
  (hsw : swapsWith (.ListComp elt [⟨tg, iter, ifs, 0⟩] scope cpos) (some (.Name x pos')) pos.line X.env = pure true := by rfl)
  (hs : ∀ x, foldedSetIterable iter X.env x = pure x := by intro _; rfl) (hsc : X.env.scope = sc := by rfl) (hN0 : X.N = N0 := by rfl) (hf : X.fn x = true ∨ X.env.scope.names.lookup x = some .local := by first | exact .inl rfl | exact .inr rfl | assumption) :
  PS X (.Assign [.Name x pos'] (.ListComp elt [⟨tg, iter, ifs, 0⟩] scope cpos) pos) (tAsg (tComp k js wi g tt te) (gName i)) := by
 subst hsc hN0
 intro pins s σ H D I h
 obtain ⟨cl, e, h1, h2⟩ := closure_of (hcl_of I C)
 rw [exec_Assign_Name_used _ _ _ _ hsw]
 refine wpAny_bind (wpAny_standAt (wpAny_bind ?_))
 show wpAny _ X.A (do let _ ← comprehension (.ListComp elt [⟨tg, iter, ifs, 0⟩] scope cpos) scope X.env _ (newList []) false (eval iter X.env) (some (assign (.Name x pos') X.env))) _ _ s
 refine wpAny_bind (wpAny_mono (wpAny_comprehension_free (use := some (assign (.Name x pos') X.env)) (Q := fun _ s' => SP X pins D .next s') rfl hs e C.kind C.names
  (thn (hi pins s σ H _ I h) fun v s1 q => thn q fun itv s2 q2 => ?_)) (fun _ s' hq => wpAny_pure (wpAny_pure hq)) fun _ _ z => z)
 obtain ⟨it, fp, tn, J, H2, rfl, I2, T, st, f2, rd⟩ := q2
 refine comp_run (RR := fun acc L => compPost (model X.prog X.w) X.A X.xe (some (assign (.Name x pos') X.env)) (fun _ s' => SP X pins D .next s') acc L) hc C h1 h2 (hg cl) (ht cl) (he cl) I2 T st f2 rd ?_
 intro A' L H' s' I' ⟨f0, f1, f2', f3, f4, f5⟩ ⟨m, hn⟩ q
 show wpAny _ X.A (assign (.Name x pos') X.env (.ref A')) _ _ s'
 refine wpAny_assign_Name (store_ok2 (v := V.ref A') I' hN hi' hx rfl (fun s'' I'' ⟨a, sb, ha⟩ => ?_) hf)
 have hLa : L ≠ a := by
  rcases ha with rfl | ha
  ·exact f1
  ·exact fun z => f4 x a ha z.symm
 refine ⟨m, hn.sameBut sb hLa, fun h' sb' => ⟨σ.set i (some (.ref A')), H', ?_, q⟩⟩
 exact I''.turned (t' := s''.toks) (fun b o hb e => (sb'.2 b hb).trans e) f0 f1 f3 f4 f5
end

noncomputable abbrev turnC (k : Nat) (js : List Nat) (g : TG) (tt : TT) (te : TE) (σ : St) (D : Addr) (x : V) (ys : List V) (H : Hp) (N : List V → Hp → Prop) : Prop :=
 g x (stC k js σ) H fun σ4 H4 => (∃ ow : St, ow.length = k ∧ σ4 = ow ++ frees js σ) ∧
  tt σ4 H4 fun b H5 => if b = true then te σ4 H5 fun y H6 => H6 D = some (.lst ys) ∧ ys.length < sizeLine ∧ N (ys ++ [y]) (upd H6 D (.lst (ys ++ [y]))) else N ys H5
section
variable {K : PySem.W.Frag} {a : Addr} {xs : List V} {k : Nat} {js : List Nat} {g : TG} {tt : TT} {te : TE} {σ : St} {H1 : Hp} {Q : VK}
theorem jP (Pv : Addr → Nat → List V → Hp → Prop) (h0 : ∀ D, H1 D = none → Pv D 0 [] (upd H1 D (.lst [])))
  (hl : ∀ D i ys H, i ≤ xs.length → Pv D i ys H → SqL K H a xs)
  (hs : ∀ D i x ys H (N : List V → Hp → Prop), H1 D = none → H D = some (.lst ys) → xs[i]? = some x → Pv D i ys H → (∀ zs H', H' D = some (.lst zs) → Pv D (i + 1) zs H' → N zs H') → turnC k js g tt te σ D x ys H N)
  (hd : ∀ D ys H, H1 D = none → H D = some (.lst ys) → Pv D xs.length ys H → Q (.ref D) H) : rdC k js g tt te (Itl K a) σ H1 Q := by
 intro D hD
 refine ⟨fun i m ys H => m = xs.length - i ∧ i ≤ xs.length ∧ H D = some (.lst ys) ∧ Pv D i ys H, ⟨xs.length, by simp, Nat.zero_le _, qW, h0 D hD⟩, ?_⟩
 rintro i m ys H ⟨rfl, hi, hDy, p⟩
 refine ⟨hDy, ?_⟩
 have q := hl D i ys H hi p
 by_cases hlt : i < xs.length
 ·refine .inr ⟨⟨xs, xs[i], q, by simp [hlt]⟩, fun x H' y => ?_⟩
  obtain ⟨e, y⟩ := y
  subst e
  exact hs D i x ys _ (fun zs H' => ∃ m', m' < xs.length - i ∧ m' = xs.length - (i + 1) ∧ i + 1 ≤ xs.length ∧ H' D = some (.lst zs) ∧ Pv D (i + 1) zs H') hD hDy (y xs q) p fun zs H' e p' => ⟨xs.length - (i + 1), by omega, rfl, hlt, e, p'⟩
 ·have e : i = xs.length := by omega
  subst e
  exact .inl ⟨⟨xs, q, Nat.le_refl _⟩, hd D ys H hD hDy p⟩
theorem comp_tup (Pv : Addr → Nat → List V → Hp → Prop) (h0 : ∀ D, H1 D = none → Pv D 0 [] (upd H1 D (.lst [])))
  (hl : ∀ D i ys H, i ≤ xs.length → Pv D i ys H → SqT K H a xs)
  (hs : ∀ D i x ys H (N : List V → Hp → Prop), H1 D = none → H D = some (.lst ys) → xs[i]? = some x → Pv D i ys H → (∀ zs H', H' D = some (.lst zs) → Pv D (i + 1) zs H' → N zs H') → turnC k js g tt te σ D x ys H N)
  (hd : ∀ D ys H, H1 D = none → H D = some (.lst ys) → Pv D xs.length ys H → Q (.ref D) H) : rdC k js g tt te (Itt K a) σ H1 Q := by
 intro D hD
 refine ⟨fun i m ys H => m = xs.length - i ∧ i ≤ xs.length ∧ H D = some (.lst ys) ∧ Pv D i ys H, ⟨xs.length, by simp, Nat.zero_le _, qW, h0 D hD⟩, ?_⟩
 rintro i m ys H ⟨rfl, hi, hDy, p⟩
 refine ⟨hDy, ?_⟩
 have q := hl D i ys H hi p
 by_cases hlt : i < xs.length
 ·refine .inr ⟨⟨xs, xs[i], q, by simp [hlt]⟩, fun x H' y => ?_⟩
  obtain ⟨e, y⟩ := y
  subst e
  exact hs D i x ys _ (fun zs H' => ∃ m', m' < xs.length - i ∧ m' = xs.length - (i + 1) ∧ i + 1 ≤ xs.length ∧ H' D = some (.lst zs) ∧ Pv D (i + 1) zs H') hD hDy (y xs q) p fun zs H' e p' => ⟨xs.length - (i + 1), by omega, rfl, hlt, e, p'⟩
 ·have e : i = xs.length := by omega
  subst e
  exact .inl ⟨⟨xs, q, Nat.le_refl _⟩, hd D ys H hD hDy p⟩
theorem kJ {lo : Int} {n : Nat} (Pv : Addr → Nat → List V → Hp → Prop) (h0 : ∀ D, H1 D = none → Pv D 0 [] (upd H1 D (.lst [])))
  (hs : ∀ D i ys H (N : List V → Hp → Prop), H1 D = none → H D = some (.lst ys) → i < n → Pv D i ys H → (∀ zs H', H' D = some (.lst zs) → Pv D (i + 1) zs H' → N zs H') → turnC k js g tt te σ D (.int (lo + i)) ys H N)
  (hd : ∀ D ys H, H1 D = none → H D = some (.lst ys) → Pv D n ys H → Q (.ref D) H) : rdC k js g tt te (Itr lo n) σ H1 Q := by
 intro D hD
 refine ⟨fun i m ys H => m = n - i ∧ i ≤ n ∧ H D = some (.lst ys) ∧ Pv D i ys H, ⟨n, by simp, Nat.zero_le _, qW, h0 D hD⟩, ?_⟩
 rintro i m ys H ⟨rfl, hi, hDy, p⟩
 refine ⟨hDy, ?_⟩
 by_cases hlt : i < n
 ·refine .inr ⟨hlt, fun x H' y => ?_⟩
  obtain ⟨e, y⟩ := y
  subst e y
  exact hs D i ys _ (fun zs H' => ∃ m', m' < n - i ∧ m' = n - (i + 1) ∧ i + 1 ≤ n ∧ H' D = some (.lst zs) ∧ Pv D (i + 1) zs H') hD hDy hlt p fun zs H' e p' => ⟨n - (i + 1), by omega, rfl, hlt, e, p'⟩
 ·have e : i = n := by omega
  subst e
  exact .inl ⟨Nat.le_refl _, hd D ys H hD hDy p⟩
end
noncomputable def scopeOf (e : Expr) : Scope := match e with
 | .ListComp _ _ s _ => s
 | _ => { kind := .function, names := [], isGenerator := false, isCoroutine := false }
end L2

namespace L2
open PySem PySem.Spec PyProof.Rows

theorem log2_lt {n k : Nat} (h : n < 2 ^ (k + 1)) : n.log2 ≤ k := by
 by_cases h0 : n = 0
 ·subst h0; simp
 ·exact Nat.lt_succ_iff.mp ((Nat.log2_lt h0).mpr h)
theorem bits_of {a : Int} (h : a.natAbs < 2 ^ 1000) : Builtin.Int.intBits a ≤ 2 ^ 20 := by
 unfold Builtin.Int.intBits
 split
 ·exact Nat.zero_le _
 ·have := log2_lt (n := a.natAbs) (k := 999) h
  have e : (2 : Nat) ^ 20 = 1048576 := by decide
  omega
theorem mulOk {a b : Int} (ha : a.natAbs < 2 ^ 1000) (hb : b.natAbs < 2 ^ 1000) : IntMulOk a b := IntMulOk.of_bits (bits_of ha) (bits_of hb)
section
variable {X : Cx} {a b : Expr} {ta tb : TE} {pos : Pos}
theorem yD : OpR X (binaryOp .Mult) (rI (fun i j => i.natAbs < 2 ^ 1000 ∧ j.natAbs < 2 ^ 1000) fun i j => .int (i * j)) := opI fun _ _ _ _ _ _ _ hc q => mul_int q (mulOk hc.1 hc.2)
theorem op_fdivB : OpR X (binaryOp .FloorDiv) (rI (fun _ j => 0 < j ∧ j.natAbs < 2 ^ 1000) fun i j => .int (i / j)) := opI fun i j _ _ _ _ _ hc q => by
 have h0 : j ≠ 0 := by have := hc.1; omega
 have e : i.fdiv j = i / j := Int.fdiv_eq_ediv_of_nonneg _ (by have := hc.1; omega)
 refine floordiv_int h0 (by rw [e]; exact q) (.inl (PyProof.noPylong_of_log2 ?_))
 have := log2_lt (n := j.natAbs) (k := 999) hc.2
 omega

theorem op_repS : OpR X (binaryOp .Mult) (fun x y H Q => ∃ z n, x = .str z ∧ y = .int n ∧ -1000 ≤ n ∧ n ≤ 1000 ∧ z.length ≤ 1000 ∧ Q (.str (Txt.mul z n)) H) := by
 intro pins s σ H x y v u Q I rx ry h
 obtain ⟨z, n, rfl, rfl, h0, h1, h2, q⟩ := h
 obtain ⟨t, rfl⟩ := rx
 obtain ⟨t', rfl⟩ := ry
 refine SB.mul ⟨?_, fun a b => ?_, fun a b => ?_⟩ fun t'' k => ⟨.str (Txt.mul z n), H, I.tok _, ⟨_, rfl⟩, q⟩
 ·rw [decide_eq_false (by omega), decide_eq_false (by omega)]; rfl
 ·intro c
  have : (2 ^ 63 - 1) / n ≥ (2 ^ 63 - 1) / 1000 := by
   apply Int.le_ediv_of_mul_le (by omega)
   have : (2 ^ 63 - 1 : Int) / 1000 * n ≤ (2 ^ 63 - 1) / 1000 * 1000 := Int.mul_le_mul_of_nonneg_left h1 (by decide)
   exact Int.le_trans this (by decide)
  have e : ((2 : Int) ^ 63 - 1) / 1000 = 9223372036854775 := by decide
  omega
 ·show decide (z.length * n.toNat > sizeLine) = false
  refine decide_eq_false ?_
  have : z.length * n.toNat ≤ 1000 * 1000 := Nat.mul_le_mul h2 (by omega)
  have e : sizeLine = 16777216 := by decide
  omega
theorem fold_size (x : Array Nat) : ∀ (k : Nat) (acc : Array Nat), ((List.replicate k x).foldl (· ++ ·) acc).size = acc.size + k * x.size
 | 0, acc => by simp
 | k + 1, acc => by
  rw [List.replicate_succ, List.foldl_cons, fold_size x k, Array.size_append, Nat.succ_mul]
  omega
theorem mul_len (x : Str) (n : Int) : (Txt.mul x n).length ≤ x.length * n.toNat := by
 unfold Txt.mul
 split
 ·exact Nat.zero_le _
 ·split
  ·rename_i h1 h2
   have : 1 ≤ n.toNat := by omega
   exact Nat.le_mul_of_pos_right _ (by omega)
  ·show ((List.replicate n.toNat x.cps).foldl (· ++ ·) #[]).size ≤ _
   rw [fold_size, Nat.mul_comm]
   exact Nat.le_of_eq (by simp [Str.length])

inductive DEq (K : PySem.W.Frag) (H : Hp) : Nat → V → V → Prop
 | int {n} (i : Int) : DEq K H n (.int i) (.int i)
 | str {n} (x : Str) : DEq K H n (.str x) (.str x)
 | bl {n} (b : Bool) : DEq K H n (.bl b) (.bl b)
 | non {n} : DEq K H n .non .non
 | same {n} (a : Addr) : DEq K H n (.ref a) (.ref a)
 | lst {n} {a b : Addr} {xs ys : List V} : SqL K H a xs → SqL K H b ys → xs.length = ys.length → (∀ (j : Nat) x y, xs[j]? = some x → ys[j]? = some y → DEq K H n x y) → DEq K H (n + 1) (.ref a) (.ref b)
 | tup {n} {a b : Addr} {xs ys : List V} : SqT K H a xs → SqT K H b ys → xs.length = ys.length → (∀ (j : Nat) x y, xs[j]? = some x → ys[j]? = some y → DEq K H n x y) → DEq K H (n + 1) (.ref a) (.ref b)
theorem yT (n : Nat) : (List.range n).all (fun _ => true) = true := List.all_eq_true.mpr fun _ _ => rfl
theorem Inv.deq {pins : List (Addr × Obj)} {σ : St} {H : Hp} {s : Shared} (I : Inv X pins σ H s) : ∀ {n : Nat} {x y : V}, DEq X.K H n x y → ∀ {A : Around} {u v : Value}, RelV x u → RelV y v → A.units + n < cLine → SeqAt.EqAt A s u v true := by
 intro n x y d
 induction d with
 | int i => intro A u v r q _; obtain ⟨t, rfl⟩ := r; obtain ⟨t', rfl⟩ := q; have := SeqAt.EqAt.int_int (A := A) (s := s) i t i t'; rwa [beq_self_eq_true] at this
 | str i => intro A u v r q _; obtain ⟨t, rfl⟩ := r; obtain ⟨t', rfl⟩ := q; have := SeqAt.EqAt.str_str (A := A) (s := s) i t i t'; rwa [beq_self_eq_true] at this
 | bl i => intro A u v r q _; cases r; cases q; exact SeqAt.EqAt.same _
 | non => intro A u v r q _; cases r; cases q; exact SeqAt.EqAt.same _
 | same a => intro A u v r q _; cases r; cases q; exact SeqAt.EqAt.same _
 | @lst n a b xs ys ha hb hl _ ih =>
  intro A u v r q hu
  cases r; cases q
  obtain ⟨its, r1, p1, _⟩ := I.list ha
  obtain ⟨its2, r2, p2, _⟩ := I.list hb
  by_cases hab : a = b
  ·subst hab; exact SeqAt.EqAt.same _
  ·refine SeqAt.EqAt.of_refs hab ?_
   have sz : its.toArray.size = its2.toArray.size := by rw [List.size_toArray, List.size_toArray, ← r1.length, ← r2.length, hl]
   have := SeqAt.RcAt.lists (A := A) (s := s) (e := fun _ => true) p1.isList p2.isList sz (by omega) fun j h1 h2 => ?_
   ·rwa [yT] at this
   ·have h1' : j < xs.length := by rw [r1.length]; simpa using h1
    have h2' : j < ys.length := by rw [← hl]; exact h1'
    obtain ⟨u1, e1, q1⟩ := r1.get (List.getElem?_eq_getElem h1')
    obtain ⟨u2, e2, q2⟩ := r2.get (List.getElem?_eq_getElem h2')
    have g1 : its.toArray[j] = u1 := by
     have : its[j]? = some its.toArray[j] := by simp
     exact Option.some.inj (this.symm.trans e1)
    have g2 : its2.toArray[j] = u2 := by
     have : its2[j]? = some its2.toArray[j] := by simp
     exact Option.some.inj (this.symm.trans e2)
    rw [g1, g2]
    exact ih j _ _ (List.getElem?_eq_getElem h1') (List.getElem?_eq_getElem h2') q1 q2 (by show A.units + 1 + n < cLine; omega)
 | @tup n a b xs ys ha hb hl _ ih =>
  intro A u v r q hu
  cases r; cases q
  obtain ⟨its, r1, p1, _⟩ := I.tuple ha
  obtain ⟨its2, r2, p2, _⟩ := I.tuple hb
  by_cases hab : a = b
  ·subst hab; exact SeqAt.EqAt.same _
  ·refine SeqAt.EqAt.of_refs hab ?_
   have sz : its.toArray.size = its2.toArray.size := by rw [List.size_toArray, List.size_toArray, ← r1.length, ← r2.length, hl]
   have := SeqAt.RcAt.tuples (A := A) (s := s) (e := fun _ => true) (show s.heap.IsTuple a its.toArray from p1) (show s.heap.IsTuple b its2.toArray from p2) (by omega) fun j h1 h2 => ?_
   ·rw [yT, sz, beq_self_eq_true] at this
    exact this
   ·have h1' : j < xs.length := by rw [r1.length]; simpa using h1
    have h2' : j < ys.length := by rw [← hl]; exact h1'
    obtain ⟨u1, e1, q1⟩ := r1.get (List.getElem?_eq_getElem h1')
    obtain ⟨u2, e2, q2⟩ := r2.get (List.getElem?_eq_getElem h2')
    have g1 : its.toArray[j] = u1 := by
     have : its[j]? = some its.toArray[j] := by simp
     exact Option.some.inj (this.symm.trans e1)
    have g2 : its2.toArray[j] = u2 := by
     have : its2[j]? = some its2.toArray[j] := by simp
     exact Option.some.inj (this.symm.trans e2)
    rw [g1, g2]
    exact ih j _ _ (List.getElem?_eq_getElem h1') (List.getElem?_eq_getElem h2') q1 q2 (by show A.units + 1 + n < cLine; omega)
noncomputable def rEqL (K : PySem.W.Frag) (k : Bool) : R2 := fun x y H Q => ∃ n a b xs ys, n ≤ 60 ∧ x = .ref a ∧ y = .ref b ∧ SqL K H a xs ∧ SqL K H b ys ∧ xs.length = ys.length ∧ (∀ (j : Nat) x y, xs[j]? = some x → ys[j]? = some y → DEq K H n x y) ∧ Q (.bl k) H
theorem vD {pins : List (Addr × Obj)} {σ : St} {H : Hp} {s : Shared} (I : Inv X pins σ H s) {n : Nat} {xs ys : List V} {its its2 : List Value} (r1 : Vals xs its) (r2 : Vals ys its2) (hl : xs.length = ys.length)
  (hd : ∀ (j : Nat) x y, xs[j]? = some x → ys[j]? = some y → DEq X.K H n x y) {A : Around} (hu : A.units + n < cLine) : ∀ j (h1 : j < its.toArray.size) (h2 : j < its2.toArray.size), SeqAt.EqAt A s its.toArray[j] its2.toArray[j] true := by
 intro j h1 h2
 have h1' : j < xs.length := by rw [r1.length]; simpa using h1
 have h2' : j < ys.length := by rw [← hl]; exact h1'
 obtain ⟨u1, e1, q1⟩ := r1.get (List.getElem?_eq_getElem h1')
 obtain ⟨u2, e2, q2⟩ := r2.get (List.getElem?_eq_getElem h2')
 have g1 : its.toArray[j] = u1 := by
  have : its[j]? = some its.toArray[j] := by simp
  exact Option.some.inj (this.symm.trans e1)
 have g2 : its2.toArray[j] = u2 := by
  have : its2[j]? = some its2.toArray[j] := by simp
  exact Option.some.inj (this.symm.trans e2)
 rw [g1, g2]
 exact I.deq (hd j _ _ (List.getElem?_eq_getElem h1') (List.getElem?_eq_getElem h2')) q1 q2 hu
theorem op_eqL (hu : X.A.units + 64 < cLine) : OpR X (compareOp .Eq) (rEqL X.K true) := by
 intro pins s σ H x y v u Q I rx ry h
 obtain ⟨n, a, b, xs, ys, hn, rfl, rfl, ha, hb, hl, hd, q⟩ := h
 cases rx; cases ry
 obtain ⟨its, r1, p1, _⟩ := I.list ha
 obtain ⟨its2, r2, p2, _⟩ := I.list hb
 have sz : its.toArray.size = its2.toArray.size := by rw [List.size_toArray, List.size_toArray, ← r1.length, ← r2.length, hl]
 refine SeqAt.RcAt.lists (e := fun _ => true) p1.isList p2.isList sz (by omega) (vD I r1 r2 hl hd (by show X.A.units + 1 + n < cLine; omega)) _ _ _ _ ?_
 rw [yT]
 exact ⟨.bl true, H, I, rfl, q⟩
theorem op_neL (hu : X.A.units + 64 < cLine) : OpR X (compareOp .NotEq) (rEqL X.K false) := by
 intro pins s σ H x y v u Q I rx ry h
 obtain ⟨n, a, b, xs, ys, hn, rfl, rfl, ha, hb, hl, hd, q⟩ := h
 cases rx; cases ry
 obtain ⟨its, r1, p1, _⟩ := I.list ha
 obtain ⟨its2, r2, p2, _⟩ := I.list hb
 have sz : its.toArray.size = its2.toArray.size := by rw [List.size_toArray, List.size_toArray, ← r1.length, ← r2.length, hl]
 refine SeqAt.RcNeAt.lists (e := fun _ => true) p1.isList p2.isList sz (by omega) (vD I r1 r2 hl hd (by show X.A.units + 1 + n < cLine; omega)) _ _ _ _ ?_
 rw [yT]
 exact ⟨.bl false, H, I, rfl, q⟩
theorem op_neE (hu : X.A.units + 64 < cLine) : OpR X (compareOp .NotEq) (fun x y H Q => ∃ a b xs, x = .ref a ∧ y = .ref b ∧ SqL X.K H a xs ∧ SqL X.K H b [] ∧ Q (.bl (!xs.isEmpty)) H) := by
 intro pins s σ H x y v u Q I rx ry h
 obtain ⟨a, b, xs, rfl, rfl, ha, hb, q⟩ := h
 cases xs with
 | nil => exact op_neL hu pins s σ H _ _ v u Q I rx ry ⟨0, a, b, [], [], by omega, rfl, rfl, ha, hb, rfl, fun j x y e => by simp at e, q⟩
 | cons z zs =>
  cases rx; cases ry
  obtain ⟨its, r1, p1, _⟩ := I.list ha
  obtain ⟨its2, r2, p2, _⟩ := I.list hb
  have l1 := r1.length
  have l2 := r2.length
  refine SeqAt.RcNeAt.lists_lengths p1.isList p2.isList ?_ (by omega) _ _ _ _ ⟨.bl true, H, I, rfl, q⟩
  simp only [List.length_cons, List.length_nil] at l1 l2
  rw [bne_iff_ne, List.size_toArray, List.size_toArray]
  omega
theorem op_eqT (hu : X.A.units + 64 < cLine) : OpR X (compareOp .Eq) (fun x y H Q => ∃ n a b xs ys, n ≤ 60 ∧ x = .ref a ∧ y = .ref b ∧ SqT X.K H a xs ∧ SqT X.K H b ys ∧ xs.length = ys.length ∧ (∀ (j : Nat) x y, xs[j]? = some x → ys[j]? = some y → DEq X.K H n x y) ∧ Q (.bl true) H) := by
 intro pins s σ H x y v u Q I rx ry h
 obtain ⟨n, a, b, xs, ys, hn, rfl, rfl, ha, hb, hl, hd, q⟩ := h
 cases rx; cases ry
 obtain ⟨its, r1, p1, _⟩ := I.tuple ha
 obtain ⟨its2, r2, p2, _⟩ := I.tuple hb
 have sz : its.toArray.size = its2.toArray.size := by rw [List.size_toArray, List.size_toArray, ← r1.length, ← r2.length, hl]
 refine SeqAt.RcAt.tuples (e := fun _ => true) (show s.heap.IsTuple a its.toArray from p1) (show s.heap.IsTuple b its2.toArray from p2) (by omega) (vD I r1 r2 hl hd (by show X.A.units + 1 + n < cLine; omega)) _ _ _ _ ?_
 rw [yT, sz, beq_self_eq_true]
 exact ⟨.bl true, H, I, rfl, q⟩

theorem call_isinst : CallR X (.builtin "isinstance") (fun xs H Q => ∃ x T t b, xs = [x, .ty T] ∧ TyOf X.K H x t ∧ PySem.W.kitOne X.K t (.type T) = some b ∧ Q (.bl b) H) := by
 intro pins s σ H xs us Q I r h
 obtain ⟨x, T, t, b, rfl, ty, e, q⟩ := h
 obtain ⟨u, v, rfl, ru, rv⟩ := vals2 r
 cases rv
 exact isinst_ok I ru ty e fun tk => ⟨.bl b, H, I.tok _, rfl, q⟩
theorem pe_ty {x : Str} {T : String} {pos : Pos} (hg : Gl X x) (hm : X.mg x = none) (hv : bootBuiltins x = some (.type T)) (hn : x ≠ "__name__" := by decide) (hd : (x == ("__debug__" : Str)) = false := by decide) : PE X (.Name x pos) (tC (.ty T)) :=
 pe_bltn hg hm hv rfl hn hd
end

theorem qV {H : Hp} {p : Addr} (h : H p = none) (o : HO) : Same H (upd H p o) := fun b u q => by rw [qA (qB q h)]; exact q
theorem at_head {α : Type} (x : α) (xs : List α) : atI (x :: xs) 0 = some x := zI (xs := x :: xs) (j := 0) rfl
theorem zH : bootBuiltins "len" = some (.builtin "len") := by decide +kernel
theorem bt_min : bootBuiltins "min" = some (.builtin "min") := by decide +kernel
theorem xT : bootBuiltins "isinstance" = some (.builtin "isinstance") := by decide +kernel
theorem vU : bootBuiltins "list" = some (.type "list") := by decide +kernel
theorem bt_tuple : bootBuiltins "tuple" = some (.type "tuple") := by decide +kernel
theorem wQ : bootBuiltins "int" = some (.type "int") := by decide +kernel
theorem bt_bool : bootBuiltins "bool" = some (.type "bool") := by decide +kernel
theorem bt_dict : bootBuiltins "dict" = some (.type "dict") := by decide +kernel
end L2

namespace PySem
namespace FR
end FR
section
variable {prog : Program} {w : World} {A : Around} {E : Value → Shared → Prop} {s : Shared}
end
end PySem
namespace L2
open PySem PySem.Spec PyProof.Rows
section
variable {X : Cx} {tg : Expr}
end
theorem wC {α β : Type} {F : α → β → Prop} : ∀ {a c : List α} {b d : List β}, Paired F a b → Paired F c d → Paired F (a ++ c) (b ++ d)
 | _, _, _, _, .nil, q => q
 | _, _, _, _, .cons f p, q => .cons f (wC p q)
theorem xV {α β : Type} {F : α → β → Prop} : ∀ {a : List α} {b : List β} {i : Nat} {x : α} {y : β}, Paired F a b → a[i]? = some x → b[i]? = some y → F x y
 | _, _, _, _, _, .nil, e, _ => by simp at e
 | _, _, 0, _, _, .cons f _, e1, e2 => by simp at e1 e2; subst e1 e2; exact f
 | _, _, i + 1, _, _, .cons _ p, e1, e2 => xV (i := i) p (by simpa using e1) (by simpa using e2)
end L2

namespace PySem
namespace FD
theorem keys_len : ("keys" : Str).length + 100 ≤ sizeLine := by decide +kernel
theorem keys_name : (["__module__", "__name__", "__qualname__", "__doc__", "__annotations__"] : List Str).contains "keys" = false := by decide +kernel
end FD
section
variable {prog : Program} {w : World} {A : Around} {E : Value → Shared → Prop} {s : Shared}
end
end PySem

namespace PySem
section
variable {prog : Program} {w : World} {A : Around} {E : Value → Shared → Prop} {s : Shared}
end
end PySem

namespace PySem
namespace FD
theorem entry_upd_loop : entryFor table "dict.update.loop" = some Builtin.«dict.update.loop» := entryFor_of_tree (by kernel_rfl)
theorem plain_upd_loop : plainId "dict.update.loop" = true := by decide +kernel
end FD
structure PairIt (prog : Program) (w : World) (A : Around) (d it : Addr) (fp : List Addr) (kvs : List (Value × Value)) (St : Nat → Heap → Prop) : Prop where
 frame : ∀ i h h', St i h → Heap.SameBut d h h' → (∃ o, h'.get? d = some o) → St i h'
 item : ∀ (i : Nat) (s : Shared) (Q : Option Value → Shared → Prop) (E : Value → Shared → Prop) (k v : Value), kvs[i]? = some (k, v) → St i s.heap →
  (∀ T h' tk n, St (i + 1) h' → (∃ o, h'.get? T = some o ∧ o.cls = .type "tuple" ∧ o.data = .seq #[k, v] n) → (∀ b o, b ∉ fp → s.heap.get? b = some o → h'.get? b = some o) → Q (some (.ref T)) { s with heap := h', toks := tk }) → wpAny (model prog w) A (pyNext (.ref it)) Q E s
 done : ∀ (s : Shared) (Q : Option Value → Shared → Prop) (E : Value → Shared → Prop), St kvs.length s.heap →
  (∀ h' tk, (∀ b o, b ∉ fp → s.heap.get? b = some o → h'.get? b = some o) → Q none { s with heap := h', toks := tk }) → wpAny (model prog w) A (pyNext (.ref it)) Q E s
section
variable {prog : Program} {w : World} {K : Type} [DecidableEq K] {knd : KeyKind prog w K} {A : Around}
noncomputable abbrev Keyed (knd : KeyKind prog w K) : List (K × Value) → List (Value × Value) → Prop := Paired fun p q => knd.is p.1 q.1 = true ∧ p.2 = q.2
theorem keyed_get {ks : List (K × Value)} {kvs : List (Value × Value)} (h : Keyed knd ks kvs) : ∀ {i : Nat} {p : K × Value}, ks[i]? = some p → ∃ q, kvs[i]? = some q ∧ knd.is p.1 q.1 = true ∧ p.2 = q.2 := by
 induction h with
 | nil => intro i p e; simp at e
 | cons f _ ih =>
  intro i p e
  cases i with
  | zero => simp at e; subst e; exact ⟨_, rfl, f⟩
  | succ i => exact ih (i := i) (by simpa using e)
theorem upd_loop {d it : Addr} {fp : List Addr} {kvs : List (Value × Value)} {ks : List (K × Value)} {St : Nat → Heap → Prop} (P : PairIt prog w A.in1 d it fp kvs St) (hk : Keyed knd ks kvs) (hd : d ∉ fp) (hz : ks.length ≤ 1000) {R : Result → Shared → Prop} {s₀ : Shared}
  (hR : ∀ h' tk, (∀ b o, b ∉ fp → b ≠ d → s₀.heap.get? b = some o → h'.get? b = some o) → h'.DictOf knd d (merged [] ks) → R (.ok (.ret .none)) { s₀ with heap := h', toks := tk }) :
  ∀ (m i : Nat) (h : Heap) (tk : Nat), ks.length - i = m → i ≤ ks.length → St i h → h.DictOf knd d (merged [] (ks.take i)) → (∀ b o, b ∉ fp → b ≠ d → s₀.heap.get? b = some o → h.get? b = some o) →
   codeAny (model prog w) A (.builtin "dict.update.loop" ⟨[.ref d, .ref it, rawInt i, .none], []⟩) R { s₀ with heap := h, toks := tk } := by
 intro m
 induction m with
 | zero =>
  intro i h tk hm hi st hD keep
  have e : i = ks.length := by omega
  subst e
  refine codeAny_builtin FD.entry_upd_loop ?_
  rw [Around.under_plainId FD.plain_upd_loop _]
  rw [hk.length] at st
  refine wpAny_bind (m := pyNext (.ref it)) (P.done { s₀ with heap := h, toks := tk } _ _ st fun h' tk' kp => ?_)
  rw [List.take_length] at hD
  refine wpAny_bind (m := Builtin.Dict.addKeywords d []) (wpAny_pure (wpAny_pure ?_))
  refine hR h' tk' (fun b o b1 b2 e => kp b o b1 (keep b o b1 b2 e)) ?_
  obtain ⟨o, es, ep, ho, r⟩ := hD
  exact ⟨o, es, ep, kp _ _ hd ho, r⟩
 | succ m ih =>
  intro i h tk hm hi st hD keep
  have hlt : i < ks.length := by omega
  obtain ⟨p, ep⟩ : ∃ p, ks[i]? = some p := ⟨_, List.getElem?_eq_getElem hlt⟩
  obtain ⟨⟨kv, vv⟩, eq, hkey, hval⟩ := keyed_get hk ep
  have hval : p.2 = vv := hval
  refine codeAny_builtin FD.entry_upd_loop ?_
  rw [Around.under_plainId FD.plain_upd_loop _]
  refine wpAny_bind (m := pyNext (.ref it)) (P.item i { s₀ with heap := h, toks := tk } _ _ kv vv eq st fun T h' tk' n st' hT kp => ?_)
  obtain ⟨oT, hT, hTc, hTd⟩ := hT
  have hTy : Shared.TypeIs { s₀ with heap := h', toks := tk' } (.ref T) "tuple" := ⟨_, hT, hTc⟩
  have hD' : h'.DictOf knd d (merged [] (ks.take i)) := by
   obtain ⟨o, es, ep, ho, r⟩ := hD
   exact ⟨o, es, ep, kp _ _ hd ho, r⟩
  refine wpAny_bind (wpAny_holding ?_)
  refine wpAny_bind (wpAny_tryCatch ?_)
  unfold Builtin.Dict.pairItems
  refine wpAny_bind (wpAny_typeOf hTy ?_)
  rw [if_pos (by decide)]
  refine wpAny_bind (wpAny_seqItems hT hTd (wpAny_pure ?_))
  refine wpAny_holding (wpAny_dictSet_pairs hkey hD' (fun h'' hD'' sb => ?_) ?_)
  ·refine wpAny_pure ⟨plainId_quiet FD.plain_upd_loop _, ?_⟩
   have e1 : merged [] (ks.take (i + 1)) = stored (merged [] (ks.take i)) p.1 p.2 := merged_take_succ [] ks i p ep
   rw [← hval] at hD''
   have := ih (i + 1) h'' (tk' + 1) (by omega) hlt (P.frame _ _ _ st' sb (by obtain ⟨o, _, _, ho, _⟩ := hD''; exact ⟨o, ho⟩)) (by rw [e1]; exact hD'') fun b o b1 b2 e => (sb.2 b b2).trans (kp b o b1 (keep b o b1 b2 e))
   exact this
  ·have := merged_length_le ([] : List (K × Value)) (ks.take i)
   rw [List.length_take, List.length_nil] at this
   have e : sizeLine = 16777216 := by decide
   omega

theorem call_dict_arg {E : Value → Shared → Prop} {s : Shared} {a : Addr} {T : String} {Q : Value → Shared → Prop} (hT : s.TypeIs (.ref a) T) (hne : (Value.type T != Value.type "dict") = true)
  (h : ∀ E' : Value → Shared → Prop, wpAny (model prog w) A.in1.in1 (getAttr? (.ref a) "keys") (fun r s2 => r = none ∧ wpAny (model prog w) A.in1.in1 (pyIter (.ref a)) (fun it s3 => codeAny (model prog w) A.in1 (.builtin "dict.update.loop" ⟨[.ref s.heap.objs.size, it, rawInt 0, .none], []⟩)
   (wants (fun r s₂ => r = .none ∧ Q (.ref s.heap.objs.size) s₂) E) s3) E' s2) E' { s with heap := s.heap.push { cls := .type "dict", data := .dict #[] } }) :
  wpAny (model prog w) A (call (.type "dict") [.ref a]) Q E s := by
 refine callType_codes (Q₁ := fun obj s₁ => obj = .ref s.heap.objs.size ∧ s₁ = { s with heap := s.heap.push { cls := .type "dict", data := .dict #[] } }) F.kt_called_dict (F.kt_typeCall_dict_1 _) F.entry_dict_init (kt_code_dict_new _ ⟨rfl, rfl⟩) ?_
 rintro obj s₁ ⟨rfl, rfl⟩
 have gd : (s.heap.push { cls := .type "dict", data := .dict #[] }).get? s.heap.objs.size = some { cls := .type "dict", data := .dict #[] } := Heap.get?_push_size _ rfl
 have hnew : Shared.TypeIs { s with heap := s.heap.push { cls := .type "dict", data := .dict #[] } } (.ref s.heap.objs.size) "dict" := ⟨_, gd, rfl⟩
 have hT' : Shared.TypeIs { s with heap := s.heap.push { cls := .type "dict", data := .dict #[] } } (.ref a) T := by
  obtain ⟨o, ho, hc⟩ := hT
  exact ⟨o, Heap.get?_push_of_some _ ho, hc⟩
 refine ⟨hnew, F.args_dict_init_2 _ _, ?_⟩
 unfold Builtin.«dict.__init__»
 refine wpAny_bind ?_
 unfold Builtin.Dict.selfAndRest
 refine wpAny_bind (wpAny_notOrdered_dict hnew ?_)
 show wpAny _ _ (pure (s.heap.objs.size, [Value.ref a])) _ _ _
 refine wpAny_pure ?_
 show wpAny _ _ (Builtin.Dict.updateFrom "dict.__init__" s.heap.objs.size (.ref a) [] .none) _ _ _
 unfold Builtin.Dict.updateFrom
 refine wpAny_bind (wpAny_typeOf hT' ?_)
 rw [if_pos hne]
 refine wpAny_bind (wpAny_mono (h _) (fun r s2 hr => ?_) fun _ _ x => x)
 obtain ⟨rfl, hr⟩ := hr
 simp only [Option.isNone_none, if_true]
 refine wpAny_bind (wpAny_rule (wpAny_bind (wpAny_mono hr (fun it s3 hc => ?_) fun _ _ x => x)))
 exact wpAny_pure ⟨plainId_quiet FD.plain_upd_loop _, hc⟩
end
section
variable {prog : Program} {w : World} {K : Type} [DecidableEq K] {knd : KeyKind prog w K} {A : Around} {E : Value → Shared → Prop} {s : Shared}
theorem new_dict_of (h : Heap) : (h.push { cls := .type "dict", data := .dict #[] }).DictOf knd h.objs.size [] := Heap.DictOf.new h
end
end PySem

namespace L2
open PySem PySem.Spec PyProof.Rows
section
variable {X : Cx} {pins : List (Addr × Obj)} {σ : St} {H : Hp} {s : Shared}
theorem Inv.newDict {Q : VK} {p : Addr} {h' : Heap} {tk : Nat} {kvs : List (Key × V)} {ks : List (Key × Value)} (I : Inv X pins σ H s) (hp : s.heap.objs.size ≤ p) (keep : ∀ b o, s.heap.get? b = some o → h'.get? b = some o)
  (rel : KV kvs ks) (hk : ks.length ≤ 1000) (hD : h'.DictOf (mixKind X.prog X.w) p (merged [] ks)) (q : Q (.ref p) (upd H p (.dK (mergeK [] kvs)))) : EP X pins σ Q (.ref p) { s with heap := h', toks := tk } := by
 refine ⟨.ref p, upd H p (.dK (mergeK [] kvs)), I.laid (o := .dK (mergeK [] kvs)) keep hp ⟨?_, ?_, merged [] ks, KV.merge rel .nil, hD⟩, rfl, q⟩
 ·have l1 := yN kvs []
  have l2 := rel.length
  have e : sizeLine = 16777216 := by decide
  rw [List.length_nil] at l1
  omega
 ·have := I.big
  have ne : p ≠ sysModules := Nat.ne_of_gt (Nat.lt_of_lt_of_le this hp)
  exact beq_eq_false_iff_ne.mpr ne
end
end L2

namespace FP
open PySem L2

inductive Th where
 | num (n : Int) | box (x : Str) | nul (k : Str) | un (k : Str) (a : Th) | bin (k : Str) (a b : Th)
namespace Th
noncomputable def dep : Th → Nat
 | num _ => 1
 | box _ => 1
 | nul _ => 1
 | un _ a => a.dep + 1
 | bin _ a b => max a.dep b.dep + 1
theorem dep_pos : ∀ t : Th, 1 ≤ t.dep
 | num _ => Nat.le_refl _
 | box _ => Nat.le_refl _
 | nul _ => Nat.le_refl _
 | un _ a => by show 1 ≤ a.dep + 1; omega
 | bin _ a b => by show 1 ≤ max a.dep b.dep + 1; omega
noncomputable def At (H : Hp) : Th → V → Prop
 | num n, v => ∃ a, v = .ref a ∧ H a = some (.tup [.str "number", .int n])
 | box x, v => ∃ a, v = .ref a ∧ H a = some (.tup [.str "box", .str x])
 | nul k, v => ∃ a, v = .ref a ∧ H a = some (.tup [.str k])
 | un k t, v => ∃ a u, v = .ref a ∧ H a = some (.tup [.str k, u]) ∧ t.At H u
 | bin k t r, v => ∃ a u w, v = .ref a ∧ H a = some (.tup [.str k, u, w]) ∧ t.At H u ∧ r.At H w
noncomputable def _root_.FP.Tups (H H' : Hp) : Prop := ∀ b xs, H b = some (.tup xs) → H' b = some (.tup xs)
theorem At.mono {H H' : Hp} (h : Tups H H') : ∀ {t : Th} {v : V}, t.At H v → t.At H' v
 | num _, _, ⟨a, e, q⟩ => ⟨a, e, h _ _ q⟩
 | box _, _, ⟨a, e, q⟩ => ⟨a, e, h _ _ q⟩
 | nul _, _, ⟨a, e, q⟩ => ⟨a, e, h _ _ q⟩
 | un _ t, _, ⟨a, u, e, q, r⟩ => ⟨a, u, e, h _ _ q, At.mono h r⟩
 | bin _ t r, _, ⟨a, u, w, e, q, r1, r2⟩ => ⟨a, u, w, e, h _ _ q, At.mono h r1, At.mono h r2⟩
end Th
theorem qC {H H' : Hp} (s : Same H H') : Tups H H' := fun b xs h => s b _ h
theorem small {n : Nat} (h : n ≤ 10000) : n < sizeLine := Nat.lt_of_le_of_lt h (by decide)
theorem smallE {n : Nat} (h : n ≤ 10000) : n ≤ sizeLine := Nat.le_of_lt (small h)
theorem xW {a b : Str} (h : a ≠ b) : decide (V.str a = V.str b) = false := decide_eq_false (by intro z; cases z; exact h rfl)
theorem yQ (a : Str) : decide (V.str a = V.str a) = true := decide_eq_true rfl

noncomputable abbrev strsV (ws : List Str) : List V := ws.map V.str
theorem xA (ws : List Str) : (strsV ws).length = ws.length := List.length_map _

theorem kU (a b : List Str) : strsV (a ++ b) = strsV a ++ strsV b := List.map_append
noncomputable abbrev intsV (ns : List Int) : List V := ns.map V.int
theorem intsV_snoc (a : List Int) (x : Int) : intsV (a ++ [x]) = intsV a ++ [.int x] := List.map_append
theorem intsV_len (ws : List Int) : (intsV ws).length = ws.length := List.length_map _

end FP

namespace L2
open PySem PySem.Spec PyProof.Rows

section
variable {X : Cx} {K : PySem.W.Frag}
theorem qU (hK : X.K = K := by rfl) : IxR X (rIxL K) := by subst hK; exact ix_list
theorem qT (hK : X.K = K := by rfl) : IxR X (rIxT K) := by subst hK; exact ix_tup
theorem sl_listK (hK : X.K = K := by rfl) : SlR X (rSlL K) := by subst hK; exact sl_list
noncomputable def rLen (K : PySem.W.Frag) : List V → Hp → VK → Prop := fun xs H Q => ∃ p ys, xs = [.ref p] ∧ (SqL K H p ys ∨ SqT K H p ys) ∧ Q (.int ys.length) H
theorem xS (hK : X.K = K := by rfl) : CallR X (.builtin "len") (rLen K) := by subst hK; exact call_len_seq
noncomputable def rListOf (K : PySem.W.Frag) : List V → Hp → VK → Prop := fun xs H Q => ∃ p ys, xs = [.ref p] ∧ (SqL K H p ys ∨ SqT K H p ys) ∧ ∀ l, H l = none → Q (.ref l) (upd H l (.lst ys))
theorem yX (hK : X.K = K := by rfl) : CallR X (.type "list") (rListOf K) := by subst hK; exact call_list_of
noncomputable def rTupOf (K : PySem.W.Frag) : List V → Hp → VK → Prop := fun xs H Q => ∃ p ys, xs = [.ref p] ∧ SqL K H p ys ∧ ∀ l, H l = none → Q (.ref l) (upd H l (.tup ys))
theorem call_tupleK (hK : X.K = K := by rfl) : CallR X (.type "tuple") (rTupOf K) := by
 subst hK
 intro pins s σ H xs us Q I r h
 obtain ⟨p, ys, e, hs, q⟩ := h
 exact call_tuple_of pins s σ H xs us Q I r ⟨p, ys, e, .inl ⟨hs, q⟩⟩
noncomputable def rIsIn (K : PySem.W.Frag) : List V → Hp → VK → Prop := fun xs H Q => ∃ x T t b, xs = [x, .ty T] ∧ TyOf K H x t ∧ PySem.W.kitOne K t (.type T) = some b ∧ Q (.bl b) H
theorem jR (hK : X.K = K := by rfl) : CallR X (.builtin "isinstance") (rIsIn K) := by subst hK; exact call_isinst
theorem op_notInK (hK : X.K = K := by rfl) : OpR X (compareOp .NotIn) (rIn K true) := by subst hK; exact op_notIn_seq
theorem op_neLK (hu : X.A.units + 64 < cLine) (hK : X.K = K := by rfl) : OpR X (compareOp .NotEq) (rEqL K false) := by subst hK; exact op_neL hu
noncomputable def rNeE (K : PySem.W.Frag) : R2 := fun x y H Q => ∃ a b xs, x = .ref a ∧ y = .ref b ∧ SqL K H a xs ∧ SqL K H b [] ∧ Q (.bl (!xs.isEmpty)) H
theorem op_neEK (hu : X.A.units + 64 < cLine) (hK : X.K = K := by rfl) : OpR X (compareOp .NotEq) (rNeE K) := by subst hK; exact op_neE hu
noncomputable def rEqE (K : PySem.W.Frag) : R2 := fun x y H Q => ∃ a b xs, x = .ref a ∧ y = .ref b ∧ SqL K H a xs ∧ SqL K H b [] ∧ Q (.bl xs.isEmpty) H
theorem op_eqEK (hu : X.A.units + 64 < cLine) (hK : X.K = K := by rfl) : OpR X (compareOp .Eq) (rEqE K) := by
 subst hK
 intro pins s σ H x y v u Q I rx ry h
 obtain ⟨a, b, xs, rfl, rfl, ha, hb, q⟩ := h
 cases xs with
 | nil => exact op_eqL hu pins s σ H _ _ v u Q I rx ry ⟨0, a, b, [], [], by omega, rfl, rfl, ha, hb, rfl, fun j x y e => by simp at e, q⟩
 | cons z zs =>
  cases rx; cases ry
  obtain ⟨its, r1, p1, _⟩ := I.list ha
  obtain ⟨its2, r2, p2, _⟩ := I.list hb
  have l1 := r1.length
  have l2 := r2.length
  refine SeqAt.RcAt.lists_lengths p1.isList p2.isList ?_ (by omega) _ _ _ _ ⟨.bl false, H, I, rfl, q⟩
  simp only [List.length_cons, List.length_nil] at l1 l2
  rw [bne_iff_ne, List.size_toArray, List.size_toArray]
  omega
noncomputable def rEqT (K : PySem.W.Frag) : R2 := fun x y H Q => ∃ n a b xs ys, n ≤ 60 ∧ x = .ref a ∧ y = .ref b ∧ SqT K H a xs ∧ SqT K H b ys ∧ xs.length = ys.length ∧ (∀ (j : Nat) x y, xs[j]? = some x → ys[j]? = some y → DEq K H n x y) ∧ Q (.bl true) H
theorem op_eqTK (hu : X.A.units + 64 < cLine) (hK : X.K = K := by rfl) : OpR X (compareOp .Eq) (rEqT K) := by subst hK; exact op_eqT hu
variable {tg l o e : Expr} {es : List Expr} {tl to : TE} {t : TA} {name : Str} {pos apos cpos : Pos} {T id : String} {r : V → List V → Hp → VK → Prop}
theorem xQ (hl : PE X l tl) (hK : X.K = K := by rfl) : PI X tg l (iList K tl) := by subst hK; exact pi_list hl
theorem pi_tupK (hl : PE X l tl) (hK : X.K = K := by rfl) : PI X tg l (iTup K tl) := by subst hK; exact pi_tup hl
theorem vK {es : List Expr} {k : Nat} {t : TGs} {n : Nat} (hc : X.calm = true) (h : PGs X es t)
  (hn : (assignEach es X.env).length = n := by rfl) (hst : (assignEach es X.env).findIdx? (·.1) = none := by rfl) (hK : X.K = K := by rfl) : PG X (.Tuple es k pos) (gTup K n t) := by subst hK; exact pg_tup hc h hn hst
theorem pe_bm0K (pa : PlainAttrs T) (slot : Slot T name id) (hty : typeOf (.builtin id) = pure (.type "method_descriptor")) (hm : MtR X id r) (ho : PE X o to)
  (hbase : attributeBase o name X.env (eval o X.env) = eval o X.env := by rfl) (hline : (apos.endLine == cpos.line) = true := by rfl) (hK : X.K = K := by rfl) : PE X (.Call (.Attribute o name apos) [] [] cpos) (tBM0 K T r to) := by
 subst hK; exact pe_bm0 pa slot hty hm ho hbase hline
theorem yV (pa : PlainAttrs T) (slot : Slot T name id) (hty : typeOf (.builtin id) = pure (.type "method_descriptor")) (hm : MtR X id r) (ho : PE X o to) (ha : PA X (e :: es) t)
  (hbase : attributeBase o name X.env (eval o X.env) = eval o X.env := by rfl)
  (hfew : ((backTo cpos (starEach (e :: es) X.env)).all (fun x => !x.1) && (backToKw cpos (keywordEach [] X.env)).all (fun x => x.1.isSome)
   && decide ((e :: es).length + ([] : List Keyword).length + (if ([] : List Keyword).isEmpty then 0 else 1) < 30)) = true := by rfl)
  (hline : (apos.endLine == cpos.line) = true := by rfl) (hs : starEach (e :: es) X.env = (false, eval e X.env) :: starEach es X.env := by rfl) (hplain : (backTo cpos (starEach es X.env)).any (·.1) = false := by rfl) (hK : X.K = K := by rfl) :
  PE X (.Call (.Attribute o name apos) (e :: es) [] cpos) (tBM K T r to t) := by
 subst hK; exact pe_bm pa slot hty hm ho ha hbase hfew hline hs hplain
end

structure Dn (P : Program) (w : World) (K : PySem.W.Frag) (mg : Str → Option Value) (base : Heap) (x : Str) (k : Nat) (ps : List Str) (sp : Sp) : Prop where
 ex : ∃ f fd, FnOk P w K mg base CX0 k f fd ps sp ∧ mg x = some (.ref f) ∧ PySem.W.keepIn K (.ref f) = true ∧ Binds K fd ps []
section
variable {P : Program} {w : World} {K : PySem.W.Frag} {mg : Str → Option Value} {base : Heap} {x : Str} {j k : Nat} {ps : List Str} {sp sp' : Sp}
end
section
variable {X : Cx} {P : Program} {w : World} {K : PySem.W.Frag} {mg : Str → Option Value} {base : Heap} {j k : Nat} {ps : List Str} {sp : Sp} {x : Str} {p pos : Pos} {e : Expr} {es : List Expr} {t : TA}
theorem qD (D : Dn P w K mg base x j ps sp) (hr : Room k X.A) (ha : PA X (e :: es) t) (hjk : j ≤ k := by first | decide | omega) (hg : Gl X x := by rfl)
  (h1 : X.prog = P := by rfl) (h2 : X.w = w := by rfl) (h3 : X.K = K := by rfl) (h4 : X.mg = mg := by rfl) (h5 : X.base = base := by rfl)
  (hdb : (x == ("__debug__" : Str)) = false := by decide) (he : starEach (e :: es) X.env = (false, eval e X.env) :: starEach es X.env := by rfl) (hpl : (backTo pos (starEach es X.env)).any (·.1) = false := by rfl) :
  PE X (.Call (.Name x p) (e :: es) [] pos) (tCall sp [] E0 t) := by
 subst h1 h2 h3 h4 h5
 obtain ⟨f, fd, F, a, b, c⟩ := D.ex
 exact pe_call (F.mono hjk) hr hg a b c .nil pass0 ha hdb he hpl
end

noncomputable def kidsE : Expr → List Expr
 | .BoolOp _ vs _ => vs
 | .BinOp l _ r _ => [l, r]
 | .UnaryOp _ a _ => [a]
 | .IfExp a b c _ => [a, b, c]
 | .ListComp e gs _ _ => e :: gs.flatMap fun g => g.iter :: g.ifs
 | .Compare l _ cs _ => l :: cs
 | .Call f as _ _ => f :: as
 | .Attribute v _ _ => [v]
 | .Subscript a b _ => [a, b]
 | .List es _ => es
 | .Tuple es _ _ => es
 | .Slice a b c _ => a.toList ++ b.toList ++ c.toList
 | _ => []
noncomputable def downE (e : Expr) : List Nat → Expr
 | [] => e
 | i :: p => downE ((kidsE e).getD i (.Constant .none 0 ⟨0, 0, 0, 0⟩)) p
noncomputable def exprS : Stmt → Expr
 | .Assign _ v _ => v
 | .Return (some v) _ => v
 | .Expr v _ => v
 | .If t _ _ _ => t
 | .While t _ _ _ => t
 | .For _ it _ _ _ => it
 | _ => .Constant .none 0 ⟨0, 0, 0, 0⟩
noncomputable def blockS : Stmt → List Stmt
 | .If _ a b _ => a ++ b
 | .For _ _ b _ _ => b
 | .While _ b _ _ => b
 | _ => []
noncomputable def stmtAt (body : List Stmt) : List Nat → Stmt
 | [] => .Pass ⟨0, 0, 0, 0⟩
 | [i] => body.getD i (.Pass ⟨0, 0, 0, 0⟩)
 | i :: j :: p => stmtAt (blockS (body.getD i (.Pass ⟨0, 0, 0, 0⟩))) (j :: p)
noncomputable abbrev scAt (body : List Stmt) (p q : List Nat) : Scope := scopeOf (downE (exprS (stmtAt body p)) q)
noncomputable def tCut (t u : TS) : TS := fun D σ H => ∃ Pv : St → Hp → Prop, t { D with nx := Pv } σ H ∧ ∀ σ' H', Pv σ' H' → u D σ' H'
theorem qK {X : Cx} {st : Stmt} {rest : List Stmt} {t u : TS} (h1 : PS X st t) (h2 : PSs X rest u) : PSs X (st :: rest) (tCut t u) := by
 intro pins s σ H D I h
 obtain ⟨Pv, q1, q2⟩ := h
 refine wpAny_execs_cons (thn (h1 pins s σ H { D with nx := Pv } I q1) fun f s1 q => ?_)
 cases f with
 | next =>
  obtain ⟨σ', H', I', q⟩ := q
  exact h2 pins s1 σ' H' D I' (q2 σ' H' q)
 | ret v => exact q
 | brk => exact q
 | cont => exact q

section
variable {σ : St} {H : Hp} {Q : VK} {R : Bool → Hp → Prop} {S : St → Hp → Prop} {L : List V → Hp → Prop} {O : Option Int → Hp → Prop} {D : Ends} {ta tb tc : TE} {t u : TT} {a b : TS} {x y v : V} {i j : Int} {c : Bool} {K : PySem.W.Frag}
theorem w_var {k : Nat} (h : σ[k]? = some (some v)) (q : Q v H) : tVar k σ H Q := ⟨v, h, q⟩
theorem w_c (q : Q v H) : tC v σ H Q := q
theorem w_op {r : R2} (q : ta σ H fun x H1 => tb σ H1 fun y H2 => r x y H2 Q) : tOp r ta tb σ H Q := q
theorem w_un {r : V → Hp → VK → Prop} (q : ta σ H fun x H1 => r x H1 Q) : tUn r ta σ H Q := q
theorem w_I0 {g : Int → Int → V} (q : Q (g i j) H) : rI0 g (.int i) (.int j) H Q := ⟨i, j, rfl, rfl, q⟩
theorem w_I {C : Int → Int → Prop} {g : Int → Int → V} (h : C i j) (q : Q (g i j) H) : rI C g (.int i) (.int j) H Q := ⟨i, j, rfl, rfl, h, q⟩
theorem w_U {g : Int → V} (q : Q (g i) H) : rU g (.int i) H Q := ⟨i, rfl, q⟩
theorem w_eq (h : scal x y = true) (q : Q (.bl (decide (x = y))) H) : rEq x y H Q := ⟨h, q⟩
theorem w_ne (h : scal x y = true) (q : Q (.bl (!decide (x = y))) H) : rNe x y H Q := ⟨h, q⟩
theorem w_ixL {p : Addr} {xs : List V} (h : SqL K H p xs) (e : atI xs i = some v) (q : Q v H) : rIxL K (.ref p) (.int i) H Q := ⟨p, xs, i, v, rfl, rfl, h, e, q⟩
theorem w_ixT {p : Addr} {xs : List V} (h : SqT K H p xs) (e : atI xs i = some v) (q : Q v H) : rIxT K (.ref p) (.int i) H Q := ⟨p, xs, i, v, rfl, rfl, h, e, q⟩
theorem w_test (q : ta σ H fun x H' => ∃ k, x = .bl k ∧ R k H') : tTest ta σ H R := q
theorem w_B (q : ta σ H fun x H' => ∃ k, x = .bl k ∧ R k H') : tB ta σ H R := q
theorem w_bl {F : Bool → Prop} (q : F c) : ∃ k, V.bl c = .bl k ∧ F k := ⟨c, rfl, q⟩
theorem w_not (q : t σ H fun c H1 => R (!c) H1) : tNot t σ H R := q
theorem w_and (q : t σ H fun c H1 => if c = true then u σ H1 R else R false H1) : tAnd t u σ H R := q
theorem w_or (q : t σ H fun c H1 => if c = true then R true H1 else u σ H1 R) : tOr t u σ H R := q
theorem w_andV (q : ta σ H fun x H1 => ∃ c, x = .bl c ∧ if c = true then tb σ H1 Q else Q (.bl false) H1) : tAndV ta tb σ H Q := q
theorem w_orV (q : ta σ H fun x H1 => ∃ c, x = .bl c ∧ if c = true then Q (.bl true) H1 else tb σ H1 Q) : tOrV ta tb σ H Q := q
theorem w_notV (q : ta σ H fun x H1 => ∃ c, x = .bl c ∧ Q (.bl (!c)) H1) : tNotV ta σ H Q := q
theorem w_if (q : t σ H fun c H1 => if c = true then ta σ H1 Q else tb σ H1 Q) : tIf t ta tb σ H Q := q
theorem w_next (q : D.nx σ H) : tNext D σ H := q
theorem w_seq (q : a { D with nx := b D } σ H) : tSeq a b D σ H := q
theorem w_drop (q : ta σ H fun _ H1 => D.nx σ H1) : tDrop ta D σ H := q
theorem w_ret (q : ta σ H D.rt) : tRet ta D σ H := q
theorem w_ifS (q : t σ H fun c H1 => if c = true then a D σ H1 else b D σ H1) : tIfS t a b D σ H := q
theorem w_asg {g : TG} (q : ta σ H fun x H1 => g x σ H1 D.nx) : tAsg ta g D σ H := q
theorem w_name {k : Nat} (q : S (σ.set k (some v)) H) : gName k v σ H S := q
theorem w_nil (q : L [] H) : tNil σ H L := q
theorem w_cons {ts : TA} (q : ta σ H fun x H1 => ts σ H1 fun xs H2 => L (x :: xs) H2) : tCons ta ts σ H L := q
theorem w_tup {ts : TA} (q : ts σ H fun xs H1 => xs.length ≤ sizeLine ∧ ∀ p, H1 p = none → Q (.ref p) (upd H1 p (.tup xs))) : tTup ts σ H Q := q
theorem w_lst {ts : TA} (q : ts σ H fun xs H1 => xs.length ≤ sizeLine ∧ ∀ p, H1 p = none → Q (.ref p) (upd H1 p (.lst xs))) : tLst ts σ H Q := q
theorem w_call {sp : Sp} {dvs : List V} {E : XK} {ts : TA} (q : ts σ H fun vs H1 => sp (vs ++ dvs) H1 Q E) : tCall sp dvs E ts σ H Q := q
theorem w_cb {r : List V → Hp → VK → Prop} {ts : TA} (q : ts σ H fun vs H1 => r vs H1 Q) : tCB r ts σ H Q := q
theorem w_bm0 {T : String} {r : V → List V → Hp → VK → Prop} (q : ta σ H fun x H1 => tyV K T x H1 ∧ r x [] H1 Q) : tBM0 K T r ta σ H Q := q
theorem w_bm {T : String} {r : V → List V → Hp → VK → Prop} {ts : TA} (q : ta σ H fun x H1 => tyV K T x H1 ∧ ts σ H1 fun xs H2 => r x xs H2 Q) : tBM K T r ta ts σ H Q := q
theorem w_noPart (q : O none H) : tNoPart σ H O := q
theorem w_part (q : ta σ H fun x H1 => ∃ i, x = .int i ∧ O (some i) H1) : tPart ta σ H O := q
theorem w_exI {F : Int → Prop} (q : F i) : ∃ k, V.int i = .int k ∧ F k := ⟨i, rfl, q⟩
theorem w_sl {r : V → Option Int → Option Int → Hp → VK → Prop} {tl th : TO} (q : ta σ H fun x H1 => tl σ H1 fun l H2 => th σ H2 fun u H3 => r x l u H3 Q) : tSl r ta tl th σ H Q := q
theorem w_len {p : Addr} {xs : List V} (h : SqL K H p xs ∨ SqT K H p xs) (q : Q (.int xs.length) H) : rLen K [.ref p] H Q := ⟨p, xs, rfl, h, q⟩
theorem w_iList {W : It → Hp → Prop} (q : ta σ H fun x H1 => ∃ a, x = .ref a ∧ (∃ xs, SqL K H1 a xs) ∧ W (Itl K a) H1) : iList K ta σ H W := q
theorem w_iTup {W : It → Hp → Prop} (q : ta σ H fun x H1 => ∃ a, x = .ref a ∧ (∃ xs, SqT K H1 a xs) ∧ W (Itt K a) H1) : iTup K ta σ H W := q
theorem w_rng1 {W : It → Hp → Prop} {ts : TA} (q : ts σ H fun vs H1 => ∃ j : Int, vs = [.int j] ∧ -(2 ^ 62) ≤ j ∧ j < 2 ^ 62 ∧ W (Itr 0 j.toNat) H1) : iRng1 ts σ H W := q
theorem w_true {A B : Prop} (h : c = true) (q : A) : if c = true then A else B := by rw [if_pos h]; exact q
theorem w_false {A B : Prop} (h : c = false) (q : B) : if c = true then A else B := by rw [h]; exact iteF q
noncomputable def forK (g : TG) (tb : TS) (D : Ends) (σ : St) : It → Hp → Prop := fun J H1 => ∃ W : Nat → Nat → St → Hp → Prop, (∃ m, W 0 m σ H1) ∧ ∀ i m σ H, W i m σ H →
 (J.stop i H ∧ D.nx σ H) ∨ (J.go i H ∧ ∃ N : St → Hp → Prop, (∀ σ' H', N σ' H' → ∃ m', m' < m ∧ W (i + 1) m' σ' H') ∧ ∀ x H', J.yld i H x H' → g x σ H' fun σ2 H2 => tb { D with nx := N, ct := N, bk := D.nx } σ2 H2)
theorem w_for {wi : TI} {g : TG} (q : wi σ H (forK g a D σ)) : tFor wi g a D σ H := q
theorem w_comp {k : Nat} {js : List Nat} {wi : TI} {g : TG} (q : wi σ H fun J H1 => rdC k js g t ta J σ H1 Q) : tComp k js wi g t ta σ H Q := q
theorem iteNT {A B : Prop} (q : B) : if (!true) = true then A else B := iteF q
theorem iteNF {A B : Prop} (q : A) : if (!false) = true then A else B := iteT q
theorem kit_of {T : String} : PySem.W.kitOne K (.type T) (.type T) = some true := by simp [PySem.W.kitOne]
end
section
variable {X : Cx} {K : PySem.W.Frag}
end

structure Fd (K : PySem.W.Frag) (mg : Str → Option Value) (x : Str) (st : Stmt) (ps : List Str) : Prop where
 ex : ∃ f fd, Fun K x x st f fd ∧ mg x = some (.ref f) ∧ PySem.W.keepIn K (.ref f) = true ∧ Binds K fd ps []
section
variable {P : Program} {w : World} {K : PySem.W.Frag} {mg : Str → Option Value} {base : Heap} {x : Str} {st : Stmt} {k : Nat} {N ps : List Str} {sp : Sp}
theorem Fd.ok (F : Fd K mg x st ps) (S : FnScope N ps (xB st)) (len : ∀ vs H Q E, sp vs H Q E → vs.length = ps.length)
  (hbody : ∀ (f : Addr) (cdv : Value) (A : Around) (outer : List Env) (s : Shared) (H : Hp) (vs : List V) (Q : VK) (E : XK), Room k (A.deeper (envOfC x (xB st) s.heap.objs.size f cdv)) → sp vs H Q E →
   ∃ t, PSs (cxOf CX0 P w K mg base N x (xB st) f cdv A outer s H E).nox (xC st) t ∧ t { nx := fun _ H' => Q .non H', rt := Q } (start N vs) H) : Dn P w K mg base x (k + 1) ps sp :=
 let ⟨f, fd, F, a, b, c⟩ := F.ex
 ⟨f, fd, F.ok S len (hbody f), a, b, c⟩
end
end L2

namespace PySem
section
variable {prog : Program} {w : World} {κ : Type} [DecidableEq κ] {knd : KeyKind prog w κ}
variable {A : Around} {R : Result → Shared → Prop} {I : Addr} {fp wr : List Addr} {G : Array GenState → Array GenState → Prop} {n : Nat} {P : Nat → Value → Prop} {St : Nat → Shared → Prop}
end
section
variable {prog : Program} {w : World} {κ : Type} [DecidableEq κ] {knd : KeyKind prog w κ} {A : Around} {E : Value → Shared → Prop} {s : Shared}
noncomputable abbrev setObj (led : Bool) : Obj := { cls := .type "set", dict := none, data := .set #[] 0 (.fresh 0 0 led) }
end
end PySem

namespace L2
open PySem PySem.Spec PyProof.Rows

noncomputable def rCatN (K : PySem.W.Frag) : R2 := fun x y H Q => ∃ a b xs ys, x = .ref a ∧ y = .ref b ∧ SqT K H a xs ∧ SqT K H b ys ∧ ys ≠ [] ∧ xs.length + ys.length ≤ sizeLine ∧
 (xs = [] → Q (.ref b) H) ∧ (xs ≠ [] → ∀ p, H p = none → Q (.ref p) (upd H p (.tup (xs ++ ys))))
section
variable {X : Cx} {K : PySem.W.Frag}
theorem op_catTK (hK : X.K = K := by rfl) : OpR X (binaryOp .Add) (rCatN K) := by
 subst hK
 intro pins s σ H x y v u Q I rx ry h
 obtain ⟨a, b, xs, ys, rfl, rfl, ha, hb, hy, hz, q0, q1⟩ := h
 by_cases hx : xs = []
 ·subst hx
  cases rx; cases ry
  obtain ⟨i1, r1, ⟨⟨c1, d1, t1, l1⟩, g1, k1, n1, e1⟩, _⟩ := I.tuple ha
  obtain ⟨i2, r2, ⟨⟨c2, d2, t2, l2⟩, g2, k2, n2, e2⟩, _⟩ := I.tuple hb
  cases r1
  simp only at k1 e1 k2 e2
  subst k1 e1 k2 e2
  exact concat_meets ⟨_, g1, rfl⟩ ⟨_, g2, rfl⟩ noFill_tuple_add seq_tuple_add PySem.F.slot_tuple_add PySem.F.entry_tuple_add (PySem.F.args_tuple_add_2 _ _) (tuple_addW0 a b _ _ n1 n2 d1 d2 l1 l2 (by simp)) ⟨g1, g2, ⟨.ref b, H, I, rfl, q0 rfl⟩⟩
 ·exact op_catT pins s σ H _ _ v u Q I rx ry ⟨a, b, xs, ys, rfl, rfl, ha, hb, hx, hz, fun z => absurd z hy, fun _ => q1 hx⟩
end

theorem bt_set : bootBuiltins "set" = some (.type "set") := by decide +kernel
theorem bt_sorted : bootBuiltins "sorted" = some (.builtin "sorted") := by decide +kernel
section
variable {X : Cx} {P : Program} {w : World} {K : PySem.W.Frag}
end

section
variable {X : Cx} {mg : Str → Option Value} {K : PySem.W.Frag} {x : Str} {i : Int} {ws : List Str} {pos : Pos}
end
end L2

namespace L2
open PySem PySem.Spec PyProof.Rows
section
variable {X : Cx} {K : PySem.W.Frag}
end
section
variable {α : Type}
end
end L2

namespace PySem
section
variable {prog : Program} {w : World} {A : Around} {E : Value → Shared → Prop} {s : Shared}
end
end PySem
namespace L2
open PySem PySem.Spec PyProof.Rows
section
variable {X : Cx} {K : PySem.W.Frag}
end
section
variable {X : Cx} {K : PySem.W.Frag}
end
end L2

namespace PySem
section
variable {prog : Program} {w : World} {A : Around} {E : Value → Shared → Prop} {s : Shared}
end
end PySem
namespace L2
open PySem PySem.Spec PyProof.Rows
section
variable {X : Cx} {K : PySem.W.Frag}
end
end L2

namespace L2
open PySem PySem.Spec PyProof.Rows
section
variable {X : Cx} {K : PySem.W.Frag}
end
theorem Vals.pick {xs : List V} {us : List Value} (r : Vals xs us) : ∀ idx : List Nat, Vals (idx.filterMap (xs[·]?)) (idx.filterMap (us[·]?))
 | [] => .nil
 | i :: idx => by
  have ih := Vals.pick r idx
  rw [List.filterMap_cons, List.filterMap_cons]
  cases e : xs[i]? with
  | none =>
   have : us[i]? = none := List.getElem?_eq_none (by rw [← r.length]; exact List.getElem?_eq_none_iff.mp e)
   rw [this]; exact ih
  | some x =>
   obtain ⟨u, eu, ru⟩ := r.get e
   rw [eu]; exact .cons ru ih
noncomputable def tSl3 (K : PySem.W.Frag) (te : TE) (tl th : TO) (ts : TE) : TE := fun σ H Q => te σ H fun x H1 => tl σ H1 fun l H2 => th σ H2 fun u H3 => ts σ H3 fun c H4 =>
 ∃ a xs k, x = .ref a ∧ c = .int k ∧ k ≠ 0 ∧ SqL K H4 a xs ∧ ∀ (p : Addr) (idx : List Nat), H4 p = none → (idx.filterMap (xs[·]?)).length ≤ xs.length → Q (.ref p) (upd H4 p (.lst (idx.filterMap (xs[·]?))))
section
variable {X : Cx} {K : PySem.W.Frag} {e st : Expr} {te ts : TE} {lo hi : Option Expr} {tl th : TO} {pos p2 : Pos}
theorem pe_slice3 (he : PE X e te) (hl : PO X lo tl) (hu : PO X hi th) (hst : PE X st ts) (hK : X.K = K := by rfl) : PE X (.Subscript e (.Slice lo hi (some st) p2) pos) (tSl3 K te tl th ts) := by
 subst hK
 intro pins s σ H Q I h
 refine Subscript_ (thn (he pins s σ H _ I h) fun v s1 ⟨x, H1, I1, r1, q1⟩ => ?_)
 refine wpAny_Slice (thn (hl pins s1 σ H1 _ I1 q1) fun vl s2 ⟨l, H2, I2, pl, q2⟩ => thn (hu pins s2 σ H2 _ I2 q2) fun vu s3 ⟨u, H3, I3, pu, q3⟩ => ?_)
 rw [evalPart_some]
 refine thn (hst pins s3 σ H3 _ I3 q3) fun vs s4 ⟨c, H4, I4, r4, q4⟩ => ?_
 obtain ⟨a, xs, k, rfl, rfl, k0, hx, q⟩ := q4
 cases r1
 obtain ⟨t, rfl⟩ := r4
 have I5 : Inv X pins σ H4 { s4 with heap := s4.heap.push { cls := .type "slice", data := .fields #[vl, vu, .int k t] } } := I4.kept (t' := s4.toks) fun b ob q => Heap.get?_push_of_some _ q
 obtain ⟨its, r, ht, hz⟩ := I5.list hx
 have hlen := r.length
 show wpAny (model X.prog X.w) X.A (subscriptTail e (.Slice lo hi (some st) p2) (.ref a) (.ref s4.heap.objs.size)) (EP X pins σ Q) X.xe { s4 with heap := s4.heap.push { cls := .type "slice", data := .fields #[vl, vu, .int k t] } }
 refine tail_any (ops := [.ref a, .ref s4.heap.objs.size]) ht.isList.typeIs slot_list_getitem.lookup ?_ (by with_unfolding_all rfl)
 refine wpAny_getItem_list_slice ht.isList (Heap.IsSliceOf.new ..) pl pu (.int k t) (fun z => k0 (Option.some.inj z)) ?_ (by rw [List.size_toArray] <;> omega)
 have le := slicePick_size_le its.toArray l u (some k)
 unfold slicePick at le ⊢
 generalize sliceRange _ _ _ = idx at le ⊢
 rw [show idx.filterMap (fun x => its.toArray[x]?) = idx.filterMap (its[·]?) by simp] at le ⊢
 have pk := r.pick idx
 have pl' := pk.length
 rw [List.size_toArray, List.size_toArray] at le
 refine ⟨.ref _, _, I5.laid (t' := s4.toks) (o := .lst (idx.filterMap (xs[·]?))) (fun b ob q => Heap.get?_push_of_some _ q) (Nat.le_refl _) ?_, rfl, q _ idx (I5.hok.fresh (Nat.le_refl _)) (by omega)⟩
 exact ⟨by omega, _, 0, pk, Heap.get?_push_size _ rfl⟩
end
open FP
open Classical in
open Classical in
section
variable {X : Cx} {es rest : List Expr} {kw : List Keyword} {f a b : Expr} {k : Nat} {pos : Pos} {env : Env} {te : TE} {t : TA}
end
end L2

namespace L2
open PySem PySem.Spec PyProof.Rows
noncomputable def without (h : Heap) (S : List Addr) : Heap := ⟨h.objs.mapIdx fun i o => if i ∈ S then { o with data := .freed } else o, h.life⟩
theorem jY {h : Heap} {S : List Addr} {b : Addr} (hb : b ∈ S) : (without h S).get? b = none := by
 unfold without Heap.get?
 rw [Array.getElem?_mapIdx]
 cases e : h.objs[b]? with
 | none => rfl
 | some o =>
  show (match some (if b ∈ S then { o with data := .freed } else o) with | some ⟨_, _, .freed, _⟩ => none | o => o) = none
  rw [if_pos hb]
theorem yC {h : Heap} {S : List Addr} {b : Addr} (hb : b ∉ S) : (without h S).get? b = h.get? b := by
 unfold without Heap.get?
 rw [Array.getElem?_mapIdx]
 cases e : h.objs[b]? with
 | none => rfl
 | some o =>
  show (match some (if b ∈ S then { o with data := .freed } else o) with | some ⟨_, _, .freed, _⟩ => none | o => o) = _
  rw [if_neg hb]
  rfl
theorem yF (h : Heap) (S : List Addr) : (without h S).StaysIn h := fun b o e => by
 by_cases hb : b ∈ S
 ·rw [jY hb] at e; cases e
 ·rw [yC hb] at e; exact e
theorem jV {h base : Heap} {S : List Addr} {l : List Env} (hl : h.FunFrames base l) (hS : ∀ b ∈ frs l, b ∈ S) : h.FunFrames (without h S) l := by
 induction l with
 | nil => trivial
 | cons env rest ih =>
  obtain ⟨hk, ⟨L, o, hf, _, ho, hd⟩, hr⟩ := hl
  have hm : ∀ b, env.frame = some b → b ∈ frs (env :: rest) := fun b e => by
   unfold frs
   rw [List.filterMap_cons, e]
   exact List.mem_cons_self
  refine ⟨hk, ⟨L, o, hf, jY (hS _ (hm L hf)), ho, hd⟩, ih hr fun b hb => hS b ?_⟩
  unfold frs at hb ⊢
  rw [List.filterMap_cons, hf]
  exact List.mem_cons_of_mem _ hb
noncomputable def Fly (h : Heap) (x T : Addr) (cls : Value) : Prop :=
 ∃ oe vs oT ts, h.get? x = some oe ∧ oe.cls = cls ∧ oe.data = .fields vs ∧ vs[1]? = some (.ref T) ∧ T ≠ x ∧ h.get? T = some oT ∧ oT.data = .fields ts ∧ ts[3]? = some .none
noncomputable def CX1 (P : Program) (w : World) : CXT := fun outer H s E e s' => ∃ x T cls H', e = .ref x ∧ s'.os = s.os ∧ AllBare s'.gens ∧ Un (frs outer) [] H H' s.heap s'.heap ∧ HOk P w H' s'.heap ∧
 s.heap.get? x = none ∧ s.heap.get? T = none ∧ H' x = none ∧ H' T = none ∧ Fly s'.heap x T cls ∧ E cls none H'
section
variable {M : Model} {A : Around} {E : Value → Shared → Prop} {s : Shared}
theorem leave_end {h h' : Heap} {l : List Env} {S : List Addr} {x : Addr} {cls : Value} (left : Heap.Left (without h S) l x cls h h') (hl : h.FunFrames (without h S) l) :
  ∃ T', Fly h' x T' cls ∧ T' ∉ frs l ∧ (T' ∈ S ∨ h.get? T' = none) ∧ (∀ b o, b ∉ S → h.get? b = some o → h'.get? b = some o) ∧ ∀ b o, b ∈ frs l → h.get? b = some o → ∃ sl, h'.get? b = some { o with slots := sl } := by
 obtain ⟨k1, k2, k3, k4⟩ := left
 obtain ⟨oe', vs', T', oT', ts', f1, f2, f3, f4, f5, f6, f7, f8, f9⟩ := k3
 refine ⟨T', ⟨oe', vs', oT', ts', f1, f2, f3, f4, f6, f7, f8, f9⟩, fun hb => ?_, ?_, fun b o hb e => k1 b o (by rw [yC hb]; exact e), fun b o hb e => ?_⟩
 ·obtain ⟨_, o, ho, hd⟩ := k2.mem hb
  rw [f7] at ho
  cases ho
  exact hd _ f8
 ·by_cases hT : T' ∈ S
  ·exact .inl hT
  ·rw [yC hT] at f5
   exact .inr f5
 ·obtain ⟨_, o', ho', hd⟩ := hl.mem hb
  rw [e] at ho'
  cases ho'
  exact k4 b o e hd
theorem wM {base : Heap} {env : Env} {outer : List Env} {L x T : Addr} {cls : Value} {Q : Unit → Shared → Prop} (hfr : A.frames = some (env :: outer)) (hl : s.heap.FunFrames base (env :: outer)) (hf : env.frame = some L) (fl : Fly s.heap x T cls)
  (h : ∀ h' T', Fly h' x T' cls → T' ∉ frs (env :: outer) → (T' = x ∨ T' = T ∨ s.heap.get? T' = none) → (∀ b o, b ∉ frs (env :: outer) → b ≠ x → b ≠ T → s.heap.get? b = some o → h'.get? b = some o) →
   (∀ b o, b ∈ frs (env :: outer) → s.heap.get? b = some o → ∃ sl, h'.get? b = some { o with slots := sl }) → Q () { s with heap := h' }) :
  wpAny M A (leaving env (.ref x)) Q E s := by
 obtain ⟨oe, vs, oT, ts, e1, e2, e3, e4, e5, e6, e7, e8⟩ := fl
 have S1 : ∀ b ∈ frs (env :: outer), b ∈ x :: T :: frs (env :: outer) := fun b hb => List.mem_cons_of_mem _ (List.mem_cons_of_mem _ hb)
 have hl' := jV hl S1
 refine wpAny_leaving_next (base := without s.heap (x :: T :: frs (env :: outer))) hfr hl' hf ⟨oe, vs, T, oT, ts, e1, e2, e3, e4, jY (by simp), e5, e6, e7, e8⟩ (yF _ _) (jY (by simp)) fun h' left => ?_
 obtain ⟨T', fl', nT, wT, k, ks⟩ := leave_end left hl'
 refine h h' T' fl' nT ?_ (fun b o n1 n2 n3 e => k b o (by simp [n1, n2, n3]) e) ks
 rcases wT with z | z
 ·simp only [List.mem_cons] at z
  rcases z with z | z | z
  ·exact .inl z
  ·exact .inr (.inl z)
  ·exact absurd z nT
 ·exact .inr (.inr z)
theorem leaving_new {base : Heap} {env : Env} {outer : List Env} {L x : Addr} {oe : Obj} {vs : Array Value} {Q : Unit → Shared → Prop} (hfr : A.frames = some (env :: outer)) (hl : s.heap.FunFrames base (env :: outer)) (hf : env.frame = some L)
  (e1 : s.heap.get? x = some oe) (e3 : oe.data = .fields vs) (e4 : vs[1]? = some .none)
  (h : ∀ h' T', Fly h' x T' oe.cls → T' ∉ frs (env :: outer) → (T' = x ∨ s.heap.get? T' = none) → (∀ b o, b ∉ frs (env :: outer) → b ≠ x → s.heap.get? b = some o → h'.get? b = some o) →
   (∀ b o, b ∈ frs (env :: outer) → s.heap.get? b = some o → ∃ sl, h'.get? b = some { o with slots := sl }) → Q () { s with heap := h' }) :
  wpAny M A (leaving env (.ref x)) Q E s := by
 have S1 : ∀ b ∈ frs (env :: outer), b ∈ x :: frs (env :: outer) := fun b hb => List.mem_cons_of_mem _ hb
 have hl' := jV hl S1
 refine wpAny_leaving_first (base := without s.heap (x :: frs (env :: outer))) hfr hl' hf e1 (yF _ _) (jY (by simp)) e3 e4 fun h' left => ?_
 obtain ⟨T', fl', nT, wT, k, ks⟩ := leave_end left hl'
 refine h h' T' fl' nT ?_ (fun b o n1 n2 e => k b o (by simp [n1, n2]) e) ks
 rcases wT with z | z
 ·rcases List.mem_cons.mp z with z | z
  ·exact .inl z
  ·exact absurd z nT
 ·exact .inr z
end
end L2

namespace L2
open PySem PySem.Spec PyProof.Rows
theorem ObjOk.there {P : Program} {w : World} {H : Hp} {h : Heap} {a : Addr} {o : HO} (x : ObjOk P w H h a o) : ∃ u, h.get? a = some u := by
 cases o with
 | lst xs => obtain ⟨_, _, _, _, e⟩ := x; exact ⟨_, e⟩
 | tup xs => obtain ⟨_, _, _, _, e, _⟩ := x; exact ⟨_, e⟩
 | dK kvs => obtain ⟨_, _, _, _, o, _, _, e, _⟩ := x; exact ⟨_, e⟩
 | dT kvs => obtain ⟨_, _, _, _, o, _, _, e, _⟩ := x; exact ⟨_, e⟩
 | set S n => obtain ⟨o, _, _, _, e, _⟩ := x; exact ⟨_, e⟩
 | ins C dx fs => obtain ⟨_, _, _, e, _⟩ := x; exact ⟨_, e⟩
 | own y => obtain ⟨_, e⟩ := x; exact ⟨_, e⟩
 | xd fs => obtain ⟨_, ⟨_, _, _, e, _⟩, _⟩ := x; exact ⟨_, e⟩
 | rng lo hi => obtain ⟨_, _, _, e⟩ := x; exact ⟨_, e⟩
 | frz ob u => obtain ⟨e, _⟩ := x; exact ⟨_, e⟩
 | tbl ps => exact ⟨_, (show h.get? a = some _ from x)⟩
 | met f y => exact ⟨_, (show h.get? a = some _ from x)⟩
 | ext φ => obtain ⟨_, ⟨_, e⟩, _⟩ := x; exact ⟨_, e⟩
theorem HOk.gone {P : Program} {w : World} {H : Hp} {h : Heap} {a : Addr} (x : HOk P w H h) (e : h.get? a = none) : H a = none := by
 cases q : H a with
 | none => rfl
 | some o =>
  obtain ⟨u, r⟩ := (x a o q).there
  rw [e] at r
  cases r
section
variable {P : Program} {w : World} {K : PySem.W.Frag} {mg : Str → Option Value} {base : Heap} {N : List Str} {qual : Str} {scope : Scope} {f : Addr} {cd : Value} {A : Around} {outer : List Env} {s₀ : Shared} {H₀ : Hp} {E : XK}
theorem left_cx {pins : List (Addr × Obj)} {σ : St} {H' : Hp} {s' : Shared} {x T T' : Addr} {cls : Value} {h' : Heap} (J : Inv (cxOf (CX1 P w) P w K mg base N qual scope f cd A outer s₀ H₀ E) pins σ H' s')
  (nx : s₀.heap.get? x = none) (nT : s₀.heap.get? T = none) (hx : H' x = none) (hT : H' T = none) (q : E cls none H') (fl' : Fly h' x T' cls)
  (wT : T' = x ∨ T' = T ∨ s'.heap.get? T' = none)
  (k : ∀ b o, b ∉ frs (envOfC qual scope s₀.heap.objs.size f cd :: outer) → b ≠ x → b ≠ T → s'.heap.get? b = some o → h'.get? b = some o)
  (ks : ∀ b o, b ∈ frs (envOfC qual scope s₀.heap.objs.size f cd :: outer) → s'.heap.get? b = some o → ∃ sl, h'.get? b = some { o with slots := sl }) : CX1 P w outer H₀ s₀ E (.ref x) { s' with heap := h' } := by
 have B : Un (frs outer) [] H₀ H' s₀.heap s'.heap := J.base
 have mem : ∀ b o, s₀.heap.get? b = some o → b ∉ frs outer → b ∉ frs (envOfC qual scope s₀.heap.objs.size f cd :: outer) := fun b o e hb z => by
  rcases List.mem_cons.mp (J.stkSub b z) with y | y
  ·exact absurd y (Nat.ne_of_lt (Heap.lt_size e))
  ·exact hb y
 have neX : ∀ b o, s₀.heap.get? b = some o → b ≠ x := fun b o e z => by rw [z, nx] at e; cases e
 have neT : ∀ b o, s₀.heap.get? b = some o → b ≠ T := fun b o e z => by rw [z, nT] at e; cases e
 have gone : s'.heap.get? T' = none → s₀.heap.get? T' = none := fun e => by
  cases c : s₀.heap.get? T' with
  | none => rfl
  | some o =>
   obtain ⟨o', r⟩ := B.there T' o c (by simp)
   rw [e] at r
   cases r
 refine ⟨x, T', cls, H', rfl, J.os, J.bare, ⟨fun b o e n hb hx => ?_, fun b o e n hb hx => ?_, B.free, fun b o e hx => ?_, B.tups, B.frzs, B.tbls⟩, fun a o e => ?_, nx, ?_, hx, ?_, fl', q⟩
 ·exact k b o (mem b o e hb) (neX b o e) (neT b o e) (B.keep b o e n hb hx)
 ·obtain ⟨sl, r⟩ := B.slot b o e n hb hx
  obtain ⟨sl', r'⟩ := ks b _ (by
   unfold frs at hb ⊢
   rw [List.filterMap_cons]
   split
   ·exact hb
   ·exact List.mem_cons_of_mem _ hb) r
  exact ⟨sl', r'⟩
 ·obtain ⟨o', r⟩ := B.there b o e hx
  by_cases hb : b ∈ frs (envOfC qual scope s₀.heap.objs.size f cd :: outer)
  ·obtain ⟨sl, r'⟩ := ks b _ hb r
   exact ⟨_, r'⟩
  ·exact ⟨o', k b o' hb (neX b o e) (neT b o e) r⟩
 ·refine (J.hok a o e).stay (fun b u hb r => ?_) (fun _ z => z) fun _ _ z => z
  have tr : H' b ≠ none := by
   rcases hb with z | z
   ·rw [z, e]; exact fun z => nomatch z
   ·rw [z]; exact fun z => nomatch z
  exact k b u (fun z => tr (J.stkFree b z)) (fun z => tr (by rw [z]; exact hx)) (fun z => tr (by rw [z]; exact hT)) r
 ·rcases wT with z | z | z
  ·rw [z]; exact nx
  ·rw [z]; exact nT
  ·exact gone z
 ·rcases wT with z | z | z
  ·rw [z]; exact hx
  ·rw [z]; exact hT
  ·exact J.hok.gone z
theorem pass1 : Passes (CX1 P w) (cxOf (CX1 P w) P w K mg base N qual scope f cd A outer s₀ H₀ E) E := by
 intro pins σ H s e s' I ⟨x, T, cls, H', he, os, bare, un, hok, gx, gT, hx, hT, fl, q⟩
 subst he
 obtain ⟨hh, g, d, t, os'⟩ := s'
 obtain rfl : os' = s.os := os
 have J := I.call (h' := hh) (g' := g) (d' := d) (t' := t) (ch := []) un hok bare (fun b z => absurd z (by simp))
 have B : Un (frs outer) [] H₀ H s₀.heap s.heap := I.base
 have gone : ∀ b, s.heap.get? b = none → s₀.heap.get? b = none := fun b e => by
  cases c : s₀.heap.get? b with
  | none => rfl
  | some o =>
   obtain ⟨o', r⟩ := B.there b o c (by simp)
   rw [e] at r
   cases r
 show wpAny _ _ (leaving _ (.ref x)) _ _ _
 refine wM J.ok.frames J.stack rfl fl fun h' T' fl' nT wT k ks => ?_
 exact left_cx J (gone x gx) (gone T gT) hx hT q fl' wT k ks
noncomputable def Throws (X : Cx) (E : XK) : Prop := ∀ (pins : List (Addr × Obj)) (σ : St) (H : Hp) (s : Shared) (x : Addr) (cls : Value) (us : List Value) (h' : Heap), Inv X pins σ H s → Heap.MadeExcOf s.heap h' x cls us → E cls none H → X.xe (.ref x) { s with heap := h' }
theorem throws1 : Throws (cxOf (CX1 P w) P w K mg base N qual scope f cd A outer s₀ H₀ E) E := by
 intro pins σ H s x cls us h1 I md q
 have J := I.un (t' := s.toks) (Un.kept md.keeps) (I.hok.kept md.keeps)
 have B : Un (frs outer) [] H₀ H s₀.heap s.heap := I.base
 have nx : s₀.heap.get? x = none := by
  cases c : s₀.heap.get? x with
  | none => rfl
  | some o =>
   obtain ⟨o', r⟩ := B.there x o c (by simp)
   rw [md.new] at r
   cases r
 have hx : H x = none := I.hok.gone md.new
 obtain ⟨t, ht, _, _⟩ := md.there
 show wpAny _ _ (leaving _ (.ref x)) _ _ _
 refine leaving_new J.ok.frames J.stack rfl ht rfl rfl fun h' T' fl' nT wT k ks => ?_
 exact left_cx J nx nx hx hx q fl' (wT.elim .inl fun z => .inr (.inr z)) (fun b o z1 z2 _ z3 => k b o z1 z2 z3) ks
end
section
variable {X : Cx} {x : Str} {C : Addr} {B newId initId : String} {bm : List Value} {np cpos pos : Pos} {e₀ : Expr} {rest : List Expr} {t : TA} {E : XK}
noncomputable def tThrow (C : Addr) (t : TA) (E : XK) : TS := fun _ σ H => t σ H fun vs H1 => vs.length ≤ sizeLine ∧ E (.ref C) none H1
theorem ps_throw (O : OwnCls x C bm newId X.mg X.base) (FB : ExcBaseFacts B newId initId bm) (hg : Gl X x) (hc : X.calm = true) (hth : Throws X E) (ha : PA X (e₀ :: rest) t) (hdb : (x == ("__debug__" : Str)) = false := by decide)
  (he : starEach (e₀ :: rest) X.env = (false, eval e₀ X.env) :: starEach rest X.env := by rfl) (hpl : (backTo cpos (starEach rest X.env)).any (·.1) = false := by rfl) :
  PS X (.Raise (some (.Call (.Name x np) (e₀ :: rest) [] cpos)) none pos) (tThrow C t E) := by
 intro pins s σ H D I h
 obtain ⟨tl, N, nm, q, bs, hd', sn, su, ab, cl, dd, k0, k1, k2, k3, k5, mN, hC, hN, hni, T⟩ := O.obj
 have pl : (backTo cpos (starEach (e₀ :: rest) X.env)).any (·.1) = false := by
  rw [he]
  show (false || (backTo cpos (starEach rest X.env)).any (·.1)) = false
  rw [hpl]
  rfl
 refine @wpAny_Raise_call_subT _ _ _ _ _ _ nm q C N bs tl bm hd' sn su ab cl dd k0 k1 k2 k3 k5 _ _ _ FB _ _ _ _ _ _ _ (T.hasType FB.hasBase) (I.ok.hd hc) pl hni (vB I hg O.bound ⟨rfl, ?_⟩ hdb)
 have h2 := ha cpos pins s σ H _ I h
 rw [he] at h2 ⊢
 exact Calls.evalArgs_plain (thn h2 fun us s2 ⟨vs, H1, I1, r, z, q⟩ => ⟨rfl, by rw [← r.length]; exact z, I1.bk _ _ hC, hN.keeps I1.bk, T.keeps I1.bk, fun h' e md => hth pins σ H1 s2 e _ _ h' I1 md q⟩)
end
section
variable {X : Cx} {pos : Pos} {e : Expr} {te : TE}
noncomputable def tFmt (te : TE) : TE := fun σ H Q => te σ H fun v H1 => ∃ y, v = .str y ∧ y.length ≤ sizeLine ∧ Q (.str y) H1
theorem pe_fmt (he : PE X e te) : PE X (.FormattedValue e (-1) none pos) (tFmt te) := by
 intro pins s σ H Q I h
 refine wpAny_FormattedValue_plain (thn (he pins s σ H _ I h) fun u s1 ⟨v, H1, I1, r, y, ev, hy, q⟩ => ?_)
 subst ev
 obtain ⟨t, rfl⟩ := r
 exact wpAny_formatField_str ⟨.str y, H1, I1, ⟨t, rfl⟩, q⟩ ⟨.str y, H1, I1.tok _, ⟨_, rfl⟩, q⟩ hy
noncomputable def tFmtR (te : TE) : TE := fun σ H Q => te σ H fun v H1 => ∃ y, v = .str y ∧ (reprText y).length ≤ sizeLine ∧ Q (.str (reprText y)) H1
theorem pe_fmtR (he : PE X e te) : PE X (.FormattedValue e 114 none pos) (tFmtR te) := by
 intro pins s σ H Q I h
 refine wpAny_FormattedValue_repr (thn (he pins s σ H _ I h) fun u s1 ⟨v, H1, I1, r, y, ev, hy, q⟩ => ?_)
 subst ev
 obtain ⟨t, rfl⟩ := r
 refine wpAny_pyReprObj_gives (T := "str") rfl PySem.F.slot_str_repr PySem.F.entry_str_repr (PySem.F.args_str_repr_1 _) (gives_str_repr y t) ?_ rfl hy
 exact wpAny_formatField_str ⟨.str (reprText y), H1, I1.tok _, ⟨_, rfl⟩, q⟩ ⟨.str (reprText y), H1, (I1.tok _).tok _, ⟨_, rfl⟩, q⟩ hy
noncomputable def tJoin : List TE → Str → TE
 | [], acc => fun _ H Q => acc.length ≤ sizeLine ∧ Q (.str acc) H
 | t :: ts, acc => fun σ H Q => t σ H fun v H1 => ∃ y, v = .str y ∧ (acc ++ y).length ≤ sizeLine ∧ tJoin ts (acc ++ y) σ H1 Q
theorem joins_of {es : List Expr} {ts : List TE} (h : Paired (PE X) es ts) : ∀ {acc : Str} {pins : List (Addr × Obj)} {s : Shared} {σ : St} {H : Hp} {Q : VK}, Inv X pins σ H s → tJoin ts acc σ H Q →
  Joins (model X.prog X.w) X.A X.xe (evalEach es X.env) acc (fun out s1 => out.length ≤ sizeLine ∧ EP X pins σ Q (.str out s1.toks) { s1 with toks := s1.toks + 1 }) s := by
 induction h with
 | nil => exact fun {acc _ _ _ _ _} I q => ⟨q.1, .str acc, _, I.tok _, ⟨_, rfl⟩, q.2⟩
 | cons h1 _ ih =>
  intro acc pins s σ H Q I q
  refine thn (h1 pins s σ H _ I q) fun u s1 ⟨v, H1, I1, r, y, ev, hy, q1⟩ => ?_
  subst ev
  obtain ⟨t, rfl⟩ := r
  exact ⟨y, t, rfl, hy, ih I1 q1⟩
theorem pe_joined {v1 v2 : Expr} {vs : List Expr} {ts : List TE} (h : Paired (PE X) (v1 :: v2 :: vs) ts) : PE X (.JoinedStr (v1 :: v2 :: vs) pos) (tJoin ts Str.empty) := by
 intro pins s σ H Q I q
 exact wpAny_JoinedStr (joins_of h I q)
end
section
variable {P : Program} {w : World} {K : PySem.W.Frag} {mg : Str → Option Value} {base : Heap} {qual x : Str} {st : Stmt} {f : Addr} {fd : FuncData} {N ps : List Str} {k : Nat} {sp : Sp}
theorem Fun.ok1 (F : Fun K x qual st f fd) (S : FnScope N ps (xB st)) (len : ∀ vs H Q E, sp vs H Q E → vs.length = ps.length)
  (hb : ∀ (cdv : Value) (A : Around) (outer : List Env) (s : Shared) (H : Hp) (vs : List V) (Q : VK) (E : XK), Room k (A.deeper (envOfC qual (xB st) s.heap.objs.size f cdv)) → sp vs H Q E →
   ∃ t, PSs (cxOf (CX1 P w) P w K mg base N qual (xB st) f cdv A outer s H E) (xC st) t ∧ t { nx := fun _ H' => Q .non H', rt := Q } (start N vs) H) : FnOk P w K mg base (CX1 P w) (k + 1) f fd ps sp := by
 obtain ⟨oc, od, kV, doc, pm, an, cdv, ct, osl, rfl, lk, hcd⟩ := F.ex
 exact fn_of lk hcd S len fun A outer s H vs Q E hr hsp => hb cdv A outer s H vs Q E hr hsp
end
end L2

namespace L2
open PySem PySem.Spec PyProof.Rows
section
variable {X : Cx} {pins : List (Addr × Obj)} {σ : St} {H H' : Hp} {s : Shared} {h' : Heap}
theorem Inv.hop {S : List Addr} (I : Inv X pins σ H s) (hS : ∀ b ∈ S, X.s₀.heap.get? b = none ∧ b ≠ X.env.locals ∧ (∀ x c, X.env.cells.lookup x = some c → c ≠ b) ∧ (∀ p ∈ X.pn ++ pins, p.1 ≠ b) ∧ H b = none)
  (k : ∀ b o, b ∉ frs X.stack → b ∉ S → s.heap.get? b = some o → h'.get? b = some o) (ks : ∀ b o, b ∈ frs X.stack → b ∉ S → s.heap.get? b = some o → ∃ sl, h'.get? b = some { o with slots := sl })
  (same : ∀ b, b ∉ S → H' b = H b) (hok : HOk X.prog X.w H' h') : Inv X pins σ H' { s with heap := h' } := by
 have any : ∀ b o, b ∉ S → s.heap.get? b = some o → ∃ sl, h'.get? b = some { o with slots := sl } := fun b o hb e => by
  by_cases z : b ∈ frs X.stack
  ·exact ks b o z hb e
  ·exact ⟨o.slots, k b o z hb e⟩
 have nS : ∀ b o, X.s₀.heap.get? b = some o → b ∉ S := fun b o e z => by rw [(hS b z).1] at e; cases e
 have tr : ∀ b u, H b = some u → b ∉ S := fun b u e z => by rw [(hS b z).2.2.2.2] at e; cases e
 have nL : X.env.locals ∉ S := fun z => (hS _ z).2.1 rfl
 have nC : ∀ x c, X.env.cells.lookup x = some c → c ∉ S := fun x c e z => (hS c z).2.2.1 x c e rfl
 have nP : ∀ p ∈ X.pn ++ pins, p.1 ∉ S := fun p hp z => (hS _ z).2.2.2.1 p hp rfl
 have out : ∀ b, b ∉ X.fs → b ≠ X.env.locals → b ∉ frs X.stack := fun b h1 h2 z => (List.mem_cons.mp (I.stkSub b z)).elim h2 h1
 have isC : ∀ x c, X.env.cells.lookup x = some c → ∀ v, s.heap.IsCell c v → h'.IsCell c v := fun x c e v ⟨o, ho, hd⟩ => by
  obtain ⟨sl, q⟩ := any c o (nC x c e) ho
  exact ⟨_, q, hd⟩
 have B := I.base
 constructor
 ·exact I.ok
 ·exact I.os
 ·exact I.bare
 ·constructor
  ·intro b o e n hb hx
   exact k b o (out b hb (Nat.ne_of_lt (Nat.lt_of_lt_of_le (Heap.lt_size e) I.ok.above))) (nS b o e) (B.keep b o e n hb hx)
  ·intro b o e n hb hx
   obtain ⟨sl, e1⟩ := B.slot b o e n hb hx
   obtain ⟨sl', e2⟩ := any b _ (nS b o e) e1
   exact ⟨sl', e2⟩
  ·intro b o e n hx
   rw [same b (nS b o e)]
   exact B.free b o e n hx
  ·intro b o e hx
   obtain ⟨o', e1⟩ := B.there b o e hx
   obtain ⟨sl, e2⟩ := any b o' (nS b o e) e1
   exact ⟨_, e2⟩
  ·intro b xs e
   have e1 := B.tups b xs e
   rw [same b (tr b _ e1)]
   exact e1
  ·intro b o u e
   have e1 := B.frzs b o u e
   rw [same b (tr b _ e1)]
   exact e1
  ·intro b ps e
   obtain ⟨m, e1⟩ := B.tbls b ps e
   exact ⟨m, by rw [same b (tr b _ e1)]; exact e1⟩
 ·obtain ⟨m, ⟨o, es, ep, ho, r⟩, hl⟩ := I.loc
  obtain ⟨sl, e⟩ := any _ o nL ho
  refine ⟨m, ⟨_, es, ep, e, r⟩, fun i x v e1 e2 e3 => ?_⟩
  obtain ⟨u, rv, l⟩ := hl i x v e1 e2 e3
  refine ⟨u, rv, l.imp id fun ⟨kd, c, ec, z⟩ => ⟨kd, c, ec, isC x c ec _ z⟩⟩
 ·intro x c e
  obtain ⟨v, z⟩ := I.cell x c e
  exact ⟨v, isC x c e v z⟩
 ·rw [same _ nL]
  exact I.free
 ·intro x c e
  rw [same _ (nC x c e)]
  exact I.freeC x c e
 ·intro p hp
  obtain ⟨e, n, ne, nf, d⟩ := I.pin p hp
  exact ⟨k p.1 p.2 (out _ nf ne) (nP p hp) e, by rw [same _ (nP p hp)]; exact n, ne, nf, d⟩
 ·exact hok
 ·exact I.len
noncomputable def IsExc (x T : Addr) (cls : Value) (h : Heap) : Prop := ∃ o vs, h.get? x = some o ∧ o.cls = cls ∧ o.data = .fields vs ∧ vs[1]? = some (.ref T)
noncomputable def IsEnt (T : Addr) (h : Heap) : Prop := ∃ o ts, h.get? T = some o ∧ o.data = .fields ts ∧ ts[3]? = some .none
noncomputable abbrev held (H : Hp) (x T : Addr) (cls : Value) : Hp := upd (upd H T (.ext (IsEnt T))) x (.ext (IsExc x T cls))
noncomputable def XP (X : Cx) (pins : List (Addr × Obj)) (Ex : St → Value → Hp → Prop) (e : Value) (s' : Shared) : Prop :=
 ∃ σ1 H1 s1, Inv X pins σ1 H1 s1 ∧ CX1 X.prog X.w X.stack H1 s1 (fun c _ H' => Ex σ1 c H') e s'
theorem XP.caught {Ex : St → Value → Hp → Prop} {e : Value} {Q : Unit → Shared → Prop} {E : Value → Shared → Prop} {outer : List Env} (hex : X.ex = []) (hst : X.stack = X.env :: outer) (hf : X.env.frame = some X.env.locals) (h : XP X pins Ex e s)
  (hq : ∀ x T cls σ1 H1 h', e = .ref x → H1 x = none → H1 T = none → T ≠ x → Ex σ1 cls H1 → Inv X pins σ1 (held H1 x T cls) { s with heap := h' } → Q () { s with heap := h' }) :
  wpAny (model X.prog X.w) X.A (leaving X.env e) Q E s := by
 obtain ⟨σ1, H1, s1, I, x, T, cls, H', he, os, bare, un, hok, gx, gT, hx, hT, fl, q⟩ := h
 subst he
 obtain ⟨hh, g, d, t, os'⟩ := s
 obtain rfl : os' = s1.os := os
 have J := I.call (h' := hh) (g' := g) (d' := d) (t' := t) (ch := []) un hok bare (fun b z => absurd z (by simp))
 have gone : ∀ b, s1.heap.get? b = none → X.s₀.heap.get? b = none := fun b e => by
  cases c : X.s₀.heap.get? b with
  | none => rfl
  | some o =>
   obtain ⟨o', r⟩ := I.base.there b o c (by rw [hex]; simp)
   rw [e] at r
   cases r
 have ours : ∀ b, s1.heap.get? b = none → H' b = none → X.s₀.heap.get? b = none ∧ b ≠ X.env.locals ∧ (∀ x c, X.env.cells.lookup x = some c → c ≠ b) ∧ (∀ p ∈ X.pn ++ pins, p.1 ≠ b) ∧ H' b = none := fun b e n => by
  refine ⟨gone b e, fun z => ?_, fun y c ec z => ?_, fun p hp z => ?_, n⟩
  ·obtain ⟨m, ⟨o, _, _, ho, _⟩, _⟩ := I.loc
   rw [← z, e] at ho
   cases ho
  ·obtain ⟨v, o, ho, _⟩ := I.cell y c ec
   rw [z, e] at ho
   cases ho
  ·have ho := (I.pin p hp).1
   rw [z, e] at ho
   cases ho
 have fr : X.A.frames = some (X.env :: outer) := by rw [← hst]; exact I.ok.frames
 have stk := J.stack
 rw [hst] at stk
 refine wM fr stk hf fl fun h2 T' fl' nT wT k ks => ?_
 rw [← hst] at k ks
 have nfr : ∀ b, s1.heap.get? b = none → b ∉ frs X.stack := fun b e z => by
  obtain ⟨_, o, ho, _⟩ := I.stack.mem z
  rw [e] at ho
  cases ho
 have T1 : s1.heap.get? T' = none := by
  rcases wT with z | z | z
  ·rw [z]; exact gx
  ·rw [z]; exact gT
  ·cases c : s1.heap.get? T' with
   | none => rfl
   | some o =>
    obtain ⟨o', r⟩ := un.there T' o c (by simp)
    rw [show hh.get? T' = none from z] at r
    cases r
 have T2 : H' T' = none := by
  rcases wT with z | z | z
  ·rw [z]; exact hx
  ·rw [z]; exact hT
  ·exact hok.gone z
 obtain ⟨oe, vs, oT, ts, f1, f2, f3, f4, f5, f6, f7, f8⟩ := fl'
 refine hq x T' cls σ1 H' h2 rfl hx T2 f5 q (J.hop (S := [x, T, T']) (fun b hb => ?_) (fun b o n1 n2 e => k b o n1 (fun z => n2 (by simp [z])) (fun z => n2 (by simp [z])) e) (fun b o n1 _ e => ks b o n1 e)
  (fun b hb => by show upd (upd H' T' _) x _ b = _; rw [qA fun z => hb (by simp [z]), qA fun z => hb (by simp [z])]) fun a o e => ?_)
 ·simp only [List.mem_cons, List.mem_nil_iff, or_false] at hb
  rcases hb with z | z | z
  ·rw [z]; exact ours x gx hx
  ·rw [z]; exact ours T gT hT
  ·rw [z]; exact ours T' T1 T2
 ·replace e : upd (upd H' T' (.ext (IsEnt T'))) x (.ext (IsExc x T' cls)) a = some o := e
  show ObjOk X.prog X.w (upd (upd H' T' _) x _) h2 a o
  by_cases ha : a = x
  ·subst ha
   rw [qW] at e
   cases e
   exact ⟨⟨oe, vs, f1, f2, f3, f4⟩, ⟨oe, f1⟩, fun h1 h2 ⟨o, ws, e1, e2⟩ z => ⟨o, ws, z o e1, e2⟩⟩
  ·rw [qA ha] at e
   by_cases hb : a = T'
   ·subst hb
    rw [qW] at e
    cases e
    exact ⟨⟨oT, ts, f6, f7, f8⟩, ⟨oT, f6⟩, fun h1 h2 ⟨o, ws, e1, e2⟩ z => ⟨o, ws, z o e1, e2⟩⟩
   ·rw [qA hb] at e
    refine (hok a o e).stay (fun b u hb r => ?_) (fun b z => ?_) fun b xs z => ?_
    ·have tr : H' b ≠ none := by
      rcases hb with z | z
      ·rw [z, e]; exact fun z => nomatch z
      ·rw [z]; exact fun z => nomatch z
     exact k b u (fun z => tr (J.stkFree b z)) (fun z => tr (by rw [z]; exact hx)) (fun z => tr (by rw [z]; exact hT)) r
    ·rw [qA (qB z hx), qA (qB z T2)]; exact z
    ·rw [qA (qB z hx), qA (qB z T2)]; exact z
end
section
variable {M : Model} {A : Around} {E : Value → Shared → Prop} {s : Shared} {env : Env}
theorem try_rows {body orelse : Sem Flow} {h1 : ExceptHandler} {hs : List ExceptHandler} {Q : Flow → Shared → Prop}
  (h : wpAny M A body (fun f s1 => match f with | .next => wpAny M A orelse Q E s1 | f => Q f s1) (fun e s1 => wpAny M A (leaving env e) (fun _ s2 => wpAny M A (handleBy e env (h1 :: hs)) Q E s2) E s1) s) :
  wpAny M A (tryStmt false body (h1 :: hs) orelse [] env) Q E s := by
 unfold tryStmt
 simp
 refine wpAny_bind (wpAny_attempt (wpAny_mono h (fun f s1 h2 => ?_) fun e s1 h2 => ?_))
 ·cases f <;> first | exact h2 | exact wpAny_pure h2
 ·have h3 := wpAny_bind (f := fun _ => handleBy e env (h1 :: hs)) h2
  unfold leaving at h3
  simp only [bind_assoc] at h3
  exact h3
end
noncomputable abbrev XE := St → Value → Hp → Prop
noncomputable def PXE (X : Cx) (e : Expr) (t : XE → TE) : Prop := ∀ (pins : List (Addr × Obj)) (s : Shared) (σ : St) (H : Hp) (Q : VK) (Ex : XE), Inv X pins σ H s → t Ex σ H Q → wpAny (model X.prog X.w) X.A (eval e X.env) (EP X pins σ Q) (XP X pins Ex) s
noncomputable def PX (X : Cx) (st : Stmt) (t : XE → TS) : Prop := ∀ (pins : List (Addr × Obj)) (s : Shared) (σ : St) (H : Hp) (D : Ends) (Ex : XE), Inv X pins σ H s → t Ex D σ H → wpAny (model X.prog X.w) X.A (exec st X.env) (SP X pins D) (XP X pins Ex) s
noncomputable def PXs (X : Cx) (st : List Stmt) (t : XE → TS) : Prop := ∀ (pins : List (Addr × Obj)) (s : Shared) (σ : St) (H : Hp) (D : Ends) (Ex : XE), Inv X pins σ H s → t Ex D σ H → wpAny (model X.prog X.w) X.A (execs st X.env) (SP X pins D) (XP X pins Ex) s
section
variable {X : Cx} {k : Nat} {f : Addr} {fd : FuncData} {ps : List Str} {sp : Sp} {dvs : List V} {ds : List Value} {x : Str} {p pos pos' : Pos} {e : Expr} {es : List Expr} {t : TA}
theorem PA.nox (h : PA X.nox es t) {E : Value → Shared → Prop} {pos : Pos} {pins : List (Addr × Obj)} {s : Shared} {σ : St} {H : Hp} {Q : List V → Hp → Prop} (I : Inv X pins σ H s) (hw : t σ H Q) : wpAny (model X.prog X.w) X.A (spliced (backTo pos (starEach es X.env))) (AP X pins σ Q) E s :=
 wpAny_mono (h pos pins s σ H Q (I.wish _) hw) (fun _ _ ⟨vs, H', I', r, q⟩ => ⟨vs, H', I'.unwish, r, q⟩) fun _ _ z => False.elim z
theorem run_fnX {pins : List (Addr × Obj)} {σ : St} {H : Hp} {s : Shared} {Q : VK} {us : List Value} {vs : List V} {Ex : XE} (F : FnOk X.prog X.w X.K X.mg X.base (CX1 X.prog X.w) k f fd ps sp) (hr : Room k X.A) (hb : Binds X.K fd ps ds) (hd : Vals dvs ds)
  (I : Inv X pins σ H s) (r : Vals vs us) (h : sp (vs ++ dvs) H Q (fun c _ H' => Ex σ c H')) : wpAny (model X.prog X.w) X.A (call (.ref f) us) (EP X pins σ Q) (XP X pins Ex) s := by
 have r2 := r.append hd
 have hl := r2.length.symm.trans (F.len _ _ _ _ h)
 refine wpAny_call (codeAny_mono (F.run _ _ _ _ _ _ _ Q _ hr I.env0 (hb s us I.kIn hl) r2 h) fun a s' hq => ?_)
 match a, hq with
 | .error _, hq => exact ⟨σ, H, s, I, hq⟩
 | .ok (.ret _), hq => exact I.after hq
noncomputable def xCall (sp : Sp) (dvs : List V) (t : TA) : XE → TE := fun Ex σ H Q => t σ H fun vs H1 => sp (vs ++ dvs) H1 Q (fun c _ H' => Ex σ c H')
theorem pxe_call (F : FnOk X.prog X.w X.K X.mg X.base (CX1 X.prog X.w) k f fd ps sp) (hr : Room k X.A) (hg : Gl X x) (hm : X.mg x = some (.ref f)) (hk : PySem.W.keepIn X.K (.ref f) = true) (hb : Binds X.K fd ps ds) (hd : Vals dvs ds)
  (ha : PA X.nox (e :: es) t) (hdb : (x == ("__debug__" : Str)) = false := by decide) (he : starEach (e :: es) X.env = (false, eval e X.env) :: starEach es X.env := by rfl) (hpl : (backTo pos (starEach es X.env)).any (·.1) = false := by rfl) :
  PXE X (.Call (.Name x p) (e :: es) [] pos) (xCall sp dvs t) := by
 intro pins s σ H Q Ex I h
 refine wpAny_Call_Name_kw (vB I hg hm (Q := _) ?_ hdb)
 exact PySem.W.callWith_K (h₀ := X.base) I.ok.mod.kin hk (thn (ha.nox I h) fun us s1 ⟨vs, H1, I1, r, q⟩ => ⟨I1.kIn, run_fnX F hr hb hd I1 r q⟩) he hpl
noncomputable def xSet (i : Nat) (te : XE → TE) : XE → TS := fun Ex D σ H => te Ex σ H fun v H1 => D.nx (σ.set i (some v)) H1
theorem pxs_one {st : Stmt} {t : XE → TS} (h1 : PX X st t) : PXs X [st] t := by
 intro pins s σ H D Ex I h
 refine wpAny_execs_cons (thn (h1 pins s σ H D Ex I h) fun f s1 q => ?_)
 cases f with
 | next => exact wpAny_execs_nil q
 | _ => exact q
theorem px_set {i : Nat} {te : XE → TE} (hN : X.N.Nodup) (hi : X.N[i]? = some x) (hx : Loc X.env.scope x) (he : PXE X e te) (hs : swapsWith e (some (.Name x pos')) pos.line X.env = pure false := by rfl)
  (hf : X.fn x = true ∨ X.env.scope.names.lookup x = some .local := by first | exact .inl rfl | exact .inr rfl) : PX X (.Assign [.Name x pos'] e pos) (xSet i te) := fun pins s σ H D Ex I h =>
 wpAny_Assign_Name (thn (he pins s σ H _ Ex I h) fun v s1 ⟨y, H1, I1, r1, q1⟩ => yG I1 hN hi hx r1 (fun s2 I2 => ⟨_, H1, I2, q1⟩) hf) hs
end
end L2

namespace L2
open PySem PySem.Spec PyProof.Rows
noncomputable def ExcAt (h : Heap) (C : Addr) (bm : List Value) : Prop := bm.contains (.type "BaseException") = true ∧ ∃ nm q N bs hd sn su ab cl dd k0 k1 k2 k3 k5 nid, h.get? C = some (excClassObj nm q C N bs bm hd sn su ab cl dd k0 k1 k2 k3 k5 nid)
theorem ExcAt.keeps {h h' : Heap} {C : Addr} {bm : List Value} (x : ExcAt h C bm) (k : ∀ b o, h.get? b = some o → h'.get? b = some o) : ExcAt h' C bm :=
 ⟨x.1, let ⟨nm, q, N, bs, hd, sn, su, ab, cl, dd, k0, k1, k2, k3, k5, nid, e⟩ := x.2; ⟨nm, q, N, bs, hd, sn, su, ab, cl, dd, k0, k1, k2, k3, k5, nid, k _ _ e⟩⟩
section
variable {M : Model} {A : Around} {E : Value → Shared → Prop}
theorem matches_own {s : Shared} {e C C0 : Addr} {bm bm0 : List Value} {oe : Obj} {Q : Bool → Shared → Prop} (x : ExcAt s.heap C bm) (y : ExcAt s.heap C0 bm0) (he : s.heap.get? e = some oe) (hc : oe.cls = .ref C) (hq : Q ((Value.ref C :: bm).contains (.ref C0)) s) :
  wpAny M A (excMatches (.ref e) (.ref C0)) Q E s := by
 obtain ⟨b1, nm, q, N, bs, hd, sn, su, ab, cl, dd, k0, k1, k2, k3, k5, nid, hC⟩ := x
 obtain ⟨b2, nm', q', N', bs', hd', sn', su', ab', cl', dd', k0', k1', k2', k3', k5', nid', hD⟩ := y
 obtain ⟨h, g, d, t, os⟩ := s
 have hcB : (Value.ref C0 :: bm0).contains (.type "BaseException") = true := by rw [List.contains_cons, b2, Bool.or_true]
 have f := tc_notTuple
 unfold excMatches
 generalize hb : (Value.ref C :: bm).contains (.ref C0) = b at hq
 repeat (first | (with_reducible refine wpAny_loadPart_at he ?_; rw [hc]) | with_reducible refine wpAny_loadPart_at hD ?_ | (with_reducible refine wpAny_isSubtype_exc hD ?_; rw [hcB]) | (with_reducible refine wpAny_isSubtype_exc hC ?_; rw [hb]) | wp_step)
 cases b with
 | true => wp_walk; exact hq
 | false => wp_walk; exact hq
end
section
variable {X : Cx} {pins : List (Addr × Obj)} {σ : St} {H : Hp} {s : Shared} {h' : Heap} {n : Str} {i : Nat}
theorem Inv.lost {m' : Str → Option Value} (I : Inv X pins σ H s) (hN : X.N.Nodup) (hi : X.N[i]? = some n) (hl : ∀ m, s.heap.Ns X.env.locals m → h'.Ns X.env.locals (fun y => if y = n then m' y else m y)) (hs : Heap.SameBut X.env.locals s.heap h') : Inv X pins (σ.set i none) H { s with heap := h' } := by
 have at' : ∀ b o, b ≠ X.env.locals → s.heap.get? b = some o → h'.get? b = some o := fun b o hb e => (hs.2 b hb).trans e
 have ne : ∀ b o, X.s₀.heap.get? b = some o → b ≠ X.env.locals := fun b o e => Nat.ne_of_lt (Nat.lt_of_lt_of_le (Heap.lt_size e) I.ok.above)
 have isC : ∀ x c, X.env.cells.lookup x = some c → ∀ v, s.heap.IsCell c v → h'.IsCell c v := fun x c e v ⟨o, ho, hd⟩ => ⟨o, at' c o (I.cne x c e) ho, hd⟩
 obtain ⟨m, hn, hlk⟩ := id I.loc
 have B := I.base
 constructor
 ·exact I.ok
 ·exact I.os
 ·exact I.bare
 ·constructor
  ·exact fun b o e n hb hx => at' b o (ne b o e) (B.keep b o e n hb hx)
  ·intro b o e n hb hx
   obtain ⟨sl, e1⟩ := B.slot b o e n hb hx
   exact ⟨sl, at' b _ (ne b o e) e1⟩
  ·exact B.free
  ·intro b o e hx
   obtain ⟨o', e1⟩ := B.there b o e hx
   exact ⟨o', at' b _ (ne b o e) e1⟩
  ·exact B.tups
  ·exact B.frzs
  ·exact B.tbls
 ·refine ⟨_, hl m hn, fun j y v e1 e2 e3 => ?_⟩
  have hj : j ≠ i := fun z => by
   subst z
   rw [List.getElem?_set] at e2
   simp at e2
  rw [List.getElem?_set_ne (Ne.symm hj)] at e2
  obtain ⟨u, r, q⟩ := hlk j y v e1 e2 e3
  have hy : y ≠ n := fun z => hj (nodup_ix hN e1 (z ▸ hi))
  refine ⟨u, r, q.imp (fun ⟨a, b⟩ => ⟨a, (if_neg hy).trans b⟩) fun ⟨kd, c, ec, z⟩ => ⟨kd, c, ec, isC y c ec _ z⟩⟩
 ·intro x c e
  obtain ⟨v, z⟩ := I.cell x c e
  exact ⟨v, isC x c e v z⟩
 ·exact I.free
 ·exact I.freeC
 ·intro p hp
  obtain ⟨e, nn, nl, nf, d⟩ := I.pin p hp
  exact ⟨at' _ _ nl e, nn, nl, nf, d⟩
 ·intro b o e
  refine (I.hok b o e).stay (fun c u hc q => at' c u (fun z => ?_) q) (fun _ q => q) fun _ _ q => q
  have hf := I.free
  rw [← z] at hf
  rcases hc with y | y
  ·rw [← y, hf] at e; cases e
  ·rw [hf] at y; cases y
 ·simpa using I.len
theorem yM {M : Model} {A : Around} {E : Value → Shared → Prop} {pos : Pos} {Q : Unit → Shared → Prop} (I : Inv X pins σ H s) (hN : X.N.Nodup) (hi : X.N[i]? = some n) (hk : X.env.scope.names.lookup n = some .local)
  (h : ∀ s', Inv X pins (σ.set i none) H s' → Q () s') : wpAny M A (do bindName X.env n .none; unbindBehindTheSuite X.env n pos) Q E s := by
 have hlt : i < σ.length := I.len ▸ (List.getElem?_eq_some_iff.mp hi).1
 refine wpAny_bind (wpAny_bindName (yG (v := .non) I hN hi (.inl hk) rfl (fun s1 I1 => ?_) (.inr hk)))
 unfold unbindBehindTheSuite
 refine wpAny_onRaise ?_
 obtain ⟨m, hn, hlk⟩ := id I1.loc
 obtain ⟨u, _, q⟩ := hlk i n .non hi (by rw [List.getElem?_set_self hlt]) (.inl hk)
 have hv : m n = some u := by
  rcases q with q | ⟨q, _⟩
  ·exact q.2
  ·have q' : X.env.scope.names.lookup n = some .cell ∨ X.env.scope.names.lookup n = some .free := q
   rw [hk] at q'
   rcases q' with q' | q' <;> cases q'
 refine wpAny_unbindName_local hk hn hv (by simp [I.ok.kind]) fun h2 w hn2 hs2 => ?_
 have J := I1.lost (h' := h2) (m' := fun _ => w) hN hi (fun m2 hm2 => ?_) hs2
 ·rw [List.set_set] at J
  exact h _ J
 ·have : m2 = m := by
   obtain ⟨o, es, ep, ho, hd, _, z⟩ := hm2
   obtain ⟨o', es', ep', ho', hd', _, z'⟩ := hn
   rw [ho] at ho'; cases ho'
   rw [hd] at hd'; cases hd'
   exact funext fun y => (z y).symm.trans (z' y)
  rw [this]
  exact hn2
end
noncomputable abbrev Cx.row (X : Cx) (e : Value) : Cx := { X with A := X.A.mark (some e), calm := false, xe := fun _ _ => False }
section
variable {X : Cx} {pins : List (Addr × Obj)} {σ : St} {H : Hp} {s : Shared} {e : Value}
theorem Inv.row (I : Inv X pins σ H s) (e : Value) : Inv (X.row e) pins σ H s := by
 have ok : (X.row e).Ok := by
  have o := I.ok
  exact ⟨o.mod, o.kind, o.glob, o.blt, o.above, o.inj, o.has, o.cab, (fun z => nomatch (show false = true from z)), o.frames, o.stk, o.exf, o.bs, o.bsz, o.noex, o.exfs, o.funs, o.frf⟩
 exact ⟨ok, I.os, I.bare, I.base, I.loc, I.cell, I.free, I.freeC, I.pin, I.hok, I.len⟩
theorem Inv.unrow (I : Inv (X.row e) pins σ H s) (o : X.Ok) : Inv X pins σ H s := ⟨o, I.os, I.bare, I.base, I.loc, I.cell, I.free, I.freeC, I.pin, I.hok, I.len⟩
noncomputable def Ends.drop (D : Ends) (i : Nat) : Ends := { nx := fun σ H => D.nx (σ.set i none) H, rt := D.rt, bk := fun σ H => D.bk (σ.set i none) H, ct := fun σ H => D.ct (σ.set i none) H }
theorem flight_off {M : Model} {A : Around} {E : Value → Shared → Prop} {Q : Unit → Shared → Prop} {x T : Addr} {cls : Value} (I : Inv X pins σ H s) (hx : H x = some (.ext (IsExc x T cls))) (hT : H T = some (.ext (IsEnt T)))
  (h : ∀ s', Inv X pins σ H s' → Q () s') : wpAny M A (setFlight (.ref x) none) Q E s := by
 obtain ⟨⟨oe, vs, f1, f2, f3, f4⟩, _⟩ := I.hok x _ hx
 obtain ⟨⟨oT, ts, g1, g2, g3⟩, _⟩ := I.hok T _ hT
 have hsz : 3 < ts.size := by
  obtain ⟨z, _⟩ := Array.getElem?_eq_some_iff.mp g3
  exact z
 have mf : Obj.mapFields (·.setIfInBounds 3 .none) oT = { oT with data := .fields (ts.setIfInBounds 3 .none) } := by
  obtain ⟨oc, od, da, sl⟩ := oT
  obtain rfl : da = _ := g2
  rfl
 have up : (s.heap.update T (Obj.mapFields (·.setIfInBounds 3 .none))).get? T = some { oT with data := .fields (ts.setIfInBounds 3 .none) } := by
  rw [Heap.get?_update_self _ g1 (by rw [mf]; rfl), mf]
 refine wpAny_setFlight_none f1 f3 f4 g1 g2 hsz (h _ ?_)
 have J := I.write (x := T) (e := T) (o := .ext (IsEnt T)) (t' := s.toks) (h' := s.heap.update T (Obj.mapFields (·.setIfInBounds 3 .none))) (by rw [hT]; trivial) (.inl rfl) ?_ ?_ ?_
 ·have : upd H T (.ext (IsEnt T)) = H := by
   funext b
   by_cases hb : b = T
   ·subst hb; rw [qW]; exact hT.symm
   ·exact qA hb
  rw [this] at J
  exact J
 ·exact fun b u hb e => by rw [Heap.get?_update_other _ _ (Ne.symm hb)]; exact e
 ·exact ⟨_, up⟩
 ·exact ⟨⟨_, _, up, rfl, by rw [Array.getElem?_setIfInBounds]; simp [hsz]⟩, ⟨_, up⟩, fun h1 h2 ⟨o, ws, e1, e2⟩ z => ⟨o, ws, z o e1, e2⟩⟩
theorem row_as {D : Ends} {x T C C0 : Addr} {bm bm0 : List Value} {cn n : Str} {np pos : Pos} {i : Nat} {b0 : Stmt} {suite : List Stmt} {rest : List ExceptHandler} {ts : TS} (I : Inv X pins σ H s) (hx : H x = some (.ext (IsExc x T (.ref C)))) (hT : H T = some (.ext (IsEnt T)))
  (hN : X.N.Nodup) (hi : X.N[i]? = some n) (hk : X.env.scope.names.lookup n = some .local) (hg : Gl X cn) (hm : X.mg cn = some (.ref C0)) (c1 : ExcAt X.base C bm) (c2 : ExcAt X.base C0 bm0) (hit : (Value.ref C :: bm).contains (.ref C0) = true)
  (hs : PSs (X.row (.ref x)) (b0 :: suite) ts) (q : ts (D.drop i) (σ.set i (some (.ref x))) H) (hdb : (cn == ("__debug__" : Str)) = false := by decide) :
  wpAny (model X.prog X.w) X.A (handleBy (.ref x) X.env (.ExceptHandler (some (.Name cn np)) (some n) (b0 :: suite) pos :: rest)) (SP X pins D) X.xe s := by
 refine wpAny_handleBy_cons (codeAny_handlers_test ?_) (by intro z; cases z)
 have IR := I.row (.ref x)
 obtain ⟨⟨oe, vs, f1, f2, f3, f4⟩, _⟩ := I.hok x _ hx
 refine vB (X := X.row (.ref x)) IR hg hm (matches_own (c1.keeps I.bk) (c2.keeps I.bk) f1 f2 ?_) hdb
 rw [hit]
 refine codeAny_handlers_suite_as (flight_off IR hx hT fun s1 I1 => yG (X := X.row (.ref x)) (v := .ref x) I1 hN hi (.inl hk) rfl (fun s2 I2 => ?_) (.inr hk))
 refine wpAny_mono (hs pins s2 _ H (D.drop i) I2 q) (fun f s3 h3 => ?_) fun _ _ z => False.elim z
 cases f with
 | next =>
  obtain ⟨σ', H', J, z⟩ := h3
  exact yM (J.unrow I.ok) hN hi hk fun s4 J4 => ⟨_, H', J4, z⟩
 | brk =>
  obtain ⟨σ', H', J, z⟩ := h3
  exact yM (J.unrow I.ok) hN hi hk fun s4 J4 => ⟨_, H', J4, z⟩
 | cont =>
  obtain ⟨σ', H', J, z⟩ := h3
  exact yM (J.unrow I.ok) hN hi hk fun s4 J4 => ⟨_, H', J4, z⟩
 | ret u =>
  obtain ⟨v, σ', H', J, r, z⟩ := h3
  exact yM (J.unrow I.ok) hN hi hk fun s4 J4 => ⟨v, _, H', J4, r, z⟩
noncomputable def xRow (base : Heap) (C0 : Addr) (i : Nat) (ts : TS) (D : Ends) : XE := fun σ1 cls H1 => ∃ C bm, cls = .ref C ∧ ExcAt base C bm ∧ (Value.ref C :: bm).contains (.ref C0) = true ∧
 ∀ x T, H1 x = none → H1 T = none → T ≠ x → ts (D.drop i) (σ1.set i (some (.ref x))) (held H1 x T (.ref C))
noncomputable def tTry1 (base : Heap) (C0 : Addr) (i : Nat) (tb : XE → TS) (ts : TS) : TS := fun D σ H => tb (xRow base C0 i ts D) D σ H
theorem ps_try1 {outer : List Env} {body suite : List Stmt} {b0 : Stmt} {C0 : Addr} {bm0 : List Value} {cn n : Str} {np hpos pos : Pos} {i : Nat} {tb : XE → TS} {ts : TS} (hex : X.ex = []) (hst : X.stack = X.env :: outer) (hf : X.env.frame = some X.env.locals)
  (hN : X.N.Nodup) (hi : X.N[i]? = some n) (hk : X.env.scope.names.lookup n = some .local) (hg : Gl X cn) (hm : X.mg cn = some (.ref C0)) (c2 : ExcAt X.base C0 bm0) (hb : PXs X body tb) (hs : ∀ x, PSs (X.row (.ref x)) (b0 :: suite) ts) (hdb : (cn == ("__debug__" : Str)) = false := by decide) :
  PS X (.Try body [.ExceptHandler (some (.Name cn np)) (some n) (b0 :: suite) hpos] [] [] pos) (tTry1 X.base C0 i tb ts) := by
 intro pins s σ H D I h
 rw [arm_exec_Try]
 refine wpAny_bind (wpAny_standAt (try_rows (wpAny_mono (hb pins s σ H D _ I h) (fun f s1 q => ?_) fun e s1 q => ?_)))
 ·cases f with
  | next => exact wpAny_execs_nil q
  | _ => exact q
 ·refine q.caught hex hst hf fun x T cls σ1 H1 h' ee hx hT ne ⟨C, bm, ec, c1, hit, q1⟩ J => ?_
  subst ee ec
  exact row_as J (qW ..) ((qA ne).trans (qW ..)) hN hi hk hg hm c1 c2 hit (hs x) (q1 x T hx hT ne) hdb
end
end L2

namespace L2
open PySem PySem.Spec PySem.W
section
variable {prog : Program} {w : World} {A : Around} {E : Value → Shared → Prop} {h : Heap} {g : Array GenState} {d : Drawn} {t : Nat} {os : OsState} {a C : Addr} {o : Obj} {bm : List Value}
theorem xcls_get {R : Result → Shared → Prop} (hx : h.get? a = some o) (hc : o.cls = .ref C) (hC : ExcAt h C bm) (ob : bm.contains (.type "object") = true) (hq : R (.ok (.ret (.ref C))) ⟨h, g, d, t, os⟩) :
  codeAny (model prog w) A (.call (.builtin "getset_descriptor.__get__") ⟨[.builtin "object.__class__", .ref a, .ref C], []⟩) R ⟨h, g, d, t, os⟩ := by
 obtain ⟨b1, nm, q, N, bs, hd, sn, su, ab, cl, dd, k0, k1, k2, k3, k5, nid, eC⟩ := hC
 have t5 : (⟨h, g, d, t, os⟩ : Shared).TypeIs (.builtin "object.__class__") "getset_descriptor" := F.typeOf_object_class
 have cB : (Value.ref C :: bm).contains (.type (".".intercalate ("object.__class__".cutAt '.').dropLast)) = true := by rw [F.owner_object_class, List.contains_cons, ob]; rfl
 refine codeAny_call_builtin F.slot_gs_get.plain F.entry_gs_get (F.slot_gs_get.check _ _ _ _ _ _ _ _ t5 (F.args_gs_get _ _ _) ?_)
 repeat (any_goals (first | assumption | (with_reducible refine wpAny_loadPart_at hx ?_; rw [hc]) | (with_reducible refine wpAny_isSubtype_exc eC ?_; rw [cB]) | wp_step))
 refine ⟨Code.quiet_builtin _ (by decide +kernel), ?_⟩
 refine codeAny_builtin F.entry_object_class ?_
 repeat (any_goals (first | assumption | (with_reducible refine wpAny_loadPart_at hx ?_; rw [hc]) | wp_step))
theorem xcls_entry {tk : Tok} {Q : Fin → Shared → Prop} (hx : h.get? a = some o) (hc : o.cls = .ref C) (hC : ExcAt h C bm) (ob : bm.contains (.type "object") = true) (l3 : Looks (model prog w) h (typeLookup (.ref C) "__class__") (some (.builtin "object.__class__"))) (hq : Q (.done (.ret (.ref C))) ⟨h, g, d, t, os⟩) :
  wpAny (model prog w) A
   (Builtin.«object.__getattribute__» ⟨[.ref a, .str "__class__" tk], []⟩) Q E ⟨h, g, d, t, os⟩ := by
 have t5 : (⟨h, g, d, t, os⟩ : Shared).TypeIs (.builtin "object.__class__") "getset_descriptor" := F.typeOf_object_class
 have ft := F.typeOf_object_class
 have fg := F.slot_gs_get.lookup
 have fs := F.slot_gs_set.lookup
 repeat (any_goals (first | assumption | (with_reducible refine wpAny_loadPart_at hx ?_; rw [hc]) | with_reducible refine l3.at ?_ | wp_step))
 refine xcls_get hx hc hC ob ?_
 repeat any_goals (first | assumption | wp_step)
theorem xcls_check {M : Model} {nv : Value} {Q : Unit → Shared → Prop} (hx : h.get? a = some o) (hc : o.cls = .ref C) (hC : ExcAt h C bm) (hq : Q () ⟨h, g, d, t, os⟩) : wpAny M A (checkBuiltinCall "BaseException.__getattribute__" ⟨[.ref a, nv], []⟩) Q E ⟨h, g, d, t, os⟩ := by
 have e1 : builtinKind "BaseException.__getattribute__" = some .slot := by decide +kernel
 have e2 : splitId "BaseException.__getattribute__" = some ("BaseException", "__getattribute__") := by decide +kernel
 obtain ⟨b1, nm, q, N, bs, hd, sn, su, ab, cl, dd, k0, k1, k2, k3, k5, nid, eC⟩ := hC
 have cB : (Value.ref C :: bm).contains (.type "BaseException") = true := by rw [List.contains_cons, b1]; rfl
 have e3 := F.args_bexc_ga (.ref a) nv
 simp only [checkBuiltinCall, e1, e2]
 refine wpAny_bind ?_
 unfold isInstance
 repeat (first | (with_reducible refine wpAny_loadPart_at hx ?_; rw [hc]) | (with_reducible refine wpAny_isSubtype_exc eC ?_; rw [cB]) | wp_step)
 exact hq
theorem xcls_call {tk : Tok} {R : Result → Shared → Prop} (hx : h.get? a = some o) (hc : o.cls = .ref C) (hC : ExcAt h C bm) (ob : bm.contains (.type "object") = true) (l3 : Looks (model prog w) h (typeLookup (.ref C) "__class__") (some (.builtin "object.__class__"))) (hq : R (.ok (.ret (.ref C))) ⟨h, g, d, t, os⟩) :
  codeAny (model prog w) A (.call (.builtin "BaseException.__getattribute__") ⟨[.ref a, .str "__class__" tk], []⟩) R ⟨h, g, d, t, os⟩ :=
 codeAny_call_builtin PySem.F.attrBase_ValueError.ga.plain F.entry_bexc_ga (xcls_check hx hc hC (xcls_entry hx hc hC ob l3 hq))
theorem xcls_by {tk : Tok} {Q : Value → Shared → Prop} (hx : h.get? a = some o) (hc : o.cls = .ref C) (hC : ExcAt h C bm) (ob : bm.contains (.type "object") = true) (l1 : Looks (model prog w) h (typeLookup (.ref C) "__getattribute__") (some (.builtin "BaseException.__getattribute__")))
  (l2 : Looks (model prog w) h (typeLookup (.ref C) "__getattr__") none) (l3 : Looks (model prog w) h (typeLookup (.ref C) "__class__") (some (.builtin "object.__class__"))) (hq : Q (.ref C) ⟨h, g, d, t, os⟩) :
  wpAny (model prog w) A (getAttrBy (.ref a) (.str "__class__" tk) false) Q E ⟨h, g, d, t, os⟩ := by
 have f3 := PySem.F.attrBase_ValueError.ga.bind (.ref a)
 have h2 : (Value.builtin "BaseException.__getattribute__" == Value.builtin "object.__getattribute__") = false := by decide +kernel
 have h1 : (onTheHeap (Value.ref C) && Value.builtin "BaseException.__getattribute__" == Value.builtin "object.__getattribute__") = false := by rw [h2]; rfl
 have h0 : (false && onTheHeap (Value.builtin "BaseException.__getattribute__")) = false := rfl
 repeat (any_goals (first | assumption | (with_reducible refine wpAny_loadPart_at hx ?_; rw [hc]) | with_reducible refine l1.at ?_ | with_reducible refine l2.at ?_ | wp_step))
 refine xcls_call hx hc hC ob l3 ?_
 repeat any_goals (first | assumption | wp_step)
theorem xcls_attr {Q : Option Value → Shared → Prop} (hx : h.get? a = some o) (hc : o.cls = .ref C) (hC : ExcAt h C bm) (ob : bm.contains (.type "object") = true) (l1 : Looks (model prog w) h (typeLookup (.ref C) "__getattribute__") (some (.builtin "BaseException.__getattribute__")))
  (l2 : Looks (model prog w) h (typeLookup (.ref C) "__getattr__") none) (l3 : Looks (model prog w) h (typeLookup (.ref C) "__class__") (some (.builtin "object.__class__"))) (hq : Q (some (.ref C)) ⟨h, g, d, t + 1, os⟩) :
  wpAny (model prog w) A (getAttr? (.ref a) "__class__") Q E ⟨h, g, d, t, os⟩ := by
 unfold getAttr? getAttrBy?
 repeat (any_goals (first | assumption | with_reducible apply xcls_by hx hc hC ob l1 l2 l3 | wp_step))
end
end L2
namespace L2
open PySem PySem.Spec PySem.W
noncomputable def ExcIn (x C : Addr) (h : Heap) : Prop := ∃ o, h.get? x = some o ∧ o.cls = .ref C
theorem kitx_exc {K : Frag} {x C : Addr} {bm : List Value} (hC : ∀ h, K.In h → ExcAt h C bm) (ob : bm.contains (.type "object") = true) (l1 : findIn K (.ref C) "__getattribute__" = some (some (.builtin "BaseException.__getattribute__")))
  (l2 : findIn K (.ref C) "__getattr__" = some none) (l3 : findIn K (.ref C) "__class__" = some (some (.builtin "object.__class__"))) : KitX K (.ref x) (.ref C) (ExcIn x C) where
 ty := fun _ _ _ ⟨o, h1, h2⟩ => h2 ▸ (Looks.ld h1).andThen .now
 it := fun _ h X _ => by
  obtain ⟨_, nm, q, N, bs, hd, sn, su, ab, cl, dd, k0, k1, k2, k3, k5, nid, eC⟩ := hC h X
  intro A' Q' E' s' k q
  unfold isType loadHead
  exact wpAny_bind (wpAny_loadPart (k _ _ eC) (wpAny_pure q))
 ne := fun h tp _ _ _ _ X htp => by
  obtain ⟨_, nm, q, N, bs, hd, sn, su, ab, cl, dd, k0, k1, k2, k3, k5, nid, eC⟩ := hC h X
  refine Bool.eq_false_iff.mpr fun z => ?_
  have e : C = tp := Value.ref.inj (beq_iff_eq.mp z)
  rw [← e, eC] at htp
  have z2 := congrArg (fun o => Option.map Obj.data o) htp
  cases z2
 ca := fun {_ _ _ _ _ s} X ⟨o, h1, h2⟩ k => by
  obtain ⟨h, g, d, t, os⟩ := s
  exact xcls_attr h1 h2 (hC h X) ob (looks_findIn X l1) (looks_findIn X l2) (looks_findIn X l3) k
structure Asks (K : Frag) (C : Addr) (bm : List Value) : Prop where
 at' : ∀ h, K.In h → ExcAt h C bm
 ob : bm.contains (.type "object") = true
 l1 : findIn K (.ref C) "__getattribute__" = some (some (.builtin "BaseException.__getattribute__"))
 l2 : findIn K (.ref C) "__getattr__" = some none
 l3 : findIn K (.ref C) "__class__" = some (some (.builtin "object.__class__"))
section
variable {X : Cx}
theorem call_isiE : CallR X (.builtin "isinstance") (fun xs H Q => ∃ x T C bm D b, xs = [.ref x, .ref D] ∧ H x = some (.ext (IsExc x T (.ref C))) ∧ Asks X.K C bm ∧ kitOne X.K (.ref C) (.ref D) = some b ∧ Q (.bl b) H) := by
 intro pins s σ H xs us Q I r h
 obtain ⟨x, T, C, bm, D, b, rfl, hx, ak, e, q⟩ := h
 obtain ⟨u, v, rfl, ru, rv⟩ := vals2 r
 cases ru
 cases rv
 obtain ⟨⟨o, vs, h1, h2, _⟩, _⟩ := I.hok x _ hx
 exact kia_one (kitx_exc ak.at' ak.ob ak.l1 ak.l2 ak.l3) I.kIn ⟨o, h1, h2⟩ e (fun z => nomatch z) fun tk => ⟨.bl b, H, I.tok _, rfl, q⟩
theorem call_isiT : CallR X (.builtin "isinstance") (fun xs H Q => ∃ x T C bm D b, xs = [.ref x, .ty D] ∧ H x = some (.ext (IsExc x T (.ref C))) ∧ Asks X.K C bm ∧ kitOne X.K (.ref C) (.type D) = some b ∧ Q (.bl b) H) := by
 intro pins s σ H xs us Q I r h
 obtain ⟨x, T, C, bm, D, b, rfl, hx, ak, e, q⟩ := h
 obtain ⟨u, v, rfl, ru, rv⟩ := vals2 r
 cases ru
 cases rv
 obtain ⟨⟨o, vs, h1, h2, _⟩, _⟩ := I.hok x _ hx
 exact kia_one (kitx_exc ak.at' ak.ob ak.l1 ak.l2 ak.l3) I.kIn ⟨o, h1, h2⟩ e (fun z => nomatch z) fun tk => ⟨.bl b, H, I.tok _, rfl, q⟩
theorem refs_only : ∀ {ds : List Addr} {us : List Value}, Vals (ds.map V.ref) us → us = ds.map Value.ref
 | [], _, .nil => rfl
 | _ :: _, _, .cons r t => by rw [List.map_cons, ← refs_only t, show _ = Value.ref _ from r]
theorem call_isiU : CallR X (.builtin "isinstance") (fun xs H Q => ∃ x T C bm p, ∃ ds : List Addr, ∃ b, xs = [.ref x, .ref p] ∧ H x = some (.ext (IsExc x T (.ref C))) ∧ H p = some (.tup (ds.map V.ref)) ∧ Asks X.K C bm ∧ kitAny X.K (.ref C) (ds.map Value.ref) = some b ∧ Q (.bl b) H) := by
 intro pins s σ H xs us Q I r h
 obtain ⟨x, T, C, bm, p, ds, b, rfl, hx, hp, ak, e, q⟩ := h
 obtain ⟨u, v, rfl, ru, rv⟩ := vals2 r
 cases ru
 cases rv
 obtain ⟨⟨o, vs, h1, h2, _⟩, _⟩ := I.hok x _ hx
 obtain ⟨_, its, r2, op, g1, g2, n, g3, _⟩ := I.hok p _ hp
 obtain ⟨oc, od, da, sl⟩ := op
 obtain rfl : oc = _ := g2
 obtain rfl : da = _ := g3
 have e2 : its = _ := refs_only r2
 subst e2
 exact kia_tup (kitx_exc ak.at' ak.ob ak.l1 ak.l2 ak.l3) I.kIn ⟨o, h1, h2⟩ g1 e (fun z => nomatch z) fun tk => ⟨.bl b, H, I.tok _, rfl, q⟩
end
end L2

namespace L2
open PySem PySem.Spec PySem.W PyProof.Rows
noncomputable abbrev bmV : List Value := [.type "ValueError", .type "Exception", .type "BaseException", .type "object"]
noncomputable def wordKeys (es : List DictEntry) : Bool := es.all fun e => match e.key with | .str _ _ => true | _ => false
structure Ref (K : Frag) (mg : Str → Option Value) (x : Str) (C : Addr) (bm : List Value) : Prop where
 bd : mg x = some (.ref C)
 own : ∀ h, K.In h → OwnCls x C bmV "ValueError.__new__" mg h
 asks : Asks K C bm
 tail : ∀ h, K.In h → OwnTail h bmV (.ref C :: bm)
theorem yY {K : Frag} {h : Heap} {mg : Str → Option Value} {x : Str} {C N : Addr} {nm q : Str} {bs bm : List Value} {hd : Bool} {sn : List Str} {su : List Value} {ab : Bool} {cl : Option Bool} {dd nd : Option Addr} {k0 k1 k2 k3 k5 : Option Value} {nc : Value} {es : Array DictEntry} {ne : Nat} {ns : Array (Option Value)}
  (X : K.In h) (G : h.Ns mainGlobals mg) (t : ∀ h, K.In h → OwnTail h bmV bm) (a : nsIn K mainGlobals x = some (some (.ref C))) (l : K.lookup C = some (excClassObj nm q C N bs bm hd sn su ab cl dd k0 k1 k2 k3 k5 "ValueError.__new__"))
  (lN : K.lookup N = some ⟨nc, nd, .dict es ne, ns⟩) (ok : wordKeys es.toList = true) (ni : nsIn K N "__init__" = some none)
  (l1 : findIn K (.ref C) "__getattribute__" = some (some (.builtin "BaseException.__getattribute__"))) (l2 : findIn K (.ref C) "__getattr__" = some none) (l3 : findIn K (.ref C) "__class__" = some (some (.builtin "object.__class__"))) : Ref K mg x C bm := by
 have ok' : nsOkIn K N = true := by
  unfold nsOkIn
  rw [lN]
  show es.all _ = true
  rw [← Array.all_toList]
  exact ok
 refine ⟨mg_of X G a, fun base Y => ?_, ⟨fun base Y => ⟨?_, ?_⟩, ?_, l1, l2, l3⟩, fun base Y => ?_⟩
 ·exact ⟨mg_of X G a, bm, N, nm, q, bs, hd, sn, su, ab, cl, dd, k0, k1, k2, k3, k5, _, Y _ _ l, .of_isNs (isNs_of_in Y ok'), nsMap_none_of_in Y ok' ni, t base Y⟩
 ·exact (t base Y).hasType rfl
 ·exact ⟨nm, q, N, bs, hd, sn, su, ab, cl, dd, k0, k1, k2, k3, k5, _, Y _ _ l⟩
 ·exact (t h X).hasType rfl
 ·exact .own (Y _ _ l) (.of_isNs (isNs_of_in Y ok')) (nsMap_none_of_in Y ok' ni) (t base Y)
end L2

namespace L2
open PySem PySem.Spec PySem.W PyProof.Rows
structure Dx (P : Program) (w : World) (K : Frag) (mg : Str → Option Value) (base : Heap) (x : Str) (k : Nat) (ps : List Str) (sp : Sp) : Prop where
 ex : ∃ f fd, FnOk P w K mg base (CX1 P w) k f fd ps sp ∧ mg x = some (.ref f) ∧ keepIn K (.ref f) = true ∧ Binds K fd ps []
section
variable {P : Program} {w : World} {K : Frag} {mg : Str → Option Value} {base : Heap} {x : Str} {st : Stmt} {j k : Nat} {N ps : List Str} {sp sp' : Sp}
theorem Fd.okx (F : Fd K mg x st ps) (S : FnScope N ps (xB st)) (len : ∀ vs H Q E, sp vs H Q E → vs.length = ps.length)
  (hbody : ∀ (f : Addr) (cdv : Value) (A : Around) (outer : List Env) (s : Shared) (H : Hp) (vs : List V) (Q : VK) (E : XK), Room k (A.deeper (envOfC x (xB st) s.heap.objs.size f cdv)) → sp vs H Q E →
   ∃ t, PSs (cxOf (CX1 P w) P w K mg base N x (xB st) f cdv A outer s H E) (xC st) t ∧ t { nx := fun _ H' => Q .non H', rt := Q } (start N vs) H) : Dx P w K mg base x (k + 1) ps sp :=
 let ⟨f, fd, F, a, b, c⟩ := F.ex
 ⟨f, fd, F.ok1 S len (hbody f), a, b, c⟩
end
section
variable {P : Program} {w : World} {K : Frag} {mg : Str → Option Value} {base : Heap} {N : List Str} {qual : Str} {scope : Scope} {f : Addr} {cd : Value} {A : Around} {outer : List Env} {s₀ : Shared} {H₀ : Hp} {E : XK} {j k : Nat} {ps : List Str} {sp : Sp} {x : Str} {p pos : Pos} {e : Expr} {es : List Expr} {t : TA}
theorem qE (D : Dx P w K mg base x j ps sp) (hr : Room k (cxOf (CX1 P w) P w K mg base N qual scope f cd A outer s₀ H₀ E).A) (ha : PA (cxOf (CX1 P w) P w K mg base N qual scope f cd A outer s₀ H₀ E) (e :: es) t) (hjk : j ≤ k := by first | decide | omega)
  (hg : Gl (cxOf (CX1 P w) P w K mg base N qual scope f cd A outer s₀ H₀ E) x := by rfl)
  (hdb : (x == ("__debug__" : Str)) = false := by decide) (he : starEach (e :: es) (cxOf (CX1 P w) P w K mg base N qual scope f cd A outer s₀ H₀ E).env = (false, eval e (cxOf (CX1 P w) P w K mg base N qual scope f cd A outer s₀ H₀ E).env) :: starEach es (cxOf (CX1 P w) P w K mg base N qual scope f cd A outer s₀ H₀ E).env := by rfl)
  (hpl : (backTo pos (starEach es (cxOf (CX1 P w) P w K mg base N qual scope f cd A outer s₀ H₀ E).env)).any (·.1) = false := by rfl) :
  PE (cxOf (CX1 P w) P w K mg base N qual scope f cd A outer s₀ H₀ E) (.Call (.Name x p) (e :: es) [] pos) (tCall sp [] E t) := by
 obtain ⟨f', fd, F, a, b, c⟩ := D.ex
 exact pe_call (F.mono hjk) hr hg a b c .nil pass1 ha hdb he hpl
theorem kN {C : Addr} {np cpos : Pos} (O : OwnCls x C bmV "ValueError.__new__" mg base) (ha : PA (cxOf (CX1 P w) P w K mg base N qual scope f cd A outer s₀ H₀ E) (e :: es) t) (hg : Gl (cxOf (CX1 P w) P w K mg base N qual scope f cd A outer s₀ H₀ E) x := by rfl)
  (hdb : (x == ("__debug__" : Str)) = false := by decide) (he : starEach (e :: es) (cxOf (CX1 P w) P w K mg base N qual scope f cd A outer s₀ H₀ E).env = (false, eval e (cxOf (CX1 P w) P w K mg base N qual scope f cd A outer s₀ H₀ E).env) :: starEach es (cxOf (CX1 P w) P w K mg base N qual scope f cd A outer s₀ H₀ E).env := by rfl)
  (hpl : (backTo cpos (starEach es (cxOf (CX1 P w) P w K mg base N qual scope f cd A outer s₀ H₀ E).env)).any (·.1) = false := by rfl) (hc : (cxOf (CX1 P w) P w K mg base N qual scope f cd A outer s₀ H₀ E).calm = true := by rfl) :
  PS (cxOf (CX1 P w) P w K mg base N qual scope f cd A outer s₀ H₀ E) (.Raise (some (.Call (.Name x np) (e :: es) [] cpos)) none pos) (tThrow C t E) :=
 ps_throw O PySem.F.excBase_ValueError hg hc throws1 ha hdb he hpl
end
section
variable {X : Cx} {pos : Pos} {e : Expr} {te : TE}
end
section
variable {X : Cx} {P : Program} {w : World} {K : Frag} {mg : Str → Option Value} {base : Heap} {j k : Nat} {ps : List Str} {sp : Sp} {x : Str} {p pos : Pos} {e : Expr} {es : List Expr} {t : TA}
theorem pxe_callX (D : Dx P w K mg base x j ps sp) (hr : Room k X.A) (ha : PA X.nox (e :: es) t) (hjk : j ≤ k := by first | decide | omega) (hg : Gl X x := by rfl)
  (h1 : X.prog = P := by rfl) (h2 : X.w = w := by rfl) (h3 : X.K = K := by rfl) (h4 : X.mg = mg := by rfl) (h5 : X.base = base := by rfl)
  (hdb : (x == ("__debug__" : Str)) = false := by decide) (he : starEach (e :: es) X.env = (false, eval e X.env) :: starEach es X.env := by rfl) (hpl : (backTo pos (starEach es X.env)).any (·.1) = false := by rfl) :
  PXE X (.Call (.Name x p) (e :: es) [] pos) (xCall sp [] t) := by
 subst h1 h2 h3 h4 h5
 obtain ⟨f, fd, F, a, b, c⟩ := D.ex
 exact pxe_call (F.mono hjk) hr hg a b c .nil ha hdb he hpl
end
theorem jN {X : Cx} {K : Frag} {mg : Str → Option Value} {x : Str} {C : Addr} {bm : List Value} {pos : Pos} (R : Ref K mg x C bm) (hg : Gl X x := by rfl) (hm : X.mg = mg := by rfl) (hd : (x == ("__debug__" : Str)) = false := by decide) : PE X (.Name x pos) (tC (.ref C)) := by
 subst hm
 exact pe_glob (v := .ref C) hg R.bd rfl hd
noncomputable def rIsN : R2 := fun x y H Q => y = .non ∧ Q (.bl (decide (x = .non))) H
noncomputable def rIsiE (K : Frag) : List V → Hp → VK → Prop := fun xs H Q => ∃ x T C bm D b, xs = [.ref x, .ref D] ∧ H x = some (.ext (IsExc x T (.ref C))) ∧ Asks K C bm ∧ kitOne K (.ref C) (.ref D) = some b ∧ Q (.bl b) H
noncomputable def rIsiT (K : Frag) : List V → Hp → VK → Prop := fun xs H Q => ∃ x T C bm D b, xs = [.ref x, .ty D] ∧ H x = some (.ext (IsExc x T (.ref C))) ∧ Asks K C bm ∧ kitOne K (.ref C) (.type D) = some b ∧ Q (.bl b) H
noncomputable def rIsiU (K : Frag) : List V → Hp → VK → Prop := fun xs H Q => ∃ x T C bm p, ∃ ds : List Addr, ∃ b, xs = [.ref x, .ref p] ∧ H x = some (.ext (IsExc x T (.ref C))) ∧ H p = some (.tup (ds.map V.ref)) ∧ Asks K C bm ∧ kitAny K (.ref C) (ds.map Value.ref) = some b ∧ Q (.bl b) H
section
variable {X : Cx} {K : Frag}
theorem op_isNK : OpR X (compareOp .Is) rIsN := op_isN
theorem yZ (hK : X.K = K := by rfl) : CallR X (.builtin "isinstance") (rIsiE K) := by subst hK; exact call_isiE
theorem call_isiTK (hK : X.K = K := by rfl) : CallR X (.builtin "isinstance") (rIsiT K) := by subst hK; exact call_isiT
theorem call_isiUK (hK : X.K = K := by rfl) : CallR X (.builtin "isinstance") (rIsiU K) := by subst hK; exact call_isiU
theorem drop_nx {D : Ends} {i : Nat} {σ : St} {H : Hp} (h : D.nx (σ.set i none) H) : (D.drop i).nx σ H := h
end
theorem bt_ValueError : bootBuiltins "ValueError" = some (.type "ValueError") := by decide +kernel
end L2

namespace PySem
namespace FD
theorem tuple_no_keys : typeLookup (.type "tuple") "keys" = pure none := by rw [typeLookup_type, builtinLookup_eq_fast]; kernel_rfl
end FD
section
variable {prog : Program} {w : World} {A : Around} {E : Value → Shared → Prop} {s : Shared}
theorem vC {a : Addr} {o : Obj} {xs : Array Value} {k : Nat} {Q : Option Value → Shared → Prop} (hx : s.heap.get? a = some o) (hc : o.cls = .type "tuple") (hd : o.data = .seq xs k) (hn : o.dict = none) (hA : A.handled = none)
  (h : ∀ h' tk, (∀ b o, s.heap.get? b = some o → h'.get? b = some o) → Q none { s with heap := h', toks := tk }) : wpAny (model prog w) A (getAttr? (.ref a) "keys") Q E s := by
 obtain ⟨hp, g, d, tk, os⟩ := s
 obtain ⟨oc, od, da, sl⟩ := o
 obtain rfl : oc = _ := hc
 obtain rfl : da = _ := hd
 obtain rfl : od = _ := hn
 have hT : ∀ tk', (⟨hp, g, d, tk', os⟩ : Shared).TypeIs (.ref a) "tuple" := fun _ => ⟨_, hx, rfl⟩
 have f1 := sub_AttributeError
 have f3 := F.slot_tuple_getattribute.lookup
 have f4 := F.slot_tuple_getattribute.bind (.ref a)
 have f5 := am_tuple_getattr_none
 unfold getAttr? getAttrBy? getAttrBy
 repeat (any_goals (first | assumption | exact hT _ | ((with_reducible show wpAny _ _ (call (Value.builtin "tuple.__getattribute__") _ _) _ _ _); refine call_meets F.slot_tuple_getattribute (hT _) am_entry_tuple_getattribute (F.args_tuple_getattribute_2 _ _) (meets_getattribute_miss_tuple a xs k sl _ _ FD.tuple_no_keys FD.keys_name FD.keys_len) ⟨hx, hA, fun h' tk' e hx' => ?_⟩) | wp_step))
 obtain ⟨t', u', he⟩ := hx'.there
 show wpAny _ _ (getattributeRaised _ _ _ _ _ _ _) _ _ _
 unfold getattributeRaised
 repeat (any_goals (first | assumption | wp_step))
 exact h _ _ hx'.keeps
variable {K : Type} [DecidableEq K] {knd : KeyKind prog w K}
theorem vT {l : Addr} {ol : Obj} {xs : Array Value} {n : Nat} {kvs : List (Value × Value)} {ks : List (K × Value)} {Q : Value → Shared → Prop} (hh : A.handled = none) (hl : s.heap.get? l = some ol) (hc : ol.cls = .type "tuple") (hd : ol.data = .seq xs n) (hn : ol.dict = none)
  (hp : ∀ (i : Nat) p, kvs[i]? = some p → ∃ T o m, xs[i]? = some (.ref T) ∧ s.heap.get? T = some o ∧ o.cls = .type "tuple" ∧ o.data = .seq #[p.1, p.2] m) (hlen : kvs.length = xs.size) (hk : Keyed knd ks kvs) (hz : ks.length ≤ 1000)
  (hQ : ∀ p h' tk, s.heap.objs.size ≤ p → (∀ b o, s.heap.get? b = some o → h'.get? b = some o) → h'.DictOf knd p (merged [] ks) → Q (.ref p) { s with heap := h', toks := tk }) :
  wpAny (model prog w) A (call (.type "dict") [.ref l]) Q E s := by
 refine call_dict_arg (T := "tuple") ⟨_, hl, hc⟩ (by decide) fun E' => ?_
 have kd : ∀ b o, s.heap.get? b = some o → (s.heap.push { cls := .type "dict", data := .dict #[] }).get? b = some o := fun b o e => Heap.get?_push_of_some _ e
 refine vC (kd _ _ hl) hc hd hn hh fun h2 tk2 kp2 => ⟨rfl, ?_⟩
 have kl : ∀ b o, s.heap.get? b = some o → h2.get? b = some o := fun b o e => kp2 _ _ (kd _ _ e)
 refine wpAny_pyIter_tuple (s := { s with heap := h2, toks := tk2 }) (items := xs) ⟨_, kl _ _ hl, hc, n, hd⟩ ?_
 have k3 : ∀ b o, h2.get? b = some o → (h2.push { cls := .type "tuple_iterator", data := .fields #[.ref l, .int 0 0] }).get? b = some o := fun b o e => Heap.get?_push_of_some _ e
 have dlt : s.heap.objs.size < h2.objs.size := Heap.lt_size (kp2 _ _ (Heap.get?_push_size _ rfl))
 have P : PairIt prog w A.in1.in1 s.heap.objs.size h2.objs.size [h2.objs.size] kvs (fun i h => h.IsTupleIter h2.objs.size l i ∧ ∀ b o, s.heap.get? b = some o → h.get? b = some o) :=
  {frame := fun i h h' ⟨S, kp⟩ sb _ => ⟨S.at fun o e => (sb.2 _ (Nat.ne_of_gt dlt)).trans e, fun b o e => (sb.2 b (Nat.ne_of_lt (Heap.lt_size e))).trans (kp b o e)⟩
   item := fun i s' Q E k v e ⟨S, kp⟩ hQ => by
    obtain ⟨T, o, m, ex, ho, hc', hd'⟩ := hp i (k, v) e
    refine wpAny_pyNext_tuple_item (items := xs) S ⟨_, kp _ _ hl, hc, n, hd⟩ ex fun h' S' sb => ?_
    have nb : ∀ b o, s.heap.get? b = some o → b ≠ h2.objs.size := fun b o e => Nat.ne_of_lt (Nat.lt_trans (Heap.lt_size e) dlt)
    exact hQ T h' s'.toks m ⟨S', fun b o e => (sb.2 b (nb b o e)).trans (kp b o e)⟩ ⟨o, (sb.2 T (nb T o ho)).trans (kp _ _ ho), hc', hd'⟩ fun b o hb e => (sb.2 b (fun z => hb (by simp [z]))).trans e
   done := fun s' Q E ⟨S, kp⟩ hQ => by
    refine wpAny_pyNext_tuple_end (A := A.in1.in1) (items := xs) hh S ⟨_, kp _ _ hl, hc, n, hd⟩ (by rw [hlen]; simp) fun h' eb => ?_
    exact hQ h' s'.toks fun b o hb e => eb b o (fun z => hb (by simp [z])) e }
 have hd0 : (h2.push { cls := .type "tuple_iterator", data := .fields #[.ref l, .int 0 0] }).DictOf knd s.heap.objs.size (merged [] (ks.take 0)) := by
  obtain ⟨o, es, ep, ho, r⟩ := new_dict_of (knd := knd) s.heap
  exact ⟨o, es, ep, k3 _ _ (kp2 _ _ ho), r⟩
 refine upd_loop (A := A.in1) (s₀ := { s with heap := h2.push { cls := .type "tuple_iterator", data := .fields #[.ref l, .int 0 0] }, toks := tk2 }) P hk (by simp; exact Nat.ne_of_lt dlt) hz (fun h' tk kp hD => ⟨rfl, ?_⟩) ks.length 0 _ tk2 (by simp) (Nat.zero_le _) ⟨⟨_, Heap.get?_push_size _ rfl, rfl, rfl⟩, fun b o e => k3 _ _ (kl _ _ e)⟩ hd0 (fun _ _ _ _ e => e)
 refine hQ _ h' tk (Nat.le_refl _) (fun b o e => kp b o ?_ (Nat.ne_of_lt (Heap.lt_size e)) (k3 _ _ (kl b o e))) hD
 simp only [List.mem_singleton]
 exact Nat.ne_of_lt (Nat.lt_trans (Heap.lt_size e) dlt)
end
end PySem
namespace L2
open PySem PySem.Spec PyProof.Rows
noncomputable def PairI (H : Hp) (f : Int × Int) (u : V) : Prop := ∃ a, u = .ref a ∧ H a = some (.tup [.int f.1, .int f.2])
noncomputable def pairI (fs : List (Int × Int)) : List (Key × V) := fs.map fun p => (Sum.inl p.1, .int p.2)
section
variable {X : Cx} {pins : List (Addr × Obj)} {σ : St} {H : Hp} {s : Shared}
theorem pairsI_keyed (I : Inv X pins σ H s) {fs : List (Int × Int)} {us : List V} {its : List Value} (hp : Paired (PairI H) fs us) (hv : Vals us its) : ∃ (vv : List (Value × Value)) (ks : List (Key × Value)),
  (∀ (i : Nat) p, vv[i]? = some p → ∃ T o m, its[i]? = some (.ref T) ∧ s.heap.get? T = some o ∧ o.cls = .type "tuple" ∧ o.data = .seq #[p.1, p.2] m) ∧ vv.length = its.length ∧ Keyed (mixKind X.prog X.w) ks vv ∧ KV (pairI fs) ks ∧ ks.length = fs.length := by
 induction hp generalizing its with
 | nil =>
  cases hv
  exact ⟨[], [], fun i p e => by simp at e, rfl, .nil, .nil, rfl⟩
 | @cons kv _ _ _ f t ih =>
  cases hv with
  | cons r t2 =>
  obtain ⟨vv, ks, h1, h2, h3, h4, h5⟩ := ih t2
  obtain ⟨a, rfl, ha⟩ := f
  cases r
  obtain ⟨z, its, rv, o, ho, hc, m, hd, _⟩ := I.hok a _ ha
  obtain ⟨u, v, rfl, ru, rv'⟩ := vals2 rv
  obtain ⟨tk, rfl⟩ := ru
  refine ⟨(.int kv.1 tk, v) :: vv, (Sum.inl kv.1, v) :: ks, fun i p e => ?_, by simp [h2], .cons ⟨mixKind_int _ _ kv.1 tk, rfl⟩ h3, .cons ⟨rfl, rv'⟩ h4, by simp [h5]⟩
  cases i with
  | zero =>
   simp at e
   subst e
   exact ⟨a, o, m, rfl, ho, hc, hd⟩
  | succ i => exact h1 i p (by simpa using e)
theorem call_dict_ofT (hc : X.calm = true) : CallR X (.type "dict") (fun vs H Q => ∃ l us fs, vs = [.ref l] ∧ H l = some (.tup us) ∧ Paired (PairI H) fs us ∧ fs.length ≤ 1000 ∧ ∀ p, H p = none → Q (.ref p) (upd H p (.dK (mergeK [] (pairI fs))))) := by
 intro pins s σ H vs us Q I r h
 obtain ⟨l, xs, fs, rfl, hl, hp, h1000, q⟩ := h
 obtain ⟨u, rfl, ru⟩ := vals1 r
 cases ru
 obtain ⟨z, its, rv, o, ho, hc', n, hd, hn⟩ := I.hok l _ hl
 obtain ⟨vv, ks, k1, k2, k3, k4, k5⟩ := pairsI_keyed I hp rv
 refine vT (knd := mixKind X.prog X.w) (ks := ks) (kvs := vv) (I.ok.hd hc) ho hc' hd hn (fun i p ep => ?_) (by simp [k2]) k3 (by omega) fun p h' tk hp' keep hD => I.newDict hp' keep k4 (by omega) hD (q p (I.hok.fresh hp'))
 obtain ⟨T, o, m, a1, a2⟩ := k1 i p ep
 exact ⟨T, o, m, by simpa using a1, a2⟩
end
theorem put_has {kvs : List (Key × V)} {k : Key} {v : V} : (kvs.any fun kv => decide (kv.1 = k)) = true ↔ k ∈ kvs.map (·.1) := by
 simp only [List.any_eq_true, List.mem_map, decide_eq_true_eq]
theorem put_old {kvs : List (Key × V)} {k : Key} {v : V} (h : k ∈ kvs.map (·.1)) : (putK kvs k v).map (·.1) = kvs.map (·.1) := by
 unfold putK
 rw [if_pos ((put_has (v := v)).mpr h), List.map_map]
 refine List.map_congr_left fun kv _ => ?_
 show (if kv.1 = k then (kv.1, v) else kv).1 = kv.1
 split <;> rfl
theorem put_new {kvs : List (Key × V)} {k : Key} {v : V} (h : k ∉ kvs.map (·.1)) : (putK kvs k v).map (·.1) = kvs.map (·.1) ++ [k] := by
 unfold putK
 rw [if_neg fun z => h ((put_has (v := v)).mp z), List.map_append]
 rfl
theorem merge_lt (fs : List (Int × Int)) : ∀ kvs : List (Key × V), (mergeK kvs (pairI fs)).length ≤ kvs.length + fs.length ∧
  ((mergeK kvs (pairI fs)).length = kvs.length + fs.length ↔ ((fs.map (·.1)).Nodup ∧ ∀ f ∈ fs, (Sum.inl f.1 : Key) ∉ kvs.map (·.1))) := by
 induction fs with
 | nil => exact fun kvs => ⟨Nat.le_refl _, ⟨fun _ => ⟨List.nodup_nil, fun f h => nomatch h⟩, fun _ => rfl⟩⟩
 | cons f fs ih =>
  intro kvs
  have e : mergeK kvs (pairI (f :: fs)) = mergeK (putK kvs (Sum.inl f.1) (.int f.2)) (pairI fs) := rfl
  obtain ⟨h1, h2⟩ := ih (putK kvs (Sum.inl f.1) (.int f.2))
  rw [e]
  rw [List.length_cons]
  by_cases m : (Sum.inl f.1 : Key) ∈ kvs.map (·.1)
  ·have el := congrArg List.length (put_old (v := .int f.2) m)
   rw [List.length_map, List.length_map] at el
   refine ⟨by omega, fun z => by omega, fun ⟨_, z⟩ => absurd m (z f (List.mem_cons_self ..))⟩
  ·have ek := put_new (v := .int f.2) m
   have el := congrArg List.length ek
   rw [List.length_map, List.length_append, List.length_map] at el
   have el' : (putK kvs (Sum.inl f.1) (.int f.2)).length = kvs.length + 1 := el
   rw [ek] at h2
   refine ⟨by omega, fun z => ?_, fun ⟨nd, z⟩ => ?_⟩
   ·obtain ⟨nd, d⟩ := h2.mp (by omega)
    refine ⟨List.nodup_cons.mpr ⟨fun hm => ?_, nd⟩, fun g hg => ?_⟩
    ·obtain ⟨g, hg, eg⟩ := List.mem_map.mp hm
     exact d g hg (List.mem_append.mpr (.inr (by rw [eg]; exact List.mem_singleton.mpr rfl)))
    ·rcases List.mem_cons.mp hg with r | r
     ·rw [r]; exact m
     ·exact fun zz => d g r (List.mem_append.mpr (.inl zz))
   ·have := h2.mpr ⟨(List.nodup_cons.mp nd).2, fun g hg zz => ?_⟩
    ·omega
    ·rcases List.mem_append.mp zz with r | r
     ·exact z g (List.mem_cons_of_mem _ hg) r
     ·have eg : g.1 = f.1 := Sum.inl.inj (List.mem_singleton.mp r)
      exact (List.nodup_cons.mp nd).1 (by show f.1 ∈ _; rw [← eg]; exact List.mem_map_of_mem (f := fun x : Int × Int => x.1) hg)
theorem twice_iff (fs : List (Int × Int)) : ((mergeK [] (pairI fs)).length < fs.length) ↔ ¬ (fs.map (·.1)).Nodup := by
 obtain ⟨h1, h2⟩ := merge_lt fs []
 rw [List.length_nil, Nat.zero_add] at h1 h2
 constructor
 ·exact fun h nd => by have := h2.mpr ⟨nd, fun f _ z => nomatch z⟩; omega
 ·exact fun h => by
   rcases Nat.lt_or_eq_of_le h1 with z | z
   ·exact z
   ·exact absurd (h2.mp z).1 h
end L2

namespace L2
open PySem PySem.Spec PyProof.Rows
theorem strs_are {ws : List Str} : ∀ {its : List Value}, Vals (ws.map V.str) its → StrsAre its ws := by
 induction ws with
 | nil => intro its h; cases h; exact .nil
 | cons x ws ih =>
  intro its h
  cases h with
  | cons r t =>
   obtain ⟨tk, rfl⟩ := r
   exact .cons x tk (ih t)
theorem strs_at (k : Str) {ws : List Str} {its : List Value} (h : StrsAre its ws) (j : Nat) (hj : j < its.length) (hw : j < ws.length) : isStrOf k its[j] = (ws[j] == k) := by
 induction h generalizing j with
 | nil => exact absurd hj (Nat.not_lt_zero _)
 | cons y t h ih =>
  cases j with
  | zero => rfl
  | succ j => exact ih j (Nat.lt_of_succ_lt_succ hj) (Nat.lt_of_succ_lt_succ hw)
theorem ne_before {ws : List Str} {k : Str} : ∀ {j : Nat} (hj : j < ws.length), j < ws.idxOf k → (ws[j] == k) = false := by
 induction ws with
 | nil => intro j hj; exact absurd hj (Nat.not_lt_zero _)
 | cons x ws ih =>
  intro j hj h
  by_cases e : (x == k) = true
  ·rw [List.idxOf_cons, e] at h
   exact absurd h (Nat.not_lt_zero _)
  ·have e' : (x == k) = false := by simpa using e
   cases j with
   | zero => exact e'
   | succ j =>
    rw [List.idxOf_cons, e'] at h
    exact ih (Nat.lt_of_succ_lt_succ hj) (Nat.lt_of_succ_lt_succ h)
noncomputable def rIndex : V → List V → Hp → VK → Prop := fun x vs H Q => ∃ (l : Addr) (ws : List Str) (k : Str), x = .ref l ∧ vs = [.str k] ∧ H l = some (.lst (ws.map V.str)) ∧ k ∈ ws ∧ ws.length ≤ 100000 ∧ Q (.int (ws.idxOf k : Nat)) H
theorem mt_index {X : Cx} : MtM X "list.index" rIndex := by
 intro pins s σ H x vs v us Q I rx rv h
 obtain ⟨l, ws, k, rfl, rfl, hl, hk, hz, q⟩ := h
 cases rx
 obtain ⟨u, rfl, ru⟩ := rv.one
 obtain ⟨t, rfl⟩ := ru
 obtain ⟨z, its, n, r, hlen, e⟩ := I.lstM hl
 have sa := strs_are r
 have ll : its.length = ws.length := by rw [← hlen, List.length_map]
 have hj : ws.idxOf k < ws.length := List.idxOf_lt_length_iff.mpr hk
 refine call_meets PySem.F.slot_list_index ⟨_, e, rfl⟩ PySem.F.entry_list_index (PySem.F.args_list_index_2 _ _)
  (MeetsSeq.list_index l its.toArray n (.str k t) (isStrOf k) (fun y hy => eq_isStrOf k t sa y (by simpa using hy)) (ws.idxOf k) (by simpa [ll] using hj) (by omega) ?_ ?_) ⟨e, ⟨.int (ws.idxOf k : Nat), H, I.tok _, ⟨_, rfl⟩, q⟩⟩
 ·show isStrOf k its[ws.idxOf k] = true
  rw [strs_at k sa _ (by omega) hj]
  simpa using List.getElem_idxOf hj
 ·intro j hjs hlt
  show isStrOf k its[j] = false
  rw [strs_at k sa j (by simpa using hjs) (by omega)]
  exact ne_before _ hlt
end L2

namespace L2
open PySem PySem.Spec PyProof.Rows
section
variable {prog : Program} {w : World} {A : Around} {E : Value → Shared → Prop}
end
section
variable {X : Cx} {K : PySem.W.Frag} {pos : Pos}
end
end L2

namespace TM
open PySem PyProof.Rows
section
variable {prog : Program} {w : World} {A : Around} {E : Value → Shared → Prop} {s : Shared} {O : KeyOrd} {key : Value → O.α} {κ : SortKind} {a₀ : Array Keyed}
noncomputable def AskS (prog : Program) (w : World) (A : Around) (s : Shared) (key : Value → O.α) (κ : SortKind) (a₀ : Array Keyed) : Prop :=
 ∀ x y : Keyed, x ∈ a₀.toList → y ∈ a₀.toList → ∀ (E : Value → Shared → Prop) (Q : Bool → Shared → Prop), Q (O.blt (key x.1) (key y.1)) s → wpAny (model prog w) A (keyLt' κ x.1 y.1) Q E s
structure SB (κ : SortKind) (a₀ : Array Keyed) (st : SortSt) : Prop where
 perm : (arrOf st).Perm a₀
 kind : kindOf st = κ
 failed : failedOf st = none
theorem SB.size {st : SortSt} (h : SB κ a₀ st) : (arrOf st).size = a₀.size := h.perm.size_eq
theorem SB.setArr {st : SortSt} (h : SB κ a₀ st) {xs : Array Keyed} (p : xs.Perm (arrOf st)) : SB κ a₀ (setArr st xs) := ⟨p.trans h.perm, h.kind, h.failed⟩
theorem SB.mem {st : SortSt} (h : SB κ a₀ st) {x : Keyed} (hx : x ∈ (arrOf st).toList) : x ∈ a₀.toList := (Array.perm_iff_toList_perm.mp h.perm).mem_iff.mp hx
noncomputable def ak (key : Value → O.α) (xs : Array Keyed) (i : Nat) : O.α := key (xs[i]?.getD (Value.none, Value.none)).1
theorem ak_some {xs : Array Keyed} {i : Nat} {x : Keyed} (e : xs[i]? = some x) : ak key xs i = key x.1 := by unfold ak; rw [e]; rfl
theorem ak_of {xs ys : Array Keyed} {i j : Nat} (h : xs[i]? = ys[j]?) : ak key xs i = ak key ys j := by unfold ak; rw [h]
theorem s_lt (K : AskS prog w A s key κ a₀) {st : SortSt} {x y : Keyed} {Q : Option Bool → SortSt → Prop} (hk : kindOf st = κ) (hx : x ∈ a₀.toList) (hy : y ∈ a₀.toList) (h : Q (some (O.blt (key x.1) (key y.1))) st) :
  wpS (model prog w) A E s (lt' x y) Q st := by
 rw [lt'_eq]
 refine wpS_bind (wpS_get ?_)
 rw [hk]
 refine wpS_bind (wpS_lift (wpAny_attempt (K x y hx hy _ _ ⟨rfl, ?_⟩)))
 exact wpS_pure h
theorem zB {st : SortSt} {arr : Array Keyed} {i : Nat} {x : Keyed} {Q : Keyed → SortSt → Prop} (e : arr[i]? = some x) (h : Q x st) : wpS (model prog w) A E s (elem' arr i) Q st := by
 rw [elem'_eq, e]; exact wpS_pure h
theorem s_ltAt (K : AskS prog w A s key κ a₀) {st : SortSt} {i j : Nat} {Q : Option Bool → SortSt → Prop} (hB : SB κ a₀ st) (hi : i < a₀.size) (hj : j < a₀.size) (h : Q (some (O.blt (ak key (arrOf st) i) (ak key (arrOf st) j))) st) :
  wpS (model prog w) A E s (ltAt' i j) Q st := by
 have hi' : i < (arrOf st).size := by rw [hB.size]; exact hi
 have hj' : j < (arrOf st).size := by rw [hB.size]; exact hj
 have ei : (arrOf st)[i]? = some (arrOf st)[i] := getElem?_pos _ i hi'
 have ej : (arrOf st)[j]? = some (arrOf st)[j] := getElem?_pos _ j hj'
 rw [ak_some ei, ak_some ej] at h
 rw [ltAt'_eq]
 refine wpS_bind (wpS_get ?_)
 refine wpS_bind (zB ei (wpS_bind (zB ej ?_)))
 exact s_lt K hB.kind (hB.mem (Array.getElem_mem_toList hi')) (hB.mem (Array.getElem_mem_toList hj')) h
noncomputable def Up (key : Value → O.α) (xs : Array Keyed) (lo k : Nat) : Prop := ∀ i j, i ≤ j → j < k → O.kle (ak key xs (lo + i)) (ak key xs (lo + j))
noncomputable def Dw (key : Value → O.α) (xs : Array Keyed) (lo k : Nat) : Prop := ∀ i j, i ≤ j → j < k → O.kle (ak key xs (lo + j)) (ak key xs (lo + i))
theorem Up.one {xs : Array Keyed} {lo : Nat} : Up key xs lo 1 := fun i j a b => by
 have : i = j := by omega
 subst this; exact KeyOrd.kle_refl _
theorem Up.step {xs : Array Keyed} {lo a : Nat} (u : Up key xs lo a) (h1 : 1 ≤ a) (l : O.kle (ak key xs (lo + a - 1)) (ak key xs (lo + a))) : Up key xs lo (a + 1) := fun i j hij hj => by
 by_cases e : j < a
 ·exact u i j hij e
 ·have : j = a := by omega
  subst this
  by_cases e2 : i = j
  ·subst e2; exact KeyOrd.kle_refl _
  ·refine KeyOrd.kle_trans (u i (j - 1) (by omega) (by omega)) ?_
   rw [show lo + (j - 1) = lo + j - 1 by omega]; exact l
theorem Dw.step {xs : Array Keyed} {lo a : Nat} (u : Dw key xs lo a) (h1 : 1 ≤ a) (l : O.kle (ak key xs (lo + a)) (ak key xs (lo + a - 1))) : Dw key xs lo (a + 1) := fun i j hij hj => by
 by_cases e : j < a
 ·exact u i j hij e
 ·have : j = a := by omega
  subst this
  by_cases e2 : i = j
  ·subst e2; exact KeyOrd.kle_refl _
  ·refine KeyOrd.kle_trans ?_ (u i (j - 1) (by omega) (by omega))
   rw [show lo + (j - 1) = lo + j - 1 by omega]; exact l
theorem ak_rev {xs : Array Keyed} {i j : Nat} (hj : j ≤ xs.size) (k : Nat) : ak key (mirror xs i j ((j - i) / 2)) k = if i ≤ k ∧ k < j then ak key xs (i + j - 1 - k) else ak key xs k := by
 have e := getElem?_mirror_all (i := i) hj k
 by_cases h1 : i ≤ k ∧ k < j
 ·rw [if_pos h1] at e ⊢; exact ak_of e
 ·rw [if_neg h1] at e ⊢; exact ak_of e
theorem wX {xs : Array Keyed} {i j : Nat} (hj : j ≤ xs.size) (he : ∀ k, i ≤ k → k < j → ak key xs k = ak key xs (j - 1)) (k : Nat) : ak key (mirror xs i j ((j - i) / 2)) k = ak key xs k := by
 rw [ak_rev hj]
 split
 ·rw [he _ (by omega) (by omega), he k (by omega) (by omega)]
 ·rfl
theorem ak_bub {xs : Array Keyed} {m d : Nat} (hs : m < xs.size) (hd : d ≤ m) (k : Nat) : ak key (bubble xs m d) k = if k = m - d then ak key xs m else if m - d < k ∧ k ≤ m then ak key xs (k - 1) else ak key xs k := by
 have e := getElem?_bubble hs d hd k
 by_cases h1 : k = m - d
 ·rw [if_pos h1] at e ⊢; exact ak_of e
 ·rw [if_neg h1] at e ⊢
  by_cases h2 : m - d < k ∧ k ≤ m
  ·rw [if_pos h2] at e ⊢; exact ak_of e
  ·rw [if_neg h2] at e ⊢; exact ak_of e
structure Nx (κ : SortKind) (a₀ : Array Keyed) (lo : Nat) (st st' : SortSt) : Prop where
 sb : SB κ a₀ st'
 keep : ∀ i, i < lo → (arrOf st')[i]? = (arrOf st)[i]?
 pend : pendingOf st' = pendingOf st
theorem Nx.refl {lo : Nat} {st : SortSt} (h : SB κ a₀ st) : Nx κ a₀ lo st st := ⟨h, fun _ _ => rfl, rfl⟩
theorem Nx.rev {lo i j : Nat} {st st' : SortSt} (h : Nx κ a₀ lo st st') (hi : lo ≤ i) (hj : j ≤ a₀.size) : Nx κ a₀ lo st (setArr st' (mirror (arrOf st') i j ((j - i) / 2))) :=
 ⟨h.sb.setArr (mirror_perm _ _ _ _), fun k hk => by
  refine (getElem?_mirror_all (i := i) (by rw [h.sb.size]; exact hj) k).trans ?_
  rw [if_neg (by omega)]; exact h.keep k hk, h.pend⟩
theorem Nx.bub {lo m d : Nat} {st st' : SortSt} (h : Nx κ a₀ lo st st') (hm : m < a₀.size) (hd : lo + d ≤ m) : Nx κ a₀ lo st (setArr st' (bubble (arrOf st') m d)) :=
 ⟨h.sb.setArr (bubble_perm _ _ _), fun k hk => by
  refine (getElem?_bubble (by rw [h.sb.size]; exact hm) d (by omega) k).trans ?_
  rw [if_neg (by omega), if_neg (by omega)]; exact h.keep k hk, h.pend⟩

noncomputable def upL (lo a m : Nat) : StateT SortSt Sem AscSt :=
 forIn [a:m] ((none, a) : AscSt) fun _ z => do
  let c ← ltAt' (lo + z.2) (lo + z.2 - 1)
  match c with
  | some c => if c = true then pure (ForInStep.done (none, z.2)) else pure (ForInStep.yield (none, z.2 + 1))
  | _ => pure (ForInStep.done (some none, z.2))
noncomputable def finL (lo n m : Nat) : StateT SortSt Sem (Option Nat) := do
 reverseSlice' lo (lo + n)
 let z ← upL lo n m
 match z.1 with
 | some r => pure r
 | none => pure (some z.2)
noncomputable def dnL (lo n m : Nat) : StateT SortSt Sem DescSt :=
 forIn [n:m] ((none, n, 0) : DescSt) fun _ z => do
  let c ← ltAt' (lo + z.2.1) (lo + z.2.1 - 1)
  match c with
  | some c =>
   if c = true then
    if z.2.2 > 0 then do
     reverseSlice' (lo + z.2.1 - (z.2.2 + 1)) (lo + z.2.1)
     pure (ForInStep.yield (none, z.2.1 + 1, 0))
    else pure (ForInStep.yield (none, z.2.1 + 1, 0))
   else do
    let d ← ltAt' (lo + z.2.1 - 1) (lo + z.2.1)
    match d with
    | some d => if d = true then pure (ForInStep.done (none, z.2.1, z.2.2)) else pure (ForInStep.yield (none, z.2.1 + 1, z.2.2 + 1))
    | _ => pure (ForInStep.done (some none, z.2.1, z.2.2))
  | _ => pure (ForInStep.done (some none, z.2.1, z.2.2))
noncomputable def dnP (lo n m : Nat) : StateT SortSt Sem (Option Nat) := do
 liftM (rule "list.sort.descending-run")
 let z ← dnL lo (n + 1) m
 match z.1 with
 | some r => pure r
 | none =>
  if z.2.2 > 0 then do
   reverseSlice' (lo + z.2.1 - (z.2.2 + 1)) (lo + z.2.1)
   finL lo z.2.1 m
  else finL lo z.2.1 m
noncomputable def cntL (lo m : Nat) : StateT SortSt Sem (Option Nat) := do
 let z ← upL lo 1 m
 match z.1 with
 | some r => pure r
 | none =>
  if (z.2 == m) = true then pure (some z.2)
  else if z.2 > 1 then do
   let c ← ltAt' lo (lo + z.2 - 1)
   match c with
   | some c => if c = true then pure (some z.2) else do
     reverseSlice' lo (lo + z.2)
     dnP lo z.2 m
   | _ => pure none
  else dnP lo z.2 m
theorem cnt_eq (lo m : Nat) : countRun' lo m = cntL lo m := by
 have T : ∀ (n : Nat) (f : AscSt → StateT SortSt Sem (Option Nat)), (∀ z, f z = match z.1 with | some r => pure r | none => pure (some z.2)) → (do reverseSlice' lo (lo + n); let z ← upL lo n m; f z) = finL lo n m := fun n f hf => by
  unfold finL
  rw [funext hf]
 rw [countRun'_eq]
 unfold cntL dnP dnL
 refine congrArg (bind (upL lo 1 m)) (funext fun z => ?_)
 obtain ⟨r, n⟩ := z
 cases r with
 | some r => rfl
 | none =>
  dsimp only
  split
  ·rfl
  ·split
   ·congr 1
    funext c
    cases c with
    | none => rfl
    | some c =>
     dsimp only
     split
     ·rfl
     ·congr 1
      funext _
      congr 1
      funext _
      congr 1
      funext q
      obtain ⟨r2, n2, q2⟩ := q
      cases r2 with
      | some r2 => rfl
      | none =>
       dsimp only
       split
       ·congr 1; funext _; exact T n2 _ fun z => by obtain ⟨r3, n3⟩ := z; cases r3 <;> rfl
       ·exact T n2 _ fun z => by obtain ⟨r3, n3⟩ := z; cases r3 <;> rfl
   ·congr 1
    funext _
    congr 1
    funext q
    obtain ⟨r2, n2, q2⟩ := q
    cases r2 with
    | some r2 => rfl
    | none =>
     dsimp only
     split
     ·congr 1; funext _; exact T n2 _ fun z => by obtain ⟨r3, n3⟩ := z; cases r3 <;> rfl
     ·exact T n2 _ fun z => by obtain ⟨r3, n3⟩ := z; cases r3 <;> rfl
theorem s_rev {st : SortSt} {i j : Nat} {Q : Unit → SortSt → Prop} (h : Q () (setArr st (mirror (arrOf st) i j ((j - i) / 2)))) : wpS (model prog w) A E s (reverseSlice' i j) Q st := by
 rw [reverseSlice'_eq]; exact wpS_modify h
theorem s_up (K : AskS prog w A s key κ a₀) {st : SortSt} {lo a m : Nat} {Q : AscSt → SortSt → Prop} (hm : lo + m ≤ a₀.size) (h1 : 1 ≤ a) (ha : a ≤ m) (hB : SB κ a₀ st) (u : Up key (arrOf st) lo a)
  (h : ∀ n, a ≤ n → n ≤ m → Up key (arrOf st) lo n → (n = m ∨ O.klt (ak key (arrOf st) (lo + n)) (ak key (arrOf st) (lo + n - 1))) → Q (none, n) st) : wpS (model prog w) A E s (upL lo a m) Q st := by
 unfold upL
 refine wpS_forRange (I := fun x c st' => st' = st ∧ c = (none, x) ∧ Up key (arrOf st) lo x) ?step ?fin ⟨rfl, rfl, u⟩
 case fin =>
  rintro c st' ⟨rfl, rfl, u'⟩
  rw [show max a m = m by omega] at u' ⊢
  exact h m ha (Nat.le_refl _) u' (.inl rfl)
 case step =>
  rintro x c st' ax xm ⟨rfl, rfl, u'⟩
  dsimp only
  refine wpS_bind (s_ltAt K hB (by omega) (by omega) ?_)
  cases c : O.blt (ak key (arrOf st') (lo + x)) (ak key (arrOf st') (lo + x - 1)) with
  | true =>
   simp only [if_true]
   exact wpS_pure (h x ax (by omega) u' (.inr c))
  | false =>
   simp only [Bool.false_eq_true, if_false]
   exact wpS_pure ⟨rfl, rfl, u'.step (by omega) c⟩
theorem s_fin (K : AskS prog w A s key κ a₀) {st st0 : SortSt} {lo n m : Nat} {Q : Option Nat → SortSt → Prop} (hm : lo + m ≤ a₀.size) (h1 : 1 ≤ n) (hn : n ≤ m) (hB : Nx κ a₀ lo st0 st) (d : Dw key (arrOf st) lo n)
  (h : ∀ k st', Nx κ a₀ lo st0 st' → 1 ≤ k → k ≤ m → Up key (arrOf st') lo k → Q (some k) st') : wpS (model prog w) A E s (finL lo n m) Q st := by
 unfold finL
 refine wpS_bind (s_rev ?_)
 have hB' := hB.rev (Nat.le_refl lo) (show lo + n ≤ a₀.size by omega)
 have z : lo + n ≤ (arrOf st).size := by rw [hB.sb.size]; omega
 refine wpS_bind (s_up K hm h1 hn hB'.sb ?_ fun k a1 a2 a3 _ => wpS_pure (h k _ hB' (by omega) a2 a3))
 intro i j hij hj
 show O.kle (ak key (mirror (arrOf st) lo (lo + n) ((lo + n - lo) / 2)) (lo + i)) (ak key (mirror (arrOf st) lo (lo + n) ((lo + n - lo) / 2)) (lo + j))
 rw [ak_rev z, ak_rev z, if_pos (by omega), if_pos (by omega)]
 have := d (n - 1 - j) (n - 1 - i) (by omega) (by omega)
 rw [show lo + (lo + n) - 1 - (lo + i) = lo + (n - 1 - i) by omega, show lo + (lo + n) - 1 - (lo + j) = lo + (n - 1 - j) by omega]
 exact this
theorem s_dn (K : AskS prog w A s key κ a₀) {st st0 : SortSt} {lo n m : Nat} {Q : DescSt → SortSt → Prop} (hm : lo + m ≤ a₀.size) (h1 : 1 ≤ n) (hn : n ≤ m) (hB : Nx κ a₀ lo st0 st) (d : Dw key (arrOf st) lo n)
  (h : ∀ k q st', Nx κ a₀ lo st0 st' → n ≤ k → k ≤ m → Dw key (arrOf st') lo k → q + 1 ≤ k → (∀ i, lo + k - (q + 1) ≤ i → i < lo + k → ak key (arrOf st') i = ak key (arrOf st') (lo + k - 1)) → Q (none, k, q) st') : wpS (model prog w) A E s (dnL lo n m) Q st := by
 unfold dnL
 refine wpS_forRange (I := fun x c st' => ∃ q, c = (none, x, q) ∧ Nx κ a₀ lo st0 st' ∧ Dw key (arrOf st') lo x ∧ q + 1 ≤ x ∧ (∀ i, lo + x - (q + 1) ≤ i → i < lo + x → ak key (arrOf st') i = ak key (arrOf st') (lo + x - 1)))
  ?step ?fin ⟨0, rfl, hB, d, by omega, fun i x y => by congr 1; omega⟩
 case fin =>
  rintro c st' ⟨q, rfl, hB', d', hq, he⟩
  rw [show max n m = m by omega] at d' hq he ⊢
  exact h m q st' hB' hn (Nat.le_refl _) d' hq he
 case step =>
  rintro x c st' ax xm ⟨q, rfl, hB', d', hq, he⟩
  dsimp only
  have z : lo + x ≤ (arrOf st').size := by rw [hB'.sb.size]; omega
  refine wpS_bind (s_ltAt K hB'.sb (by omega) (by omega) ?_)
  cases c : O.blt (ak key (arrOf st') (lo + x)) (ak key (arrOf st') (lo + x - 1)) with
  | true =>
   simp only [if_true]
   have d1 : ∀ xs : Array Keyed, (∀ k, ak key xs k = ak key (arrOf st') k) → Dw key xs lo (x + 1) := fun xs e => by
    refine Dw.step (fun i j y z => by rw [e, e]; exact d' i j y z) (by omega) ?_
    rw [e, e]; exact KeyOrd.kle_of_klt c
   by_cases q0 : q > 0
   ·rw [if_pos q0]
    exact wpS_bind (s_rev (wpS_pure ⟨0, rfl, hB'.rev (by omega) (by omega), d1 _ (wX z he), by omega, fun i y z => by congr 1; omega⟩))
   ·rw [if_neg q0]
    exact wpS_pure ⟨0, rfl, hB', d1 _ (fun _ => rfl), by omega, fun i y z => by congr 1; omega⟩
  | false =>
   simp only [Bool.false_eq_true, if_false]
   refine wpS_bind (s_ltAt K hB'.sb (by omega) (by omega) ?_)
   cases c2 : O.blt (ak key (arrOf st') (lo + x - 1)) (ak key (arrOf st') (lo + x)) with
   | true =>
    simp only [if_true]
    exact wpS_pure (h x q st' hB' ax (by omega) d' hq he)
   | false =>
    simp only [Bool.false_eq_true, if_false]
    have e : ak key (arrOf st') (lo + x) = ak key (arrOf st') (lo + x - 1) := KeyOrd.kle_antisymm c2 c
    refine wpS_pure ⟨q + 1, rfl, hB', d'.step (by omega) c2, by omega, fun i y z => ?_⟩
    rw [show lo + (x + 1) - 1 = lo + x by omega]
    by_cases ix : i = lo + x
    ·subst ix; rfl
    ·rw [e]; exact he i (by omega) (by omega)
theorem s_dnP (K : AskS prog w A s key κ a₀) {st st0 : SortSt} {lo n m : Nat} {Q : Option Nat → SortSt → Prop} (hm : lo + m ≤ a₀.size) (hn : n + 1 ≤ m) (hB : Nx κ a₀ lo st0 st) (d : Dw key (arrOf st) lo (n + 1))
  (h : ∀ k st', Nx κ a₀ lo st0 st' → 1 ≤ k → k ≤ m → Up key (arrOf st') lo k → Q (some k) st') : wpS (model prog w) A E s (dnP lo n m) Q st := by
 unfold dnP
 refine wpS_bind (wpS_lift (wpAny_rule ⟨rfl, ?_⟩))
 refine wpS_bind (s_dn K hm (by omega) hn hB d fun k q st' hB' a1 a2 d' hq he => ?_)
 dsimp only
 have z : lo + k ≤ (arrOf st').size := by rw [hB'.sb.size]; omega
 by_cases q0 : q > 0
 ·rw [if_pos q0]
  refine wpS_bind (s_rev (s_fin K hm (by omega) a2 (hB'.rev (by omega) (by omega)) (fun i j x y => ?_) h))
  show O.kle (ak key (mirror (arrOf st') _ _ _) _) (ak key (mirror (arrOf st') _ _ _) _)
  rw [wX z he, wX z he]
  exact d' i j x y
 ·rw [if_neg q0]
  exact s_fin K hm (by omega) a2 hB' d' h
theorem s_count (K : AskS prog w A s key κ a₀) {st : SortSt} {lo m : Nat} {Q : Option Nat → SortSt → Prop} (hm : lo + m ≤ a₀.size) (h1 : 1 ≤ m) (hB : SB κ a₀ st)
  (h : ∀ k st', Nx κ a₀ lo st st' → 1 ≤ k → k ≤ m → Up key (arrOf st') lo k → Q (some k) st') : wpS (model prog w) A E s (countRun' lo m) Q st := by
 rw [cnt_eq]
 unfold cntL
 refine wpS_bind (s_up K hm (Nat.le_refl 1) h1 hB Up.one fun n a1 a2 u or => ?_)
 dsimp only
 by_cases e : n = m
 ·rw [if_pos (by simpa using e)]
  exact wpS_pure (h n st (Nx.refl hB) a1 a2 u)
 rw [if_neg (by simpa using e)]
 have lt := or.resolve_left e
 have z : lo + n ≤ (arrOf st).size := by rw [hB.size]; omega
 by_cases n1 : n > 1
 ·rw [if_pos n1]
  refine wpS_bind (s_ltAt K hB (by omega) (by omega) ?_)
  cases c : O.blt (ak key (arrOf st) lo) (ak key (arrOf st) (lo + n - 1)) with
  | true =>
   simp only [if_true]
   exact wpS_pure (h n st (Nx.refl hB) a1 a2 u)
  | false =>
   simp only [Bool.false_eq_true, if_false]
   have all : ∀ k, lo ≤ k → k < lo + n → ak key (arrOf st) k = ak key (arrOf st) (lo + n - 1) := fun k x y => by
    have u1 := u (k - lo) (n - 1) (by omega) (by omega)
    have u2 := u 0 (k - lo) (by omega) (by omega)
    rw [show lo + (k - lo) = k by omega] at u1 u2
    rw [show lo + (n - 1) = lo + n - 1 by omega] at u1
    exact KeyOrd.kle_antisymm u1 (KeyOrd.kle_trans c u2)
   refine wpS_bind (s_rev (s_dnP K hm (by omega) ((Nx.refl hB).rev (Nat.le_refl lo) (by omega)) (fun i j x y => ?_) h))
   show O.kle (ak key (mirror (arrOf st) _ _ _) _) (ak key (mirror (arrOf st) _ _ _) _)
   rw [wX z all, wX z all]
   by_cases ja : j < n
   ·rw [all (lo + i) (by omega) (by omega), all (lo + j) (by omega) (by omega)]; exact KeyOrd.kle_refl _
   ·have : j = n := by omega
    subst this
    by_cases ij : i = j
    ·subst ij; exact KeyOrd.kle_refl _
    ·rw [all (lo + i) (by omega) (by omega)]; exact KeyOrd.kle_of_klt lt
 ·rw [if_neg n1]
  have : n = 1 := by omega
  subst this
  refine s_dnP K hm (by omega) (Nx.refl hB) (fun i j x y => ?_) h
  by_cases ij : i = j
  ·subst ij; exact KeyOrd.kle_refl _
  ·have e1 : i = 0 := by omega
   have e2 : j = 1 := by omega
   subst e1 e2
   exact KeyOrd.kle_of_klt lt
theorem s_bin (K : AskS prog w A s key κ a₀) {st : SortSt} {lo n ok : Nat} {Q : Bool → SortSt → Prop} (hn : lo + n ≤ a₀.size) (hok : ok ≤ n) (hB : SB κ a₀ st) (u : Up key (arrOf st) lo ok)
  (h : ∀ st', Nx κ a₀ lo st st' → Up key (arrOf st') lo n → Q true st') : wpS (model prog w) A E s (binarySort' lo n ok) Q st := by
 rw [binarySort'_eq]
 refine wpS_bind (wpS_mono (wpS_forRange (I := fun k c st' => c = (none, ()) ∧ Nx κ a₀ lo st st' ∧ Up key (arrOf st') lo (min k n))
  (Q := fun c st' => c = (none, ()) ∧ Nx κ a₀ lo st st' ∧ Up key (arrOf st') lo n) ?step ?fin ?init) ?post)
 case post =>
  rintro c st' ⟨rfl, hB', u'⟩
  exact wpS_pure (h st' hB' u')
 case init =>
  refine ⟨rfl, Nx.refl hB, fun i j hij hj => ?_⟩
  by_cases h1 : ok = 0
  ·have : i = j := by omega
   subst this; exact KeyOrd.kle_refl _
  ·exact u i j hij (by omega)
 case fin =>
  rintro c st' ⟨hc, hB', u'⟩
  refine ⟨hc, hB', ?_⟩
  rwa [show min (max (max ok 1) n) n = n by omega] at u'
 case step =>
  rintro k c st' ak' kn ⟨rfl, hB', u'⟩
  rw [show min k n = k by omega] at u'
  refine wpS_bind (wpS_mono (wpS_forRange (I := fun x c st'' => st'' = st' ∧ ∃ l r, c = (none, l, r) ∧ l ≤ r ∧ r ≤ k ∧ r - l ≤ k - x ∧
    (∀ i, i < l → O.kle (ak key (arrOf st') (lo + i)) (ak key (arrOf st') (lo + k))) ∧ (∀ i, r ≤ i → i < k → O.klt (ak key (arrOf st') (lo + k)) (ak key (arrOf st') (lo + i))))
   (Q := fun c st'' => st'' = st' ∧ ∃ l r, c = (none, l, r) ∧ l ≤ k ∧
    (∀ i, i < l → O.kle (ak key (arrOf st') (lo + i)) (ak key (arrOf st') (lo + k))) ∧ (∀ i, l ≤ i → i < k → O.klt (ak key (arrOf st') (lo + k)) (ak key (arrOf st') (lo + i)))) ?istep ?ifin ?iinit) ?ipost)
  case iinit => exact ⟨rfl, 0, k, rfl, by omega, by omega, by omega, fun i hi => by omega, fun i h1 h2 => by omega⟩
  case ifin =>
   rintro c st'' ⟨rfl, l, r, rfl, lr, rk, hm, lo', hi'⟩
   have : l = r := by omega
   subst this
   exact ⟨rfl, l, l, rfl, rk, lo', hi'⟩
  case istep =>
   rintro x c st'' _ xk ⟨rfl, l, r, rfl, lr, rk, hm, lo', hi'⟩
   dsimp only
   by_cases ge : l ≥ r
   ·rw [if_pos ge]
    have : l = r := by omega
    subst this
    exact wpS_pure ⟨rfl, l, l, rfl, rk, lo', hi'⟩
   ·rw [if_neg ge]
    refine wpS_bind (s_ltAt K hB'.sb (by omega) (by omega) ?_)
    cases c : O.blt (ak key (arrOf st'') (lo + k)) (ak key (arrOf st'') (lo + (l + r) / 2)) with
    | true =>
     simp only [if_true]
     refine wpS_pure ⟨rfl, l, (l + r) / 2, rfl, by omega, by omega, by omega, lo', fun i h1 h2 => ?_⟩
     exact KeyOrd.klt_of_klt_of_kle c (u' _ _ h1 h2)
    | false =>
     simp only [Bool.false_eq_true, if_false]
     refine wpS_pure ⟨rfl, (l + r) / 2 + 1, r, rfl, by omega, by omega, by omega, fun i h1 => ?_, hi'⟩
     exact KeyOrd.kle_trans (u' i ((l + r) / 2) (by omega) (by omega)) c
  case ipost =>
   rintro c st'' ⟨rfl, l, r, rfl, lk, lo', hi'⟩
   show wpS _ _ _ _ (do moveDown' (lo + k) (lo + l); pure (ForInStep.yield (none, ()))) _ _
   rw [moveDown'_eq]
   have z : lo + k < (arrOf st'').size := by rw [hB'.sb.size]; omega
   refine wpS_bind (wpS_modify (wpS_pure ⟨rfl, hB'.bub (by omega) (by omega), ?_⟩))
   rw [show min (k + 1) n = k + 1 by omega]
   intro i j hij hj
   show O.kle (ak key (bubble (arrOf st'') (lo + k) (lo + k - (lo + l))) (lo + i)) (ak key (bubble (arrOf st'') (lo + k) (lo + k - (lo + l))) (lo + j))
   rw [ak_bub z (by omega), ak_bub z (by omega), show lo + k - (lo + k - (lo + l)) = lo + l by omega]
   have m1 : ∀ i, lo + i - 1 = lo + (i - 1) ∨ i = 0 := fun i => by omega
   repeat' split
   all_goals first
    | (exfalso; omega)
    | exact KeyOrd.kle_refl _
    | exact lo' _ (by omega)
    | exact KeyOrd.kle_of_klt (hi' _ (by omega) (by omega))
    | exact u' _ _ (by omega) (by omega)
    | (rw [show lo + j - 1 = lo + (j - 1) by omega]; first | exact KeyOrd.kle_of_klt (hi' _ (by omega) (by omega)) | exact u' _ _ (by omega) (by omega) | (rw [show lo + i - 1 = lo + (i - 1) by omega]; exact u' _ _ (by omega) (by omega)))
    | (rw [show lo + i - 1 = lo + (i - 1) by omega]; exact u' _ _ (by omega) (by omega))
end
end TM

namespace TM
open PySem PyProof.Rows
noncomputable def gal' : Bool → Keyed → Array Keyed → Nat → Nat → Nat → StateT SortSt Sem (Option Nat) := sortPriv% PySem.Builtin.gallop
noncomputable def mlo' : Array Keyed → Array Keyed → StateT SortSt Sem (Array Keyed) := sortPriv% PySem.Builtin.mergeLo
noncomputable def mhi' : Array Keyed → Array Keyed → StateT SortSt Sem (Array Keyed) := sortPriv% PySem.Builtin.mergeHi
noncomputable def bey (left : Bool) (x : Keyed) (arr : Array Keyed) (b0 i : Nat) : StateT SortSt Sem (Option Bool) := do
 let y ← elem' arr (b0 + i)
 if left then lt' y x else return (← lt' x y).map (!·)
noncomputable def halve (left : Bool) (x : Keyed) (arr : Array Keyed) (b0 n lo hi : Nat) : StateT SortSt Sem (Option Nat) := do
 let mut l := lo
 let mut h := hi
 for _ in [0:n] do
  if l ≥ h then break
  let m := l + (h - l) / 2
  let some c ← bey left x arr b0 m | return none
  if c then l := m + 1 else h := m
 return some h
theorem gal_eq (left : Bool) (x : Keyed) (arr : Array Keyed) (b0 n at0 : Nat) : gal' left x arr b0 n at0 = (do
  let some r ← bey left x arr b0 at0 | return none
  if r then
   let mut la := 0
   let mut of := 1
   for _ in [0:n] do
    if of ≥ n - at0 then break
    let some c ← bey left x arr b0 (at0 + of) | return none
    if !c then break
    la := of
    of := 2 * of + 1
   halve left x arr b0 n (at0 + la + 1) (at0 + min of (n - at0))
  else
   let mut la := 0
   let mut of := 1
   for _ in [0:n] do
    if of ≥ at0 + 1 then break
    let some c ← bey left x arr b0 (at0 - of) | return none
    if c then break
    la := of
    of := 2 * of + 1
   halve left x arr b0 n (at0 + 1 - min of (at0 + 1)) (at0 - la)) := by
 unfold halve
 refine congrArg (bind (bey left x arr b0 at0)) (funext fun r => ?_)
 cases r with
 | none => rfl
 | some r =>
  dsimp only
  cases r with
  | true =>
   simp only [if_true]
   refine congrArg (bind _) (funext fun z => ?_)
   obtain ⟨q, la, of⟩ := z
   cases q with
   | some q => rfl
   | none => rfl
  | false =>
   simp only [Bool.false_eq_true, if_false]
   refine congrArg (bind _) (funext fun z => ?_)
   obtain ⟨q, la, of⟩ := z
   cases q with
   | some q => rfl
   | none => rfl
section
variable {prog : Program} {w : World} {A : Around} {E : Value → Shared → Prop} {s : Shared} {O : KeyOrd} {key : Value → O.α} {κ : SortKind} {a₀ : Array Keyed}
noncomputable def By (prog : Program) (w : World) (A : Around) (E : Value → Shared → Prop) (s : Shared) (left : Bool) (x : Keyed) (arr : Array Keyed) (b0 n : Nat) (P : Nat → Bool) (st : SortSt) : Prop :=
 ∀ i, i < n → ∀ Q : Option Bool → SortSt → Prop, Q (some (P i)) st → wpS (model prog w) A E s (bey left x arr b0 i) Q st
theorem s_halve {left : Bool} {x : Keyed} {arr : Array Keyed} {b0 n lo hi : Nat} {P : Nat → Bool} {st : SortSt} {Q : Option Nat → SortSt → Prop} (hb : By prog w A E s left x arr b0 n P st) (mono : ∀ i j, i ≤ j → j < n → P j = true → P i = true)
  (h1 : lo ≤ hi) (h2 : hi ≤ n) (t : ∀ i, i < lo → P i = true) (f : ∀ i, hi ≤ i → i < n → P i = false)
  (h : ∀ k, k ≤ n → (∀ i, i < k → P i = true) → (∀ i, k ≤ i → i < n → P i = false) → Q (some k) st) : wpS (model prog w) A E s (halve left x arr b0 n lo hi) Q st := by
 unfold halve
 refine wpS_bind (wpS_mono (wpS_forRange (I := fun y c st' => st' = st ∧ ∃ l u, c = (none, l, u) ∧ l ≤ u ∧ u ≤ n ∧ u - l ≤ n - y ∧ (∀ i, i < l → P i = true) ∧ (∀ i, u ≤ i → i < n → P i = false))
  (Q := fun c st' => st' = st ∧ ∃ l u, c = (none, l, u) ∧ u ≤ n ∧ (∀ i, i < u → P i = true) ∧ (∀ i, u ≤ i → i < n → P i = false)) ?step ?fin ⟨rfl, lo, hi, rfl, h1, h2, by omega, t, f⟩) ?post)
 case post =>
  rintro c st' ⟨rfl, l, u, rfl, a1, a2, a3⟩
  exact wpS_pure (h u a1 a2 a3)
 case fin =>
  rintro c st' ⟨rfl, l, u, rfl, a1, a2, a3, a4, a5⟩
  have : l = u := by omega
  subst this
  exact ⟨rfl, l, l, rfl, a2, a4, a5⟩
 case step =>
  rintro y c st' _ yn ⟨rfl, l, u, rfl, a1, a2, a3, a4, a5⟩
  dsimp only
  by_cases ge : l ≥ u
  ·rw [if_pos ge]
   have : l = u := by omega
   subst this
   exact wpS_pure ⟨rfl, l, l, rfl, a2, a4, a5⟩
  ·rw [if_neg ge]
   refine wpS_bind (hb _ (by omega) _ ?_)
   dsimp only
   cases c : P (l + (u - l) / 2) with
   | true =>
    simp only [if_true]
    exact wpS_pure ⟨rfl, _, u, rfl, by omega, a2, by omega, fun i hi => mono i _ (by omega) (by omega) c, a5⟩
   | false =>
    simp only [Bool.false_eq_true, if_false]
    refine wpS_pure ⟨rfl, l, _, rfl, by omega, by omega, by omega, a4, fun i x y => ?_⟩
    cases e : P i with
    | false => rfl
    | true =>
     have := mono _ i x y e
     rw [c] at this; cases this
theorem s_gal {left : Bool} {x : Keyed} {arr : Array Keyed} {b0 n at0 : Nat} {P : Nat → Bool} {st : SortSt} {Q : Option Nat → SortSt → Prop} (hb : By prog w A E s left x arr b0 n P st) (mono : ∀ i j, i ≤ j → j < n → P j = true → P i = true) (ha : at0 < n)
  (h : ∀ k, k ≤ n → (∀ i, i < k → P i = true) → (∀ i, k ≤ i → i < n → P i = false) → Q (some k) st) : wpS (model prog w) A E s (gal' left x arr b0 n at0) Q st := by
 have no : ∀ i j, i ≤ j → j < n → P i = false → P j = false := fun i j x y e => by
  cases c : P j with
  | false => rfl
  | true => rw [mono i j x y c] at e; cases e
 rw [gal_eq]
 refine wpS_bind (hb _ ha _ ?_)
 dsimp only
 cases c : P at0 with
 | true =>
  simp only [if_true]
  refine wpS_bind (wpS_mono (wpS_forRange (I := fun y c st' => st' = st ∧ ∃ la of, c = (none, la, of) ∧ la < of ∧ y + 1 ≤ of ∧ at0 + la < n ∧ P (at0 + la) = true)
   (Q := fun c st' => st' = st ∧ ∃ la of, c = (none, la, of) ∧ la < of ∧ at0 + la < n ∧ P (at0 + la) = true ∧ (n - at0 ≤ of ∨ P (at0 + of) = false)) ?step ?fin ⟨rfl, 0, 1, rfl, by omega, by omega, by omega, c⟩) ?post)
  case post =>
   rintro c st' ⟨rfl, la, of, rfl, a1, a2, a3, a4⟩
   dsimp only
   refine s_halve hb mono (by omega) (by omega) (fun i hi => mono i (at0 + la) (by omega) a2 a3) (fun i x y => ?_) h
   rcases a4 with a4 | a4
   ·omega
   ·by_cases z : of ≤ n - at0
    ·rw [Nat.min_eq_left z] at x; exact no _ i x y a4
    ·omega
  case fin =>
   rintro c st' ⟨rfl, la, of, rfl, a1, a2, a3, a4⟩
   exact ⟨rfl, la, of, rfl, a1, a3, a4, .inl (by omega)⟩
  case step =>
   rintro y c st' _ yn ⟨rfl, la, of, rfl, a1, a2, a3, a4⟩
   dsimp only
   by_cases ge : of ≥ n - at0
   ·rw [if_pos ge]
    exact wpS_pure ⟨rfl, la, of, rfl, a1, a3, a4, .inl ge⟩
   ·rw [if_neg ge]
    refine wpS_bind (hb _ (by omega) _ ?_)
    dsimp only
    cases c2 : P (at0 + of) with
    | false =>
     simp only [Bool.not_false, if_true]
     exact wpS_pure ⟨rfl, la, of, rfl, a1, a3, a4, .inr c2⟩
    | true =>
     simp only [Bool.not_true, Bool.false_eq_true, if_false]
     exact wpS_pure ⟨rfl, of, _, rfl, by omega, by omega, by omega, c2⟩
 | false =>
  simp only [Bool.false_eq_true, if_false]
  refine wpS_bind (wpS_mono (wpS_forRange (I := fun y c st' => st' = st ∧ ∃ la of, c = (none, la, of) ∧ la < of ∧ y + 1 ≤ of ∧ la ≤ at0 ∧ P (at0 - la) = false)
   (Q := fun c st' => st' = st ∧ ∃ la of, c = (none, la, of) ∧ la < of ∧ la ≤ at0 ∧ P (at0 - la) = false ∧ (at0 + 1 ≤ of ∨ P (at0 - of) = true)) ?step ?fin ⟨rfl, 0, 1, rfl, by omega, by omega, by omega, c⟩) ?post)
  case post =>
   rintro c st' ⟨rfl, la, of, rfl, a1, a2, a3, a4⟩
   dsimp only
   refine s_halve hb mono (by omega) (by omega) (fun i hi => ?_) (fun i x y => no (at0 - la) i x y a3) h
   rcases a4 with a4 | a4
   ·omega
   ·by_cases z : of ≤ at0 + 1
    ·rw [Nat.min_eq_left z] at hi; exact mono i (at0 - of) (by omega) (by omega) a4
    ·omega
  case fin =>
   rintro c st' ⟨rfl, la, of, rfl, a1, a2, a3, a4⟩
   exact ⟨rfl, la, of, rfl, a1, a3, a4, .inl (by omega)⟩
  case step =>
   rintro y c st' _ yn ⟨rfl, la, of, rfl, a1, a2, a3, a4⟩
   dsimp only
   by_cases ge : of ≥ at0 + 1
   ·rw [if_pos ge]
    exact wpS_pure ⟨rfl, la, of, rfl, a1, a3, a4, .inl ge⟩
   ·rw [if_neg ge]
    refine wpS_bind (hb _ (by omega) _ ?_)
    dsimp only
    cases c2 : P (at0 - of) with
    | true =>
     simp only [if_true]
     exact wpS_pure ⟨rfl, la, of, rfl, a1, a3, a4, .inr c2⟩
    | false =>
     simp only [Bool.false_eq_true, if_false]
     exact wpS_pure ⟨rfl, of, _, rfl, by omega, by omega, by omega, c2⟩
noncomputable def le (key : Value → O.α) (x y : Keyed) : Prop := O.kle (key x.1) (key y.1)
theorem le.trans {x y z : Keyed} (a : le key x y) (b : le key y z) : le key x z := KeyOrd.kle_trans a b
theorem le.refl {x : Keyed} : le key x x := KeyOrd.kle_refl _
theorem by_right (K : AskS prog w A s key κ a₀) {st : SortSt} {x : Keyed} {arr : Array Keyed} {b0 n : Nat} {l : List Keyed} (hk : kindOf st = κ) (hx : x ∈ a₀.toList) (hl : ∀ y ∈ l, y ∈ a₀.toList) (hn : l.length = n) (e : ∀ i, i < n → arr[b0 + i]? = l[i]?) :
  By prog w A E s false x arr b0 n (fun i => !O.blt (key x.1) (key (l[i]?.getD x).1)) st := fun i hi Q h => by
 have hi' : i < l.length := by omega
 have e1 : l[i]? = some l[i] := List.getElem?_eq_getElem hi'
 unfold bey
 refine wpS_bind (zB ((e i hi).trans e1) ?_)
 simp only [Bool.false_eq_true, if_false]
 refine wpS_bind (s_lt K hk hx (hl _ (List.getElem_mem hi')) ?_)
 dsimp only at h
 rw [e1] at h
 exact wpS_pure h
theorem by_left (K : AskS prog w A s key κ a₀) {st : SortSt} {x : Keyed} {arr : Array Keyed} {b0 n : Nat} {l : List Keyed} (hk : kindOf st = κ) (hx : x ∈ a₀.toList) (hl : ∀ y ∈ l, y ∈ a₀.toList) (hn : l.length = n) (e : ∀ i, i < n → arr[b0 + i]? = l[i]?) :
  By prog w A E s true x arr b0 n (fun i => O.blt (key (l[i]?.getD x).1) (key x.1)) st := fun i hi Q h => by
 have hi' : i < l.length := by omega
 have e1 : l[i]? = some l[i] := List.getElem?_eq_getElem hi'
 unfold bey
 refine wpS_bind (zB ((e i hi).trans e1) ?_)
 simp only [if_true]
 refine s_lt K hk (hl _ (List.getElem_mem hi')) hx ?_
 dsimp only at h
 rw [e1] at h
 exact h
theorem pw_get {l : List Keyed} (h : l.Pairwise (le key)) {i j : Nat} (hij : i ≤ j) (hj : j < l.length) : le key (l[i]'(by omega)) l[j] := by
 by_cases e : i = j
 ·subst e; exact le.refl
 ·exact List.pairwise_iff_getElem.mp h i j (by omega) hj (by omega)
theorem s_galR (K : AskS prog w A s key κ a₀) {st : SortSt} {x : Keyed} {arr : Array Keyed} {b0 n at0 : Nat} {l : List Keyed} {Q : Option Nat → SortSt → Prop} (hk : kindOf st = κ) (hx : x ∈ a₀.toList) (hl : ∀ y ∈ l, y ∈ a₀.toList) (hn : l.length = n)
  (e : ∀ i, i < n → arr[b0 + i]? = l[i]?) (so : l.Pairwise (le key)) (ha : at0 < n)
  (h : ∀ k, k ≤ n → (∀ y ∈ l.take k, le key y x) → (∀ y ∈ l.drop k, O.klt (key x.1) (key y.1)) → Q (some k) st) : wpS (model prog w) A E s (gal' false x arr b0 n at0) Q st := by
 have g : ∀ i (hi : i < l.length), (l[i]?.getD x) = l[i] := fun i hi => by rw [List.getElem?_eq_getElem hi]; rfl
 refine s_gal (by_right K hk hx hl hn e) (fun i j ij jn pj => ?_) ha fun k kn t f => h k kn (fun y hy => ?_) fun y hy => ?_
 ·rw [g j (by omega), Bool.not_eq_true'] at pj
  rw [g i (by omega), Bool.not_eq_true']
  exact KeyOrd.kle_trans (pw_get so ij (by omega)) pj
 ·obtain ⟨i, hi, rfl⟩ := List.getElem_of_mem hy
  rw [List.length_take] at hi
  have := t i (by omega)
  rw [g i (by omega), Bool.not_eq_true'] at this
  rw [List.getElem_take]; exact this
 ·obtain ⟨i, hi, rfl⟩ := List.getElem_of_mem hy
  rw [List.length_drop] at hi
  have := f (k + i) (by omega) (by omega)
  rw [g (k + i) (by omega), Bool.not_eq_false'] at this
  rw [List.getElem_drop]; exact this
theorem s_galL (K : AskS prog w A s key κ a₀) {st : SortSt} {x : Keyed} {arr : Array Keyed} {b0 n at0 : Nat} {l : List Keyed} {Q : Option Nat → SortSt → Prop} (hk : kindOf st = κ) (hx : x ∈ a₀.toList) (hl : ∀ y ∈ l, y ∈ a₀.toList) (hn : l.length = n)
  (e : ∀ i, i < n → arr[b0 + i]? = l[i]?) (so : l.Pairwise (le key)) (ha : at0 < n)
  (h : ∀ k, k ≤ n → (∀ y ∈ l.take k, O.klt (key y.1) (key x.1)) → (∀ y ∈ l.drop k, le key x y) → Q (some k) st) : wpS (model prog w) A E s (gal' true x arr b0 n at0) Q st := by
 have g : ∀ i (hi : i < l.length), (l[i]?.getD x) = l[i] := fun i hi => by rw [List.getElem?_eq_getElem hi]; rfl
 refine s_gal (by_left K hk hx hl hn e) (fun i j ij jn pj => ?_) ha fun k kn t f => h k kn (fun y hy => ?_) fun y hy => ?_
 ·rw [g j (by omega)] at pj
  rw [g i (by omega)]
  exact KeyOrd.klt_of_kle_of_klt (pw_get so ij (by omega)) pj
 ·obtain ⟨i, hi, rfl⟩ := List.getElem_of_mem hy
  rw [List.length_take] at hi
  have := t i (by omega)
  rw [g i (by omega)] at this
  rw [List.getElem_take]; exact this
 ·obtain ⟨i, hi, rfl⟩ := List.getElem_of_mem hy
  rw [List.length_drop] at hi
  have := f (k + i) (by omega) (by omega)
  rw [g (k + i) (by omega)] at this
  rw [List.getElem_drop]; exact this

structure MI (R : Keyed → Keyed → Prop) (L out A B : List Keyed) : Prop where
 perm : (out ++ A ++ B).Perm L
 so : out.Pairwise R
 sA : A.Pairwise R
 sB : B.Pairwise R
 low : ∀ x ∈ out, ∀ y ∈ A ++ B, R x y
 top : ∀ z, A.getLast? = some z → ∀ y ∈ B, R y z
noncomputable def MR (R : Keyed → Keyed → Prop) (L out : List Keyed) : Prop := out.Perm L ∧ out.Pairwise R
section
variable {R : Keyed → Keyed → Prop} {L out X A' B' : List Keyed}
theorem MI.runA (m : MI R L out (X ++ A') B') (h : ∀ x ∈ X, ∀ y ∈ B', R x y) : MI R L (out ++ X) A' B' := by
 have sA := List.pairwise_append.mp m.sA
 refine ⟨by rw [List.append_assoc out X A']; exact m.perm, ?_, sA.2.1, m.sB, fun x hx y hy => ?_, fun z hz y hy => ?_⟩
 ·exact List.pairwise_append.mpr ⟨m.so, sA.1, fun x hx y hy => m.low x hx y (List.mem_append_left _ (List.mem_append_left _ hy))⟩
 ·rcases List.mem_append.mp hx with hx | hx
  ·rcases List.mem_append.mp hy with hy | hy
   ·exact m.low x hx y (List.mem_append_left _ (List.mem_append_right _ hy))
   ·exact m.low x hx y (List.mem_append_right _ hy)
  ·rcases List.mem_append.mp hy with hy | hy
   ·exact sA.2.2 x hx y hy
   ·exact h x hx y hy
 ·refine m.top z ?_ y hy
  rw [List.getLast?_append, hz]; rfl
theorem MI.runB (m : MI R L out A' (X ++ B')) (h : ∀ x ∈ X, ∀ y ∈ A', R x y) : MI R L (out ++ X) A' B' := by
 have sB := List.pairwise_append.mp m.sB
 refine ⟨?_, ?_, m.sA, sB.2.1, fun x hx y hy => ?_, fun z hz y hy => m.top z hz y (List.mem_append_right _ hy)⟩
 ·refine List.Perm.trans ?_ m.perm
  rw [List.append_assoc, List.append_assoc, List.append_assoc]
  refine List.Perm.append_left _ ?_
  rw [← List.append_assoc, ← List.append_assoc]
  exact List.Perm.append_right _ List.perm_append_comm
 ·exact List.pairwise_append.mpr ⟨m.so, sB.1, fun x hx y hy => m.low x hx y (List.mem_append_right _ (List.mem_append_left _ hy))⟩
 ·rcases List.mem_append.mp hx with hx | hx
  ·rcases List.mem_append.mp hy with hy | hy
   ·exact m.low x hx y (List.mem_append_left _ hy)
   ·exact m.low x hx y (List.mem_append_right _ (List.mem_append_right _ hy))
  ·rcases List.mem_append.mp hy with hy | hy
   ·exact h x hx y hy
   ·exact sB.2.2 x hx y hy
theorem MI.end1 (m : MI R L out A' []) : MR R L (out ++ A') :=
 ⟨by have := m.perm; rwa [List.append_nil] at this, List.pairwise_append.mpr ⟨m.so, m.sA, fun x hx y hy => m.low x hx y (List.mem_append_left _ hy)⟩⟩
theorem MI.end2 (m : MI R L out [] B') : MR R L (out ++ B') :=
 ⟨by have := m.perm; rwa [List.append_nil] at this, List.pairwise_append.mpr ⟨m.so, m.sB, fun x hx y hy => m.low x hx y (List.mem_append_right _ hy)⟩⟩
theorem MI.end3 {z : Keyed} (m : MI R L out [z] B') : MR R L (out ++ B' ++ [z]) := by
 have m2 : MI R L out [z] (B' ++ []) := by rw [List.append_nil]; exact m
 exact (m2.runB fun x hx y hy => by
  rw [List.mem_singleton.mp hy]
  exact m.top z rfl x hx).end1
end
end
end TM

namespace TM
open PySem PyProof.Rows
noncomputable def sG' : Nat → StateT SortSt Sem Unit := sortPriv% PySem.Builtin.setMinGallop
noncomputable abbrev setG (st : SortSt) (g : Nat) : SortSt := SortSt.mk' (kindOf st) (arrOf st) (pendingOf st) g (failedOf st)
theorem sG_eq (g : Nat) : sG' g = modify fun st => setG st g := rfl
theorem mlo_eq (a b : Array Keyed) : mlo' a b = (do
  rule "list.sort.merge-lo"
  let mut o : Array Keyed := #[← elem' b 0]
  let mut i := 0
  let mut j := 1
  if j == b.size then return o ++ a.extract i a.size ++ b.extract j b.size
  if i + 1 == a.size then return o ++ b.extract j b.size ++ a.extract i a.size
  let mut g := gallopOf (← get)
  for _ in [0:a.size + b.size] do
   let mut p := 0
   let mut q := 0
   for _ in [0:a.size + b.size] do
    let some c ← lt' (← elem' b j) (← elem' a i) | return o ++ a.extract i a.size ++ b.extract j b.size
    if c then
     o := o.push (← elem' b j); j := j + 1; q := q + 1; p := 0
     if j == b.size then return o ++ a.extract i a.size ++ b.extract j b.size
     if q ≥ g then break
    else
     o := o.push (← elem' a i); i := i + 1; p := p + 1; q := 0
     if i + 1 == a.size then return o ++ b.extract j b.size ++ a.extract i a.size
     if p ≥ g then break
   rule "list.sort.gallop"
   g := g + 1
   for _ in [0:a.size + b.size] do
    if g > 1 then g := g - 1
    sG' g
    let some k ← gal' false (← elem' b j) a i (a.size - i) 0 | return o ++ a.extract i a.size ++ b.extract j b.size
    p := k
    if k > 0 then
     o := o ++ a.extract i (i + k); i := i + k
     if i + 1 == a.size then return o ++ b.extract j b.size ++ a.extract i a.size
     if i == a.size then return o ++ a.extract i a.size ++ b.extract j b.size
    o := o.push (← elem' b j); j := j + 1
    if j == b.size then return o ++ a.extract i a.size ++ b.extract j b.size
    let some k ← gal' true (← elem' a i) b j (b.size - j) 0 | return o ++ a.extract i a.size ++ b.extract j b.size
    q := k
    if k > 0 then
     o := o ++ b.extract j (j + k); j := j + k
     if j == b.size then return o ++ a.extract i a.size ++ b.extract j b.size
    o := o.push (← elem' a i); i := i + 1
    if i + 1 == a.size then return o ++ b.extract j b.size ++ a.extract i a.size
    if p < 7 && q < 7 then break
   g := g + 1
   sG' g
  unsupported "internal:list.sort.merge-bound") := rfl
structure Gq (st st' : SortSt) : Prop where
 kind : kindOf st' = kindOf st
 arr : arrOf st' = arrOf st
 pend : pendingOf st' = pendingOf st
 fail : failedOf st' = failedOf st
theorem Gq.refl {st : SortSt} : Gq st st := ⟨rfl, rfl, rfl, rfl⟩
theorem Gq.set {st st' : SortSt} (h : Gq st st') (g : Nat) : Gq st (setG st' g) := ⟨h.kind, h.arr, h.pend, h.fail⟩
section
variable {a b o : Array Keyed} {i j k : Nat}
theorem dropE (h : i < a.size) : a.toList.drop i = a[i] :: a.toList.drop (i + 1) := by
 have h' : i < a.toList.length := by simpa using h
 rw [List.drop_eq_getElem_cons h', Array.getElem_toList]
theorem ex_drop (a : Array Keyed) (i : Nat) : (a.extract i a.size).toList = a.toList.drop i := by
 rw [Array.toList_extract, List.extract_eq_drop_take, List.take_of_length_le (by simp)]
theorem ex_run (a : Array Keyed) (i k : Nat) : (a.extract i (i + k)).toList = (a.toList.drop i).take k := by
 rw [Array.toList_extract, List.extract_eq_drop_take, Nat.add_sub_cancel_left]
theorem vO : (o ++ a.extract i a.size ++ b.extract j b.size).toList = o.toList ++ a.toList.drop i ++ b.toList.drop j := by
 rw [Array.toList_append, Array.toList_append, ex_drop, ex_drop]
theorem yO (h : a.size ≤ i) : a.toList.drop i = [] := List.drop_eq_nil_of_le (by simpa using h)
theorem drop_last (h : i + 1 = a.size) : ∃ z, a.toList.drop i = [z] := ⟨a[i]'(by omega), by rw [dropE (by omega), yO (by omega)]⟩
theorem take_drop' (l : List Keyed) (i k : Nat) : l.drop i = (l.drop i).take k ++ l.drop (i + k) := by
 rw [← List.drop_drop, List.take_append_drop]
theorem jO (h : i < a.size) : a[i] ∈ a.toList := Array.getElem_mem_toList h
theorem mem_drop {x : Keyed} (h : x ∈ a.toList.drop i) : x ∈ a.toList := List.mem_of_mem_drop h
end
section
variable {prog : Program} {w : World} {A : Around} {E : Value → Shared → Prop} {s : Shared} {O : KeyOrd} {key : Value → O.α} {κ : SortKind} {a₀ : Array Keyed}
theorem pw_head {x : Keyed} {l : List Keyed} (h : (x :: l).Pairwise (le key)) : ∀ y ∈ l, le key x y := (List.pairwise_cons.mp h).1
theorem s_set {st : SortSt} {g : Nat} {Q : Unit → SortSt → Prop} (h : Q () (setG st g)) : wpS (model prog w) A E s (sG' g) Q st := by rw [sG_eq]; exact wpS_modify h
end
noncomputable abbrev LS : Type := Option (Array Keyed) × Array Keyed × Nat × Nat × Nat × Nat × Nat
noncomputable def loF3 (a b o : Array Keyed) (i j g p q : Nat) : StateT SortSt Sem (ForInStep LS) := do
 let x ← elem' a i
 if (i + 1 + 1 == a.size) = true then pure (.done (some (o.push x ++ b.extract j b.size ++ a.extract (i + 1) a.size), o.push x, i + 1, j, g, p, q))
 else if (decide (p < 7) && decide (q < 7)) = true then pure (.done (none, o.push x, i + 1, j, g, p, q)) else pure (.yield (none, o.push x, i + 1, j, g, p, q))
noncomputable def loF2 (a b o : Array Keyed) (i j g p q : Nat) : StateT SortSt Sem (ForInStep LS) := do
 let y ← elem' b j
 if (j + 1 == b.size) = true then pure (.done (some (o.push y ++ a.extract i a.size ++ b.extract (j + 1) b.size), o.push y, i, j + 1, g, p, q))
 else do
  let x ← elem' a i
  let z ← gal' true x b (j + 1) (b.size - (j + 1)) 0
  match z with
  | some k =>
   if k > 0 then
    if (j + 1 + k == b.size) = true then pure (.done (some (o.push y ++ b.extract (j + 1) (j + 1 + k) ++ a.extract i a.size ++ b.extract (j + 1 + k) b.size), o.push y ++ b.extract (j + 1) (j + 1 + k), i, j + 1 + k, g, p, k))
    else loF3 a b (o.push y ++ b.extract (j + 1) (j + 1 + k)) i (j + 1 + k) g p k
   else loF3 a b (o.push y) i (j + 1) g p k
  | _ => pure (.done (some (o.push y ++ a.extract i a.size ++ b.extract (j + 1) b.size), o.push y, i, j + 1, g, p, q))
noncomputable def loF1 (a b o : Array Keyed) (i j g p q : Nat) : StateT SortSt Sem (ForInStep LS) := do
 sG' g
 let y ← elem' b j
 let z ← gal' false y a i (a.size - i) 0
 match z with
 | some k =>
  if k > 0 then
   if (i + k + 1 == a.size) = true then pure (.done (some (o ++ a.extract i (i + k) ++ b.extract j b.size ++ a.extract (i + k) a.size), o ++ a.extract i (i + k), i + k, j, g, k, q))
   else if (i + k == a.size) = true then pure (.done (some (o ++ a.extract i (i + k) ++ a.extract (i + k) a.size ++ b.extract j b.size), o ++ a.extract i (i + k), i + k, j, g, k, q))
   else loF2 a b (o ++ a.extract i (i + k)) (i + k) j g k q
  else loF2 a b o i j g k q
 | _ => pure (.done (some (o ++ a.extract i a.size ++ b.extract j b.size), o, i, j, g, p, q))
section
variable {prog : Program} {w : World} {A : Around} {E : Value → Shared → Prop} {s : Shared} {O : KeyOrd} {key : Value → O.α} {κ : SortKind} {a₀ : Array Keyed}
variable {st0 st : SortSt} {a b o : Array Keyed} {i j g p q x : Nat} {Q : ForInStep LS → SortSt → Prop}
theorem drop_at (l : Array Keyed) (i t : Nat) : l[i + t]? = (l.toList.drop i)[t]? := by rw [List.getElem?_drop, Array.getElem?_toList]
theorem drop_len (l : Array Keyed) (i : Nat) : (l.toList.drop i).length = l.size - i := by rw [List.length_drop, Array.length_toList]
noncomputable abbrev Fin1 (key : Value → O.α) (a b : Array Keyed) : Prop := ∀ (o : Array Keyed) (i j : Nat), MI (le key) (a.toList ++ b.toList) o.toList (a.toList.drop i) (b.toList.drop j) → b.size ≤ j → MR (le key) (a.toList ++ b.toList) (o ++ a.extract i a.size ++ b.extract j b.size).toList
noncomputable abbrev Fin2 (key : Value → O.α) (a b : Array Keyed) : Prop := ∀ (o : Array Keyed) (i j : Nat), MI (le key) (a.toList ++ b.toList) o.toList (a.toList.drop i) (b.toList.drop j) → a.size ≤ i → MR (le key) (a.toList ++ b.toList) (o ++ a.extract i a.size ++ b.extract j b.size).toList
noncomputable abbrev Fin3 (key : Value → O.α) (a b : Array Keyed) : Prop := ∀ (o : Array Keyed) (i j : Nat), MI (le key) (a.toList ++ b.toList) o.toList (a.toList.drop i) (b.toList.drop j) → i + 1 = a.size → MR (le key) (a.toList ++ b.toList) (o ++ b.extract j b.size ++ a.extract i a.size).toList
noncomputable abbrev HD (st0 : SortSt) (key : Value → O.α) (a b : Array Keyed) (Q : ForInStep LS → SortSt → Prop) : Prop := ∀ r z st1, Gq st0 st1 → MR (le key) (a.toList ++ b.toList) r.toList → Q (.done (some r, z)) st1
noncomputable abbrev HN (st0 : SortSt) (key : Value → O.α) (a b : Array Keyed) (x : Nat) (Q : ForInStep LS → SortSt → Prop) : Prop := ∀ o i j g p q st1, Gq st0 st1 → MI (le key) (a.toList ++ b.toList) o.toList (a.toList.drop i) (b.toList.drop j) → i + 1 < a.size → j < b.size → x + 1 ≤ i + j →
 Q (.done (none, o, i, j, g, p, q)) st1 ∧ Q (.yield (none, o, i, j, g, p, q)) st1
theorem s_F3 (G : Gq st0 st) (mi : MI (le key) (a.toList ++ b.toList) o.toList (a.toList.drop i) (b.toList.drop j)) (h1 : i + 1 < a.size) (h2 : j < b.size) (h3 : x ≤ i + j) (hle : ∀ y ∈ b.toList.drop j, le key (a[i]'(by omega)) y)
  (f3 : Fin3 key a b) (hd : HD st0 key a b Q) (hn : HN st0 key a b x Q) : wpS (model prog w) A E s (loF3 a b o i j g p q) Q st := by
 unfold loF3
 refine wpS_bind (zB (getElem?_pos a i (by omega)) ?_)
 have mi2 : MI (le key) (a.toList ++ b.toList) (o.push (a[i]'(by omega))).toList (a.toList.drop (i + 1)) (b.toList.drop j) := by
  rw [Array.toList_push]
  rw [dropE (by omega : i < a.size)] at mi
  exact MI.runA (X := [a[i]'(by omega)]) mi fun x hx => by rw [List.mem_singleton.mp hx]; exact hle
 by_cases e : i + 1 + 1 = a.size
 ·rw [if_pos (by simp [e])]
  exact wpS_pure (hd _ _ _ G (f3 _ _ _ mi2 e))
 ·rw [if_neg (by simp [e])]
  split
  ·exact wpS_pure (hn _ _ _ _ _ _ _ G mi2 (by omega) h2 (by omega)).1
  ·exact wpS_pure (hn _ _ _ _ _ _ _ G mi2 (by omega) h2 (by omega)).2
theorem s_F2 (K : AskS prog w A s key κ a₀) (G : Gq st0 st) (hk : kindOf st0 = κ) (ha : ∀ x ∈ a.toList, x ∈ a₀.toList) (hb : ∀ x ∈ b.toList, x ∈ a₀.toList)
  (mi : MI (le key) (a.toList ++ b.toList) o.toList (a.toList.drop i) (b.toList.drop j)) (h1 : i + 1 < a.size) (h2 : j < b.size) (h3 : x + 1 ≤ i + j) (hle : ∀ y ∈ a.toList.drop i, le key b[j] y)
  (f1 : Fin1 key a b) (f3 : Fin3 key a b) (hd : HD st0 key a b Q) (hn : HN st0 key a b x Q) : wpS (model prog w) A E s (loF2 a b o i j g p q) Q st := by
 unfold loF2
 refine wpS_bind (zB (getElem?_pos b j h2) ?_)
 have mi2 : MI (le key) (a.toList ++ b.toList) (o.push b[j]).toList (a.toList.drop i) (b.toList.drop (j + 1)) := by
  rw [Array.toList_push]
  rw [dropE h2] at mi
  exact MI.runB (X := [b[j]]) mi fun x hx => by rw [List.mem_singleton.mp hx]; exact hle
 by_cases e : j + 1 = b.size
 ·rw [if_pos (by simp [e])]
  exact wpS_pure (hd _ _ _ G (f1 _ _ _ mi2 (by omega)))
 rw [if_neg (by simp [e])]
 refine wpS_bind (zB (getElem?_pos a i (by omega)) ?_)
 refine wpS_bind (s_galL K (G.kind.trans hk) (ha _ (jO (by omega))) (fun y hy => hb y (mem_drop hy)) (drop_len b (j + 1)) (fun t _ => drop_at b (j + 1) t) mi2.sB (by omega) fun k kn tk dk => ?_)
 rw [List.drop_drop] at dk
 have mi3 : MI (le key) (a.toList ++ b.toList) (o.push b[j] ++ b.extract (j + 1) (j + 1 + k)).toList (a.toList.drop i) (b.toList.drop (j + 1 + k)) := by
  rw [Array.toList_append, ex_run]
  refine MI.runB (by rw [← take_drop']; exact mi2) fun x hx y hy => ?_
  have sA := mi.sA
  rw [dropE (by omega : i < a.size)] at sA hy
  have l1 : le key x (a[i]'(by omega)) := KeyOrd.kle_of_klt (tk x hx)
  rcases List.mem_cons.mp hy with rfl | hy
  ·exact l1
  ·exact l1.trans (pw_head sA y hy)
 dsimp only
 by_cases k0 : k > 0
 ·rw [if_pos k0]
  by_cases e2 : j + 1 + k = b.size
  ·rw [if_pos (by simp [e2])]
   exact wpS_pure (hd _ _ _ G (f1 _ _ _ mi3 (by omega)))
  ·rw [if_neg (by simp [e2])]
   exact s_F3 G mi3 h1 (by omega) (x := x) (by omega) dk f3 hd hn
 ·rw [if_neg k0]
  have : k = 0 := by omega
  subst this
  exact s_F3 G mi2 h1 (by omega) (x := x) (by omega) dk f3 hd hn
theorem s_F1 (K : AskS prog w A s key κ a₀) (G : Gq st0 st) (hk : kindOf st0 = κ) (ha : ∀ x ∈ a.toList, x ∈ a₀.toList) (hb : ∀ x ∈ b.toList, x ∈ a₀.toList)
  (mi : MI (le key) (a.toList ++ b.toList) o.toList (a.toList.drop i) (b.toList.drop j)) (h1 : i + 1 < a.size) (h2 : j < b.size) (h3 : x + 1 ≤ i + j)
  (f1 : Fin1 key a b) (f2 : Fin2 key a b) (f3 : Fin3 key a b) (hd : HD st0 key a b Q) (hn : HN st0 key a b x Q) : wpS (model prog w) A E s (loF1 a b o i j g p q) Q st := by
 unfold loF1
 have ej := getElem?_pos b j h2
 refine wpS_bind (s_set ?_)
 have G1 := G.set g
 refine wpS_bind (zB ej ?_)
 refine wpS_bind (s_galR K (G1.kind.trans hk) (hb _ (jO h2)) (fun y hy => ha y (mem_drop hy)) (drop_len a i) (fun t _ => drop_at a i t) mi.sA (by omega) fun k kn tk dk => ?_)
 rw [List.drop_drop] at dk
 have mi2 : MI (le key) (a.toList ++ b.toList) (o ++ a.extract i (i + k)).toList (a.toList.drop (i + k)) (b.toList.drop j) := by
  rw [Array.toList_append, ex_run]
  refine MI.runA (by rw [← take_drop']; exact mi) fun x hx y hy => ?_
  have sB := mi.sB
  rw [dropE h2] at sB hy
  have l1 : le key x b[j] := tk x hx
  rcases List.mem_cons.mp hy with rfl | hy
  ·exact l1
  ·exact l1.trans (pw_head sB y hy)
 dsimp only
 by_cases k0 : k > 0
 ·rw [if_pos k0]
  by_cases e : i + k + 1 = a.size
  ·rw [if_pos (by simp [e])]
   exact wpS_pure (hd _ _ _ G1 (f3 _ _ _ mi2 e))
  rw [if_neg (by simp [e])]
  by_cases e2 : i + k = a.size
  ·rw [if_pos (by simp [e2])]
   exact wpS_pure (hd _ _ _ G1 (f2 _ _ _ mi2 (by omega)))
  rw [if_neg (by simp [e2])]
  exact s_F2 K G1 hk ha hb mi2 (by omega) h2 (by omega) (fun y hy => KeyOrd.kle_of_klt (dk y hy)) f1 f3 hd hn
 ·rw [if_neg k0]
  have : k = 0 := by omega
  subst this
  exact s_F2 K G1 hk ha hb mi h1 h2 h3 (fun y hy => KeyOrd.kle_of_klt (dk y hy)) f1 f3 hd hn
end
section
variable {prog : Program} {w : World} {A : Around} {E : Value → Shared → Prop} {s : Shared} {O : KeyOrd} {key : Value → O.α} {κ : SortKind} {a₀ : Array Keyed}
theorem s_mlo (K : AskS prog w A s key κ a₀) {st : SortSt} {a b : Array Keyed} {Q : Array Keyed → SortSt → Prop} (hk : kindOf st = κ) (ha : ∀ x ∈ a.toList, x ∈ a₀.toList) (hb : ∀ x ∈ b.toList, x ∈ a₀.toList)
  (a1 : 1 ≤ a.size) (b1 : 1 ≤ b.size) (m : MI (le key) (a.toList ++ b.toList) [] a.toList b.toList) (first : ∀ x ∈ a.toList, le key (b[0]'(by omega)) x)
  (h : ∀ out st', Gq st st' → MR (le key) (a.toList ++ b.toList) out.toList → Q out st') : wpS (model prog w) A E s (mlo' a b) Q st := by
 rw [mlo_eq]
 refine wpS_bind (wpS_lift (wpAny_rule ⟨rfl, ?_⟩))
 refine wpS_bind (zB (getElem?_pos b 0 (by omega)) ?_)
 have m1 : MI (le key) (a.toList ++ b.toList) (#[b[0]'(by omega)] : Array Keyed).toList (a.toList.drop 0) (b.toList.drop 1) := by
  have e : b.toList = [b[0]'(by omega)] ++ b.toList.drop 1 := by
   have := dropE (a := b) (i := 0) (by omega)
   rw [List.drop_zero] at this
   exact this
  rw [List.drop_zero]
  have m0 := m
  generalize a.toList ++ b.toList = L at m0 ⊢
  rw [e] at m0
  exact m0.runB fun x hx => by rw [List.mem_singleton.mp hx]; exact first
 dsimp only
 have fin1 : ∀ (o : Array Keyed) (i j : Nat), MI (le key) (a.toList ++ b.toList) o.toList (a.toList.drop i) (b.toList.drop j) → b.size ≤ j → MR (le key) (a.toList ++ b.toList) (o ++ a.extract i a.size ++ b.extract j b.size).toList := fun o i j mi hj => by
  rw [vO, yO hj, List.append_nil]
  rw [yO hj] at mi
  exact mi.end1
 have fin2 : ∀ (o : Array Keyed) (i j : Nat), MI (le key) (a.toList ++ b.toList) o.toList (a.toList.drop i) (b.toList.drop j) → a.size ≤ i → MR (le key) (a.toList ++ b.toList) (o ++ a.extract i a.size ++ b.extract j b.size).toList := fun o i j mi hi => by
  rw [vO, yO hi, List.append_nil]
  rw [yO hi] at mi
  exact mi.end2
 have fin3 : ∀ (o : Array Keyed) (i j : Nat), MI (le key) (a.toList ++ b.toList) o.toList (a.toList.drop i) (b.toList.drop j) → i + 1 = a.size → MR (le key) (a.toList ++ b.toList) (o ++ b.extract j b.size ++ a.extract i a.size).toList := fun o i j mi hi => by
  obtain ⟨z, ez⟩ := drop_last hi
  rw [vO, ez]
  rw [ez] at mi
  exact mi.end3
 by_cases c1 : b.size = 1
 ·rw [if_pos (by simp [c1])]
  exact wpS_pure (h _ _ Gq.refl (fin1 _ _ _ m1 (by omega)))
 rw [if_neg (by simp; omega)]
 by_cases c2 : a.size = 1
 ·rw [if_pos (by simp [c2])]
  exact wpS_pure (h _ _ Gq.refl (fin3 _ _ _ m1 (by omega)))
 rw [if_neg (by simp; omega)]
 refine wpS_bind (wpS_get ?_)
 have stepB : ∀ (o : Array Keyed) (i j : Nat) (hj : j < b.size), MI (le key) (a.toList ++ b.toList) o.toList (a.toList.drop i) (b.toList.drop j) → (∀ y ∈ a.toList.drop i, le key b[j] y) →
   MI (le key) (a.toList ++ b.toList) (o.push b[j]).toList (a.toList.drop i) (b.toList.drop (j + 1)) := fun o i j hj mi hle => by
  rw [Array.toList_push]
  rw [dropE hj] at mi
  exact MI.runB (X := [b[j]]) mi fun x hx => by rw [List.mem_singleton.mp hx]; exact hle
 have stepA : ∀ (o : Array Keyed) (i j : Nat) (hi : i < a.size), MI (le key) (a.toList ++ b.toList) o.toList (a.toList.drop i) (b.toList.drop j) → (∀ y ∈ b.toList.drop j, le key a[i] y) →
   MI (le key) (a.toList ++ b.toList) (o.push a[i]).toList (a.toList.drop (i + 1)) (b.toList.drop j) := fun o i j hi mi hle => by
  rw [Array.toList_push]
  rw [dropE hi] at mi
  exact MI.runA (X := [a[i]]) mi fun x hx => by rw [List.mem_singleton.mp hx]; exact hle
 refine wpS_bind (wpS_mono (wpS_forRange (I := fun x c st' => ∃ o i j g, c = (none, o, i, j, g) ∧ Gq st st' ∧ MI (le key) (a.toList ++ b.toList) o.toList (a.toList.drop i) (b.toList.drop j) ∧ i + 1 < a.size ∧ j < b.size ∧ x ≤ i + j)
  (Q := fun c st' => ∃ r o i j g, c = (some r, o, i, j, g) ∧ Gq st st' ∧ MR (le key) (a.toList ++ b.toList) r.toList) ?step ?fin ⟨_, 0, 1, _, rfl, Gq.refl, m1, by omega, by omega, by omega⟩) ?post)
 case post =>
  rintro c st' ⟨r, o, i, j, g, rfl, G, mr⟩
  exact wpS_pure (h r st' G mr)
 case fin =>
  rintro c st' ⟨o, i, j, g, rfl, G, mi, h1, h2, h3⟩
  omega
 case step =>
  rintro x c st' _ xl ⟨o, i, j, g, rfl, G, mi, h1, h2, h3⟩
  dsimp only
  refine wpS_bind (wpS_mono (wpS_forRange (I := fun y c st' => ∃ o i j p q, c = (none, o, i, j, p, q) ∧ Gq st st' ∧ MI (le key) (a.toList ++ b.toList) o.toList (a.toList.drop i) (b.toList.drop j) ∧ i + 1 < a.size ∧ j < b.size ∧ x + min y 1 ≤ i + j)
   (Q := fun c st' => (∃ r o i j p q, c = (some r, o, i, j, p, q) ∧ Gq st st' ∧ MR (le key) (a.toList ++ b.toList) r.toList) ∨
    (∃ o i j p q, c = (none, o, i, j, p, q) ∧ Gq st st' ∧ MI (le key) (a.toList ++ b.toList) o.toList (a.toList.drop i) (b.toList.drop j) ∧ i + 1 < a.size ∧ j < b.size ∧ x + 1 ≤ i + j)) ?step1 ?fin1 ⟨o, i, j, 0, 0, rfl, G, mi, h1, h2, by omega⟩) ?post1)
  case fin1 =>
   rintro c st' ⟨o, i, j, p, q, rfl, G, mi, h1, h2, h3⟩
   exact .inr ⟨o, i, j, p, q, rfl, G, mi, h1, h2, by omega⟩
  case step1 =>
   rintro y c st' _ yl ⟨o, i, j, p, q, rfl, G, mi, h1, h2, h3⟩
   dsimp only
   have ej : b[j]? = some b[j] := getElem?_pos b j h2
   have ei : a[i]? = some (a[i]'(by omega)) := getElem?_pos a i (by omega)
   refine wpS_bind (zB ej (wpS_bind (zB ei ?_)))
   refine wpS_bind (s_lt K (G.kind.trans hk) (hb _ (jO h2)) (ha _ (jO (by omega))) ?_)
   have sA := mi.sA
   have sB := mi.sB
   rw [dropE (by omega : i < a.size)] at sA
   rw [dropE h2] at sB
   dsimp only
   cases c : O.blt (key (b[j]).1) (key (a[i]'(by omega)).1) with
   | true =>
    simp only [if_true]
    refine wpS_bind (zB ej ?_)
    have mi2 := stepB o i j h2 mi (by
     rw [dropE (by omega : i < a.size)]
     intro y hy
     rcases List.mem_cons.mp hy with rfl | hy
     ·exact KeyOrd.kle_of_klt c
     ·exact le.trans (KeyOrd.kle_of_klt c) (pw_head sA y hy))
    by_cases e : j + 1 = b.size
    ·rw [if_pos (by simp [e])]
     exact wpS_pure (.inl ⟨_, _, _, _, _, _, rfl, G, fin1 _ _ _ mi2 (by omega)⟩)
    ·rw [if_neg (by simp [e])]
     split
     ·exact wpS_pure (.inr ⟨_, _, _, _, _, rfl, G, mi2, h1, by omega, by omega⟩)
     ·exact wpS_pure ⟨_, _, _, _, _, rfl, G, mi2, h1, by omega, by omega⟩
   | false =>
    simp only [Bool.false_eq_true, if_false]
    refine wpS_bind (zB ei ?_)
    have mi2 := stepA o i j (by omega) mi (by
     rw [dropE h2]
     intro y hy
     rcases List.mem_cons.mp hy with rfl | hy
     ·exact c
     ·exact le.trans (show le key _ _ from c) (pw_head sB y hy))
    by_cases e : i + 1 + 1 = a.size
    ·rw [if_pos (by simp [e])]
     exact wpS_pure (.inl ⟨_, _, _, _, _, _, rfl, G, fin3 _ _ _ mi2 (by omega)⟩)
    ·rw [if_neg (by simp [e])]
     split
     ·exact wpS_pure (.inr ⟨_, _, _, _, _, rfl, G, mi2, by omega, h2, by omega⟩)
     ·exact wpS_pure ⟨_, _, _, _, _, rfl, G, mi2, by omega, h2, by omega⟩
  case post1 =>
   rintro c st' (⟨r, o, i, j, p, q, rfl, G, mr⟩ | ⟨o, i, j, p, q, rfl, G, mi, h1, h2, h3⟩)
   ·exact wpS_pure ⟨r, _, _, _, _, rfl, G, mr⟩
   dsimp only
   refine wpS_bind (wpS_lift (wpAny_rule ⟨rfl, ?_⟩))
   refine wpS_bind (wpS_mono (wpS_forRange (I := fun y c st' => ∃ o i j g p q, c = (none, o, i, j, g, p, q) ∧ Gq st st' ∧ MI (le key) (a.toList ++ b.toList) o.toList (a.toList.drop i) (b.toList.drop j) ∧ i + 1 < a.size ∧ j < b.size ∧ x + 1 ≤ i + j)
    (Q := fun c st' => (∃ r o i j g p q, c = (some r, o, i, j, g, p, q) ∧ Gq st st' ∧ MR (le key) (a.toList ++ b.toList) r.toList) ∨
     (∃ o i j g p q, c = (none, o, i, j, g, p, q) ∧ Gq st st' ∧ MI (le key) (a.toList ++ b.toList) o.toList (a.toList.drop i) (b.toList.drop j) ∧ i + 1 < a.size ∧ j < b.size ∧ x + 1 ≤ i + j)) ?step2 ?fin2 ⟨o, i, j, _, p, q, rfl, G, mi, h1, h2, h3⟩) ?post2)
   case fin2 =>
    rintro c st' ⟨o, i, j, g, p, q, rfl, G, mi, h1, h2, h3⟩
    exact .inr ⟨o, i, j, g, p, q, rfl, G, mi, h1, h2, h3⟩
   case post2 =>
    rintro c st' (⟨r, o, i, j, g, p, q, rfl, G, mr⟩ | ⟨o, i, j, g, p, q, rfl, G, mi, h1, h2, h3⟩)
    ·exact wpS_pure ⟨r, _, _, _, _, rfl, G, mr⟩
    ·dsimp only
     exact wpS_bind (s_set (wpS_pure ⟨o, i, j, _, rfl, G.set _, mi, h1, h2, by omega⟩))
   case step2 =>
    rintro y c st' _ yl ⟨o, i, j, g0, p, q, rfl, G, mi, h1, h2, h3⟩
    dsimp only
    have ej : b[j]? = some b[j] := getElem?_pos b j h2
    by_cases g1 : g0 > 1
    ·rw [if_pos g1]
     exact s_F1 K G hk ha hb mi h1 h2 h3 fin1 fin2 fin3 (fun r z st1 G1 mr => .inl ⟨r, _, _, _, _, _, _, rfl, G1, mr⟩) fun o i j g p q st1 G1 m1 u1 u2 u3 => ⟨.inr ⟨_, _, _, _, _, _, rfl, G1, m1, u1, u2, u3⟩, ⟨_, _, _, _, _, _, rfl, G1, m1, u1, u2, u3⟩⟩
    ·rw [if_neg g1]
     exact s_F1 K G hk ha hb mi h1 h2 h3 fin1 fin2 fin3 (fun r z st1 G1 mr => .inl ⟨r, _, _, _, _, _, _, rfl, G1, mr⟩) fun o i j g p q st1 G1 m1 u1 u2 u3 => ⟨.inr ⟨_, _, _, _, _, _, rfl, G1, m1, u1, u2, u3⟩, ⟨_, _, _, _, _, _, rfl, G1, m1, u1, u2, u3⟩⟩
end
end TM

namespace TM
open PySem PyProof.Rows
theorem mhi_eq (a b : Array Keyed) : mhi' a b = (do
  rule "list.sort.merge-hi"
  let mut i := a.size - 1
  let mut j := b.size
  let mut o : Array Keyed := #[← elem' a i]
  if i == 0 then return a.extract 0 i ++ b.extract 0 j ++ o.reverse
  if j == 1 then return b.extract 0 j ++ a.extract 0 i ++ o.reverse
  let mut g := gallopOf (← get)
  for _ in [0:a.size + b.size] do
   let mut p := 0
   let mut q := 0
   for _ in [0:a.size + b.size] do
    let some c ← lt' (← elem' b (j - 1)) (← elem' a (i - 1)) | return a.extract 0 i ++ b.extract 0 j ++ o.reverse
    if c then
     i := i - 1; o := o.push (← elem' a i); p := p + 1; q := 0
     if i == 0 then return a.extract 0 i ++ b.extract 0 j ++ o.reverse
     if p ≥ g then break
    else
     j := j - 1; o := o.push (← elem' b j); q := q + 1; p := 0
     if j == 1 then return b.extract 0 j ++ a.extract 0 i ++ o.reverse
     if q ≥ g then break
   rule "list.sort.gallop"
   g := g + 1
   for _ in [0:a.size + b.size] do
    if g > 1 then g := g - 1
    sG' g
    let some t ← gal' false (← elem' b (j - 1)) a 0 i (i - 1) | return a.extract 0 i ++ b.extract 0 j ++ o.reverse
    let k := i - t
    p := k
    if k > 0 then
     o := o ++ (a.extract t i).reverse; i := t
     if i == 0 then return a.extract 0 i ++ b.extract 0 j ++ o.reverse
    j := j - 1; o := o.push (← elem' b j)
    if j == 1 then return b.extract 0 j ++ a.extract 0 i ++ o.reverse
    let some t ← gal' true (← elem' a (i - 1)) b 0 j (j - 1) | return a.extract 0 i ++ b.extract 0 j ++ o.reverse
    let k := j - t
    q := k
    if k > 0 then
     o := o ++ (b.extract t j).reverse; j := t
     if j == 1 then return b.extract 0 j ++ a.extract 0 i ++ o.reverse
     if j == 0 then return a.extract 0 i ++ b.extract 0 j ++ o.reverse
    i := i - 1; o := o.push (← elem' a i)
    if i == 0 then return a.extract 0 i ++ b.extract 0 j ++ o.reverse
    if p < 7 && q < 7 then break
   g := g + 1
   sG' g
  unsupported "internal:list.sort.merge-bound") := rfl
noncomputable abbrev HS : Type := Option (Array Keyed) × Nat × Nat × Array Keyed × Nat × Nat × Nat
noncomputable abbrev dn1 (a b o : Array Keyed) (i j : Nat) : Array Keyed := a.extract 0 i ++ b.extract 0 j ++ o.reverse
noncomputable abbrev dn3 (a b o : Array Keyed) (i j : Nat) : Array Keyed := b.extract 0 j ++ a.extract 0 i ++ o.reverse
noncomputable def hiF3 (a b o : Array Keyed) (i j g p q : Nat) : StateT SortSt Sem (ForInStep HS) := do
 let x ← elem' a (i - 1)
 if (i - 1 == 0) = true then pure (.done (some (dn1 a b (o.push x) (i - 1) j), i - 1, j, o.push x, g, p, q))
 else if (decide (p < 7) && decide (q < 7)) = true then pure (.done (none, i - 1, j, o.push x, g, p, q)) else pure (.yield (none, i - 1, j, o.push x, g, p, q))
noncomputable def hiF2 (a b o : Array Keyed) (i j g p q : Nat) : StateT SortSt Sem (ForInStep HS) := do
 let y ← elem' b (j - 1)
 if (j - 1 == 1) = true then pure (.done (some (dn3 a b (o.push y) i (j - 1)), i, j - 1, o.push y, g, p, q))
 else do
  let x ← elem' a (i - 1)
  let z ← gal' true x b 0 (j - 1) (j - 1 - 1)
  match z with
  | some t =>
   if j - 1 - t > 0 then
    if (t == 1) = true then pure (.done (some (dn3 a b (o.push y ++ (b.extract t (j - 1)).reverse) i t), i, t, o.push y ++ (b.extract t (j - 1)).reverse, g, p, j - 1 - t))
    else if (t == 0) = true then pure (.done (some (dn1 a b (o.push y ++ (b.extract t (j - 1)).reverse) i t), i, t, o.push y ++ (b.extract t (j - 1)).reverse, g, p, j - 1 - t))
    else hiF3 a b (o.push y ++ (b.extract t (j - 1)).reverse) i t g p (j - 1 - t)
   else hiF3 a b (o.push y) i (j - 1) g p (j - 1 - t)
  | _ => pure (.done (some (dn1 a b (o.push y) i (j - 1)), i, j - 1, o.push y, g, p, q))
noncomputable def hiF1 (a b o : Array Keyed) (i j g p q : Nat) : StateT SortSt Sem (ForInStep HS) := do
 sG' g
 let y ← elem' b (j - 1)
 let z ← gal' false y a 0 i (i - 1)
 match z with
 | some t =>
  if i - t > 0 then
   if (t == 0) = true then pure (.done (some (dn1 a b (o ++ (a.extract t i).reverse) t j), t, j, o ++ (a.extract t i).reverse, g, i - t, q))
   else hiF2 a b (o ++ (a.extract t i).reverse) t j g (i - t) q
  else hiF2 a b o i j g (i - t) q
 | _ => pure (.done (some (dn1 a b o i j), i, j, o, g, p, q))
section
variable {prog : Program} {w : World} {A : Around} {E : Value → Shared → Prop} {s : Shared} {O : KeyOrd} {key : Value → O.α} {κ : SortKind} {a₀ : Array Keyed}
noncomputable def ge (key : Value → O.α) (x y : Keyed) : Prop := le key y x
noncomputable def bk (a : Array Keyed) (i : Nat) : List Keyed := (a.toList.take i).reverse
theorem bk_succ {a : Array Keyed} {i : Nat} (h : i < a.size) : bk a (i + 1) = a[i] :: bk a i := by
 unfold bk
 have h' : i < a.toList.length := by simpa using h
 rw [List.take_succ_eq_append_getElem h', List.reverse_append, Array.getElem_toList]; rfl
theorem bk_pred {a : Array Keyed} {i : Nat} (h0 : 0 < i) (h : i ≤ a.size) : bk a i = a[i - 1]'(by omega) :: bk a (i - 1) := by
 have := bk_succ (a := a) (i := i - 1) (by omega)
 rwa [show i - 1 + 1 = i by omega] at this
theorem bk_part {a : Array Keyed} {t i : Nat} (h : t ≤ i) : bk a i = ((a.toList.take i).drop t).reverse ++ bk a t := by
 unfold bk
 have e : a.toList.take t = (a.toList.take i).take t := by rw [List.take_take, Nat.min_eq_left h]
 rw [e, ← List.reverse_append, List.take_append_drop]
theorem kP (a : Array Keyed) (i : Nat) : (a.extract 0 i).toList = a.toList.take i := by
 rw [Array.toList_extract, List.extract_eq_drop_take, List.drop_zero, Nat.sub_zero]
theorem ex_mid (a : Array Keyed) (t i : Nat) : ((a.extract t i).reverse).toList = ((a.toList.take i).drop t).reverse := by
 rw [Array.toList_reverse, Array.toList_extract, List.extract_eq_drop_take, List.drop_take]
theorem MR.back {L l : List Keyed} (h : MR (ge key) L l) : MR (le key) L l.reverse := ⟨(List.reverse_perm l).trans h.1, List.pairwise_reverse.mpr h.2⟩
variable {st0 st : SortSt} {a b o : Array Keyed} {i j g p q x : Nat} {Q : ForInStep HS → SortSt → Prop}
noncomputable abbrev MH (key : Value → O.α) (a b o : Array Keyed) (i j : Nat) : Prop := MI (ge key) (a.toList ++ b.toList) o.toList (bk b j) (bk a i)
theorem dn1_list : (dn1 a b o i j).toList = a.toList.take i ++ b.toList.take j ++ o.toList.reverse := by
 show (a.extract 0 i ++ b.extract 0 j ++ o.reverse).toList = _
 rw [Array.toList_append, Array.toList_append, kP, kP, Array.toList_reverse]
theorem fin1 (m : MH key a b o i j) (e : i = 0) : MR (le key) (a.toList ++ b.toList) (dn1 a b o i j).toList := by
 subst e
 rw [dn1_list]
 have := (MI.end1 m).back
 rw [List.reverse_append] at this
 unfold bk at this
 rw [List.reverse_reverse] at this
 exact this
theorem fin2 (m : MH key a b o i j) (e : j = 0) : MR (le key) (a.toList ++ b.toList) (dn1 a b o i j).toList := by
 subst e
 rw [dn1_list]
 have := (MI.end2 m).back
 rw [List.reverse_append] at this
 unfold bk at this
 rw [List.reverse_reverse] at this
 rw [List.take_zero, List.append_nil]
 exact this
theorem fin3 (b1 : 1 ≤ b.size) (m : MH key a b o i j) (e : j = 1) : MR (le key) (a.toList ++ b.toList) (dn3 a b o i j).toList := by
 subst e
 have e1 : bk b 1 = [b[0]'(by omega)] := bk_succ (by omega)
 have e2 : b.toList.take 1 = [b[0]'(by omega)] := by
  have := congrArg List.reverse e1
  unfold bk at this
  rwa [List.reverse_reverse] at this
 show MR (le key) _ (b.extract 0 1 ++ a.extract 0 i ++ o.reverse).toList
 rw [Array.toList_append, Array.toList_append, kP, kP, Array.toList_reverse, e2]
 unfold MH at m
 rw [e1] at m
 have := (MI.end3 m).back
 rw [List.reverse_append, List.reverse_append] at this
 unfold bk at this
 rw [List.reverse_reverse] at this
 rw [List.append_assoc]
 exact this
theorem takeA (h0 : 0 < i) (h : i ≤ a.size) (m : MH key a b o i j) (hle : ∀ y ∈ bk b j, le key y (a[i - 1]'(by omega))) : MH key a b (o.push (a[i - 1]'(by omega))) (i - 1) j := by
 unfold MH at m ⊢
 rw [Array.toList_push]
 rw [bk_pred h0 h] at m
 exact MI.runB (X := [a[i - 1]'(by omega)]) m fun x hx => by rw [List.mem_singleton.mp hx]; exact hle
theorem takeB (h0 : 0 < j) (h : j ≤ b.size) (m : MH key a b o i j) (hle : ∀ y ∈ bk a i, le key y (b[j - 1]'(by omega))) : MH key a b (o.push (b[j - 1]'(by omega))) i (j - 1) := by
 unfold MH at m ⊢
 rw [Array.toList_push]
 rw [bk_pred h0 h] at m
 exact MI.runA (X := [b[j - 1]'(by omega)]) m fun x hx => by rw [List.mem_singleton.mp hx]; exact hle
theorem bk_top (h0 : 0 < i) (h : i ≤ a.size) (so : (bk a i).Pairwise (ge key)) : ∀ y ∈ bk a i, le key y (a[i - 1]'(by omega)) := fun y hy => by
 rw [bk_pred h0 h] at so hy
 rcases List.mem_cons.mp hy with rfl | hy
 ·exact le.refl
 ·exact (List.pairwise_cons.mp so).1 y hy
theorem bk_up (so : (bk a i).Pairwise (ge key)) : (a.toList.take i).Pairwise (le key) := by
 unfold bk at so
 exact List.pairwise_reverse.mp so
theorem take_at (l : Array Keyed) (n t : Nat) (h : t < n) : l[0 + t]? = (l.toList.take n)[t]? := by rw [Nat.zero_add, List.getElem?_take_of_lt h, Array.getElem?_toList]
theorem take_len {l : Array Keyed} {n : Nat} (h : n ≤ l.size) : (l.toList.take n).length = n := by rw [List.length_take, Array.length_toList, Nat.min_eq_left h]
noncomputable abbrev HDh (st0 : SortSt) (key : Value → O.α) (a b : Array Keyed) (Q : ForInStep HS → SortSt → Prop) : Prop := ∀ r z st1, Gq st0 st1 → MR (le key) (a.toList ++ b.toList) r.toList → Q (.done (some r, z)) st1
noncomputable abbrev HNh (st0 : SortSt) (key : Value → O.α) (a b : Array Keyed) (x : Nat) (Q : ForInStep HS → SortSt → Prop) : Prop := ∀ o i j g p q st1, Gq st0 st1 → MH key a b o i j → 0 < i → i ≤ a.size → 1 < j → j ≤ b.size → x + 1 + i + j ≤ a.size + b.size →
 Q (.done (none, i, j, o, g, p, q)) st1 ∧ Q (.yield (none, i, j, o, g, p, q)) st1
theorem s_H3 (G : Gq st0 st) (m : MH key a b o i j) (i0 : 0 < i) (i1 : i ≤ a.size) (j0 : 1 < j) (j1 : j ≤ b.size) (h3 : x + i + j ≤ a.size + b.size) (hle : ∀ y ∈ bk b j, le key y (a[i - 1]'(by omega)))
  (hd : HDh st0 key a b Q) (hn : HNh st0 key a b x Q) : wpS (model prog w) A E s (hiF3 a b o i j g p q) Q st := by
 unfold hiF3
 refine wpS_bind (zB (getElem?_pos a (i - 1) (by omega)) ?_)
 have m2 := takeA i0 i1 m hle
 by_cases e : i - 1 = 0
 ·rw [if_pos (by simp [e])]
  exact wpS_pure (hd _ _ _ G (fin1 m2 e))
 ·rw [if_neg (by simpa using e)]
  split
  ·exact wpS_pure (hn _ _ _ _ _ _ _ G m2 (by omega) (by omega) j0 j1 (by omega)).1
  ·exact wpS_pure (hn _ _ _ _ _ _ _ G m2 (by omega) (by omega) j0 j1 (by omega)).2
theorem s_H2 (K : AskS prog w A s key κ a₀) (G : Gq st0 st) (hk : kindOf st0 = κ) (ha : ∀ x ∈ a.toList, x ∈ a₀.toList) (hb : ∀ x ∈ b.toList, x ∈ a₀.toList)
  (m : MH key a b o i j) (i0 : 0 < i) (i1 : i ≤ a.size) (j0 : 1 < j) (j1 : j ≤ b.size) (h3 : x + 1 + i + j ≤ a.size + b.size) (hle : ∀ y ∈ bk a i, le key y (b[j - 1]'(by omega)))
  (hd : HDh st0 key a b Q) (hn : HNh st0 key a b x Q) : wpS (model prog w) A E s (hiF2 a b o i j g p q) Q st := by
 unfold hiF2
 refine wpS_bind (zB (getElem?_pos b (j - 1) (by omega)) ?_)
 have m2 := takeB (by omega) j1 m hle
 by_cases e : j - 1 = 1
 ·rw [if_pos (by simp [e])]
  exact wpS_pure (hd _ _ _ G (fin3 (by omega) m2 e))
 rw [if_neg (by simpa using e)]
 refine wpS_bind (zB (getElem?_pos a (i - 1) (by omega)) ?_)
 refine wpS_bind (s_galL K (G.kind.trans hk) (ha _ (jO (by omega))) (fun y hy => hb y (List.mem_of_mem_take hy)) (take_len (by omega)) (fun t ht => take_at b (j - 1) t ht) (bk_up m2.sA) (by omega) fun t tn tk dk => ?_)
 have m3 : MH key a b (o.push (b[j - 1]'(by omega)) ++ (b.extract t (j - 1)).reverse) i t := by
  unfold MH
  rw [Array.toList_append, ex_mid]
  refine MI.runA (by rw [← bk_part tn]; exact m2) fun x hx y hy => ?_
  exact le.trans (bk_top i0 i1 m.sB y hy) (dk x (List.mem_reverse.mp hx))
 have lt : ∀ y ∈ bk b t, le key y (a[i - 1]'(by omega)) := fun y hy => by
  refine KeyOrd.kle_of_klt (tk y ?_)
  rw [List.take_take, Nat.min_eq_left tn]
  exact List.mem_reverse.mp hy
 dsimp only
 by_cases k0 : j - 1 - t > 0
 ·rw [if_pos k0]
  by_cases e2 : t = 1
  ·rw [if_pos (by simp [e2])]
   exact wpS_pure (hd _ _ _ G (fin3 (by omega) m3 e2))
  rw [if_neg (by simpa using e2)]
  by_cases e3 : t = 0
  ·rw [if_pos (by simp [e3])]
   exact wpS_pure (hd _ _ _ G (fin2 m3 e3))
  rw [if_neg (by simpa using e3)]
  exact s_H3 G m3 i0 i1 (by omega) (by omega) (x := x) (by omega) lt hd hn
 ·rw [if_neg k0]
  have : t = j - 1 := by omega
  subst this
  exact s_H3 G m2 i0 i1 (by omega) (by omega) (x := x) (by omega) lt hd hn
theorem s_H1 (K : AskS prog w A s key κ a₀) (G : Gq st0 st) (hk : kindOf st0 = κ) (ha : ∀ x ∈ a.toList, x ∈ a₀.toList) (hb : ∀ x ∈ b.toList, x ∈ a₀.toList)
  (m : MH key a b o i j) (i0 : 0 < i) (i1 : i ≤ a.size) (j0 : 1 < j) (j1 : j ≤ b.size) (h3 : x + 1 + i + j ≤ a.size + b.size)
  (hd : HDh st0 key a b Q) (hn : HNh st0 key a b x Q) : wpS (model prog w) A E s (hiF1 a b o i j g p q) Q st := by
 unfold hiF1
 refine wpS_bind (s_set ?_)
 have G1 := G.set g
 refine wpS_bind (zB (getElem?_pos b (j - 1) (by omega)) ?_)
 refine wpS_bind (s_galR K (G1.kind.trans hk) (hb _ (jO (by omega))) (fun y hy => ha y (List.mem_of_mem_take hy)) (take_len i1) (fun t ht => take_at a i t ht) (bk_up m.sB) (by omega) fun t tn tk dk => ?_)
 have m2 : MH key a b (o ++ (a.extract t i).reverse) t j := by
  unfold MH
  rw [Array.toList_append, ex_mid]
  refine MI.runB (by rw [← bk_part tn]; exact m) fun x hx y hy => ?_
  exact le.trans (bk_top (by omega) j1 m.sA y hy) (KeyOrd.kle_of_klt (dk x (List.mem_reverse.mp hx)))
 have lt : ∀ y ∈ bk a t, le key y (b[j - 1]'(by omega)) := fun y hy => by
  refine tk y ?_
  rw [List.take_take, Nat.min_eq_left tn]
  exact List.mem_reverse.mp hy
 dsimp only
 by_cases k0 : i - t > 0
 ·rw [if_pos k0]
  by_cases e : t = 0
  ·rw [if_pos (by simp [e])]
   exact wpS_pure (hd _ _ _ G1 (fin1 m2 e))
  rw [if_neg (by simpa using e)]
  exact s_H2 K G1 hk ha hb m2 (by omega) (by omega) j0 j1 (by omega) lt hd hn
 ·rw [if_neg k0]
  have : t = i := by omega
  subst this
  exact s_H2 K G1 hk ha hb m i0 i1 j0 j1 h3 lt hd hn
theorem s_mhi (K : AskS prog w A s key κ a₀) {st : SortSt} {a b : Array Keyed} {Q : Array Keyed → SortSt → Prop} (hk : kindOf st = κ) (ha : ∀ x ∈ a.toList, x ∈ a₀.toList) (hb : ∀ x ∈ b.toList, x ∈ a₀.toList)
  (a1 : 1 ≤ a.size) (b1 : 1 ≤ b.size) (m : MH key a b #[] a.size b.size) (last : ∀ y ∈ bk b b.size, le key y (a[a.size - 1]'(by omega)))
  (h : ∀ out st', Gq st st' → MR (le key) (a.toList ++ b.toList) out.toList → Q out st') : wpS (model prog w) A E s (mhi' a b) Q st := by
 rw [mhi_eq]
 refine wpS_bind (wpS_lift (wpAny_rule ⟨rfl, ?_⟩))
 refine wpS_bind (zB (getElem?_pos a (a.size - 1) (by omega)) ?_)
 have m1 := takeA (by omega) (Nat.le_refl _) m last
 rw [show (#[] : Array Keyed).push (a[a.size - 1]'(by omega)) = #[a[a.size - 1]'(by omega)] from rfl] at m1
 by_cases c1 : a.size - 1 = 0
 ·rw [if_pos (by simp [c1])]
  exact wpS_pure (h _ _ Gq.refl (fin1 m1 c1))
 rw [if_neg (by simpa using c1)]
 by_cases c2 : b.size = 1
 ·rw [if_pos (by simp [c2])]
  exact wpS_pure (h _ _ Gq.refl (fin3 b1 m1 c2))
 rw [if_neg (by simpa using c2)]
 refine wpS_bind (wpS_get ?_)
 refine wpS_bind (wpS_mono (wpS_forRange (I := fun x c st' => ∃ i j o g, c = (none, i, j, o, g) ∧ Gq st st' ∧ MH key a b o i j ∧ 0 < i ∧ i ≤ a.size ∧ 1 < j ∧ j ≤ b.size ∧ x + i + j ≤ a.size + b.size)
  (Q := fun c st' => ∃ r i j o g, c = (some r, i, j, o, g) ∧ Gq st st' ∧ MR (le key) (a.toList ++ b.toList) r.toList) ?step ?fin ⟨_, _, _, _, rfl, Gq.refl, m1, by omega, by omega, by omega, by omega, by omega⟩) ?post)
 case post =>
  rintro c st' ⟨r, i, j, o, g, rfl, G, mr⟩
  exact wpS_pure (h r st' G mr)
 case fin =>
  rintro c st' ⟨i, j, o, g, rfl, G, mi, h1, h2, h3, h4, h5⟩
  omega
 case step =>
  rintro x c st' _ xl ⟨i, j, o, g, rfl, G, mi, h1, h2, h3, h4, h5⟩
  dsimp only
  refine wpS_bind (wpS_mono (wpS_forRange (I := fun y c st' => ∃ i j o p q, c = (none, i, j, o, p, q) ∧ Gq st st' ∧ MH key a b o i j ∧ 0 < i ∧ i ≤ a.size ∧ 1 < j ∧ j ≤ b.size ∧ x + min y 1 + i + j ≤ a.size + b.size)
   (Q := fun c st' => (∃ r i j o p q, c = (some r, i, j, o, p, q) ∧ Gq st st' ∧ MR (le key) (a.toList ++ b.toList) r.toList) ∨
    (∃ i j o p q, c = (none, i, j, o, p, q) ∧ Gq st st' ∧ MH key a b o i j ∧ 0 < i ∧ i ≤ a.size ∧ 1 < j ∧ j ≤ b.size ∧ x + 1 + i + j ≤ a.size + b.size)) ?step1 ?fin1 ⟨i, j, o, 0, 0, rfl, G, mi, h1, h2, h3, h4, by omega⟩) ?post1)
  case fin1 =>
   rintro c st' ⟨i, j, o, p, q, rfl, G, mi, h1, h2, h3, h4, h5⟩
   exact .inr ⟨i, j, o, p, q, rfl, G, mi, h1, h2, h3, h4, by omega⟩
  case step1 =>
   rintro y c st' _ yl ⟨i, j, o, p, q, rfl, G, mi, h1, h2, h3, h4, h5⟩
   dsimp only
   have ej : b[j - 1]? = some (b[j - 1]'(by omega)) := getElem?_pos b (j - 1) (by omega)
   have ei : a[i - 1]? = some (a[i - 1]'(by omega)) := getElem?_pos a (i - 1) (by omega)
   refine wpS_bind (zB ej (wpS_bind (zB ei ?_)))
   refine wpS_bind (s_lt K (G.kind.trans hk) (hb _ (jO (by omega))) (ha _ (jO (by omega))) ?_)
   dsimp only
   cases c : O.blt (key (b[j - 1]'(by omega)).1) (key (a[i - 1]'(by omega)).1) with
   | true =>
    simp only [if_true]
    refine wpS_bind (zB ei ?_)
    have m2 := takeA h1 h2 mi fun y hy => le.trans (bk_top (by omega) h4 mi.sA y hy) (KeyOrd.kle_of_klt c)
    by_cases e : i - 1 = 0
    ·rw [if_pos (by simp [e])]
     exact wpS_pure (.inl ⟨_, _, _, _, _, _, rfl, G, fin1 m2 e⟩)
    ·rw [if_neg (by simpa using e)]
     split
     ·exact wpS_pure (.inr ⟨_, _, _, _, _, rfl, G, m2, by omega, by omega, h3, h4, by omega⟩)
     ·exact wpS_pure ⟨_, _, _, _, _, rfl, G, m2, by omega, by omega, h3, h4, by omega⟩
   | false =>
    simp only [Bool.false_eq_true, if_false]
    refine wpS_bind (zB ej ?_)
    have m2 := takeB (by omega) h4 mi fun y hy => le.trans (bk_top h1 h2 mi.sB y hy) (show le key _ _ from c)
    by_cases e : j - 1 = 1
    ·rw [if_pos (by simp [e])]
     exact wpS_pure (.inl ⟨_, _, _, _, _, _, rfl, G, fin3 b1 m2 e⟩)
    ·rw [if_neg (by simpa using e)]
     split
     ·exact wpS_pure (.inr ⟨_, _, _, _, _, rfl, G, m2, h1, h2, by omega, by omega, by omega⟩)
     ·exact wpS_pure ⟨_, _, _, _, _, rfl, G, m2, h1, h2, by omega, by omega, by omega⟩
  case post1 =>
   rintro c st' (⟨r, i, j, o, p, q, rfl, G, mr⟩ | ⟨i, j, o, p, q, rfl, G, mi, h1, h2, h3, h4, h5⟩)
   ·exact wpS_pure ⟨r, _, _, _, _, rfl, G, mr⟩
   dsimp only
   refine wpS_bind (wpS_lift (wpAny_rule ⟨rfl, ?_⟩))
   refine wpS_bind (wpS_mono (wpS_forRange (I := fun y c st' => ∃ i j o g p q, c = (none, i, j, o, g, p, q) ∧ Gq st st' ∧ MH key a b o i j ∧ 0 < i ∧ i ≤ a.size ∧ 1 < j ∧ j ≤ b.size ∧ x + 1 + i + j ≤ a.size + b.size)
    (Q := fun c st' => (∃ r i j o g p q, c = (some r, i, j, o, g, p, q) ∧ Gq st st' ∧ MR (le key) (a.toList ++ b.toList) r.toList) ∨
     (∃ i j o g p q, c = (none, i, j, o, g, p, q) ∧ Gq st st' ∧ MH key a b o i j ∧ 0 < i ∧ i ≤ a.size ∧ 1 < j ∧ j ≤ b.size ∧ x + 1 + i + j ≤ a.size + b.size)) ?step2 ?fin2 ⟨i, j, o, _, p, q, rfl, G, mi, h1, h2, h3, h4, h5⟩) ?post2)
   case fin2 =>
    rintro c st' ⟨i, j, o, g, p, q, rfl, G, mi, h1, h2, h3, h4, h5⟩
    exact .inr ⟨i, j, o, g, p, q, rfl, G, mi, h1, h2, h3, h4, h5⟩
   case post2 =>
    rintro c st' (⟨r, i, j, o, g, p, q, rfl, G, mr⟩ | ⟨i, j, o, g, p, q, rfl, G, mi, h1, h2, h3, h4, h5⟩)
    ·exact wpS_pure ⟨r, _, _, _, _, rfl, G, mr⟩
    ·dsimp only
     exact wpS_bind (s_set (wpS_pure ⟨i, j, o, _, rfl, G.set _, mi, h1, h2, h3, h4, by omega⟩))
   case step2 =>
    rintro y c st' _ yl ⟨i, j, o, g0, p, q, rfl, G, mi, h1, h2, h3, h4, h5⟩
    dsimp only
    by_cases g1 : g0 > 1
    ·rw [if_pos g1]
     exact s_H1 K G hk ha hb mi h1 h2 h3 h4 h5 (fun r z st1 G1 mr => .inl ⟨r, _, _, _, _, _, _, rfl, G1, mr⟩) fun o i j g p q st1 G1 m1 u1 u2 u3 u4 u5 => ⟨.inr ⟨_, _, _, _, _, _, rfl, G1, m1, u1, u2, u3, u4, u5⟩, ⟨_, _, _, _, _, _, rfl, G1, m1, u1, u2, u3, u4, u5⟩⟩
    ·rw [if_neg g1]
     exact s_H1 K G hk ha hb mi h1 h2 h3 h4 h5 (fun r z st1 G1 mr => .inl ⟨r, _, _, _, _, _, _, rfl, G1, mr⟩) fun o i j g p q st1 G1 m1 u1 u2 u3 u4 u5 => ⟨.inr ⟨_, _, _, _, _, _, rfl, G1, m1, u1, u2, u3, u4, u5⟩, ⟨_, _, _, _, _, _, rfl, G1, m1, u1, u2, u3, u4, u5⟩⟩
end
end TM

namespace TM
open PySem PyProof.Rows
noncomputable def mat2 (st : SortSt) (sa na sb nb : Nat) (t : Nat) (xa yb : Array Keyed) : StateT SortSt Sem Bool := do
 let merged ← if na ≤ t then mlo' xa yb else mhi' xa yb
 modify fun st => setArr st (merged.toList.zipIdx.foldl (fun a (p, j) => a.setIfInBounds (sa + j) p) (arrOf st))
 return (failedOf (← get)).isNone
theorem mat_eq (i : Nat) : mergeAt' i = (do
  let st ← get
  match ((pendingOf st)[i]?, (pendingOf st)[i + 1]?) with
  | (some (sa, na, pw), some (sb, nb, _)) =>
   set (setPending st (((pendingOf st).setIfInBounds i (sa, na + nb, pw)).eraseIdxIfInBounds (i + 1)))
   let some k ← gal' false (← elem' (arrOf st) sb) (arrOf st) sa na 0 | return false
   if na - k == 0 then return true
   let some t ← gal' true (← elem' (arrOf st) (sa + k + (na - k) - 1)) (arrOf st) sb nb (nb - 1) | return false
   if t == 0 then return true
   mat2 st (sa + k) (na - k) sb nb t ((arrOf st).extract (sa + k) sb) ((arrOf st).extract sb (sb + t))
  | _ => unsupported "internal:list.sort.pending") := by
 refine congrArg (bind get) (funext fun st => ?_)
 show (match ((pendingOf st)[i]?, (pendingOf st)[i + 1]?) with | (some (sa, na, pw), some (sb, nb, _)) => _ | _ => _) = _
 generalize (pendingOf st)[i]? = u
 generalize (pendingOf st)[i + 1]? = v
 cases u with
 | none => rfl
 | some u =>
  cases v with
  | none => rfl
  | some v =>
  obtain ⟨sa, na, pw⟩ := u
  obtain ⟨sb, nb, x⟩ := v
  unfold mat2
  refine congrArg (bind _) (funext fun _ => ?_)
  refine congrArg (bind _) (funext fun y => ?_)
  refine congrArg (bind _) (funext fun z => ?_)
  cases z with
  | none => rfl
  | some k =>
   dsimp only
   split
   ·rfl
   ·refine congrArg (bind _) (funext fun y2 => ?_)
    refine congrArg (bind _) (funext fun z2 => ?_)
    cases z2 with
    | none => rfl
    | some t =>
     dsimp only
     split
     ·rfl
     ·split
      ·rfl
      ·rfl
section
variable {prog : Program} {w : World} {A : Around} {E : Value → Shared → Prop} {s : Shared} {O : KeyOrd} {key : Value → O.α} {κ : SortKind} {a₀ : Array Keyed}
noncomputable def seg (xs : Array Keyed) (c n : Nat) : List Keyed := (xs.toList.drop c).take n
theorem seg_len {xs : Array Keyed} {c n : Nat} (h : c + n ≤ xs.size) : (seg xs c n).length = n := by unfold seg; rw [List.length_take, List.length_drop, Array.length_toList]; omega
theorem seg_at {xs : Array Keyed} {c n i : Nat} (h : i < n) : xs[c + i]? = (seg xs c n)[i]? := by unfold seg; rw [List.getElem?_take_of_lt h, List.getElem?_drop, Array.getElem?_toList]
theorem seg_mem {xs : Array Keyed} {c n : Nat} {x : Keyed} (h : x ∈ seg xs c n) : x ∈ xs.toList := List.mem_of_mem_drop (List.mem_of_mem_take h)
theorem seg_add (xs : Array Keyed) (c n m : Nat) : seg xs c (n + m) = seg xs c n ++ seg xs (c + n) m := by
 unfold seg
 rw [List.take_add, List.drop_drop]
theorem seg_front {xs ys : Array Keyed} {m c n : Nat} (e : xs.toList.take m = ys.toList.take m) (h : c + n ≤ m) : seg xs c n = seg ys c n := by
 have f : ∀ l : List Keyed, (l.drop c).take n = ((l.take m).drop c).take n := fun l => by
  rw [List.drop_take, List.take_take, Nat.min_eq_left (by omega)]
 unfold seg
 rw [f, f ys.toList, e]
theorem seg_back {xs ys : Array Keyed} {m c n : Nat} (e : xs.toList.drop m = ys.toList.drop m) (h : m ≤ c) : seg xs c n = seg ys c n := by
 have f : ∀ l : List Keyed, l.drop c = (l.drop m).drop (c - m) := fun l => by rw [List.drop_drop]; congr 1; omega
 unfold seg
 rw [f, f ys.toList, e]
noncomputable def Cov (key : Value → O.α) (xs : Array Keyed) : List (Nat × Nat × Nat) → Nat → Nat → Prop
 | [], c, d => c = d
 | (s, n, _) :: r, c, d => s = c ∧ 1 ≤ n ∧ (seg xs s n).Pairwise (le key) ∧ Cov key xs r (s + n) d
theorem Cov.le {xs : Array Keyed} : ∀ {r : List (Nat × Nat × Nat)} {c d : Nat}, Cov key xs r c d → c + r.length ≤ d
 | [], c, d, h => by cases h; exact Nat.le_refl _
 | (s, n, _) :: r, c, d, h => by
  obtain ⟨rfl, h1, _, h2⟩ := h
  have := Cov.le h2
  rw [List.length_cons]; omega
theorem Cov.split {xs : Array Keyed} {r : List (Nat × Nat × Nat)} : ∀ {q : List (Nat × Nat × Nat)} {c d : Nat}, Cov key xs (q ++ r) c d → ∃ m, Cov key xs q c m ∧ Cov key xs r m d
 | [], c, d, h => ⟨c, rfl, h⟩
 | (s, n, p) :: q, c, d, h => by
  obtain ⟨rfl, h1, h2, h3⟩ := h
  obtain ⟨m, a, b⟩ := Cov.split h3
  exact ⟨m, ⟨rfl, h1, h2, a⟩, b⟩
theorem Cov.join {xs : Array Keyed} {r : List (Nat × Nat × Nat)} : ∀ {q : List (Nat × Nat × Nat)} {c m d : Nat}, Cov key xs q c m → Cov key xs r m d → Cov key xs (q ++ r) c d
 | [], c, m, d, h, k => by cases h; exact k
 | (s, n, p) :: q, c, m, d, h, k => by
  obtain ⟨rfl, h1, h2, h3⟩ := h
  exact ⟨rfl, h1, h2, Cov.join h3 k⟩
theorem Cov.front {xs ys : Array Keyed} {m : Nat} (e : xs.toList.take m = ys.toList.take m) : ∀ {r : List (Nat × Nat × Nat)} {c d : Nat}, d ≤ m → Cov key xs r c d → Cov key ys r c d
 | [], c, d, _, h => h
 | (s, n, p) :: r, c, d, hd, h => by
  obtain ⟨rfl, h1, h2, h3⟩ := h
  have := h3.le
  exact ⟨rfl, h1, by rw [← seg_front e (by omega)]; exact h2, Cov.front e hd h3⟩
theorem Cov.back {xs ys : Array Keyed} {m : Nat} (e : xs.toList.drop m = ys.toList.drop m) : ∀ {r : List (Nat × Nat × Nat)} {c d : Nat}, m ≤ c → Cov key xs r c d → Cov key ys r c d
 | [], c, d, _, h => h
 | (s, n, p) :: r, c, d, hd, h => by
  obtain ⟨rfl, h1, h2, h3⟩ := h
  exact ⟨rfl, h1, by rw [← seg_back e hd]; exact h2, Cov.back e (by omega) h3⟩
theorem put_list (c : Nat) : ∀ (l : List Keyed) (t : Nat) (xs : Array Keyed) (X M Y : List Keyed), xs.toList = X ++ M ++ Y → X.length = c + t → M.length = l.length →
  ((l.zipIdx t).foldl (fun a (x : Keyed × Nat) => match x with | (p, j) => a.setIfInBounds (c + j) p) xs).toList = X ++ l ++ Y
 | [], t, xs, X, M, Y, e, _, hm => by
  have : M = [] := List.length_eq_zero_iff.mp hm
  subst this; exact e
 | p :: l, t, xs, X, [], Y, _, _, hm => by cases hm
 | p :: l, t, xs, X, m :: M, Y, e, hx, hm => by
  rw [List.zipIdx_cons, List.foldl_cons]
  have e2 : (xs.setIfInBounds (c + t) p).toList = (X ++ [p]) ++ M ++ Y := by
   rw [Array.toList_setIfInBounds, e, List.append_assoc, List.set_append_right _ _ (by omega), ← hx, Nat.sub_self]
   simp
  have := put_list c l (t + 1) (xs.setIfInBounds (c + t) p) (X ++ [p]) M Y e2 (by rw [List.length_append]; show X.length + 1 = _; omega) (by simpa using hm)
  rw [this]
  simp
theorem pw_last {l : List Keyed} (so : l.Pairwise (le key)) (h : 0 < l.length) : ∀ y ∈ l, le key y (l[l.length - 1]'(by omega)) := fun y hy => by
 obtain ⟨i, hi, rfl⟩ := List.getElem_of_mem hy
 exact pw_get so (by omega) (by omega)
theorem s_mat (K : AskS prog w A s key κ a₀) {st : SortSt} {i d sa na pa sb nb pb : Nat} {pre post : List (Nat × Nat × Nat)} {Q : Bool → SortSt → Prop} (hB : SB κ a₀ st) (hp : (pendingOf st).toList = pre ++ (sa, na, pa) :: (sb, nb, pb) :: post) (hi : i = pre.length)
  (hc : Cov key (arrOf st) (pendingOf st).toList 0 d) (hd : d ≤ a₀.size)
  (h : ∀ st', SB κ a₀ st' → (pendingOf st').toList = pre ++ (sa, na + nb, pa) :: post → Cov key (arrOf st') (pendingOf st').toList 0 d → (arrOf st').toList.drop d = (arrOf st).toList.drop d → Q true st') : wpS (model prog w) A E s (mergeAt' i) Q st := by
 rw [mat_eq]
 refine wpS_bind (wpS_get ?_)
 have e1 : (pendingOf st)[i]? = some (sa, na, pa) := by
  rw [← Array.getElem?_toList, hp, hi, List.getElem?_append_right (Nat.le_refl _), Nat.sub_self]; rfl
 have e2 : (pendingOf st)[i + 1]? = some (sb, nb, pb) := by
  rw [← Array.getElem?_toList, hp, hi, List.getElem?_append_right (Nat.le_succ _), show pre.length.succ - pre.length = 1 by omega]; rfl
 rw [e1, e2]
 dsimp only
 rw [hp] at hc
 obtain ⟨c0, cp, ⟨rfl, n1, soA, rfl, n2, soB, cq⟩⟩ := hc.split
 have ld := cq.le
 generalize hst1 : setPending st (((pendingOf st).setIfInBounds i (sa, na + nb, pa)).eraseIdxIfInBounds (i + 1)) = st1
 have ep : (pendingOf st1).toList = pre ++ (sa, na + nb, pa) :: post := by
  rw [← hst1]
  show (((pendingOf st).setIfInBounds i (sa, na + nb, pa)).eraseIdxIfInBounds (i + 1)).toList = _
  rw [Array.toList_eraseIdxIfInBounds, Array.toList_setIfInBounds, hp, hi, List.set_append_right _ _ (Nat.le_refl _), Nat.sub_self, List.eraseIdx_append_of_length_le (Nat.le_succ _), show pre.length.succ - pre.length = 1 by omega]
  rfl
 have ea : arrOf st1 = arrOf st := by rw [← hst1]
 have B1 : SB κ a₀ st1 := ⟨by rw [ea]; exact hB.perm, by rw [← hst1]; exact hB.kind, by rw [← hst1]; exact hB.failed⟩
 refine wpS_bind (wpS_modify (f := fun _ => st1) ?_)
 have sz := hB.size
 obtain ⟨SA, eA⟩ : ∃ l, seg (arrOf st) sa na = l := ⟨_, rfl⟩
 obtain ⟨SB', eB⟩ : ∃ l, seg (arrOf st) (sa + na) nb = l := ⟨_, rfl⟩
 have lenA : SA.length = na := by rw [← eA]; exact seg_len (by omega)
 have lenB : SB'.length = nb := by rw [← eB]; exact seg_len (by omega)
 have atA : ∀ t, t < na → (arrOf st)[sa + t]? = SA[t]? := fun t ht => by rw [← eA]; exact seg_at ht
 have atB : ∀ t, t < nb → (arrOf st)[sa + na + t]? = SB'[t]? := fun t ht => by rw [← eB]; exact seg_at ht
 have x0 : (arrOf st)[sa + na]? = some (SB'[0]'(by omega)) := by
  have := atB 0 (by omega)
  rw [Nat.add_zero] at this
  rw [this]; exact List.getElem?_eq_getElem (by omega)
 have xl : (arrOf st)[sa + na - 1]? = some (SA[na - 1]'(by omega)) := by
  have := atA (na - 1) (by omega)
  rw [show sa + (na - 1) = sa + na - 1 by omega] at this
  rw [this]; exact List.getElem?_eq_getElem (by omega)
 have memA : ∀ y ∈ SA, y ∈ a₀.toList := fun y hy => hB.mem (seg_mem (by rw [eA]; exact hy))
 have memB : ∀ y ∈ SB', y ∈ a₀.toList := fun y hy => hB.mem (seg_mem (by rw [eB]; exact hy))
 have whole : (arrOf st).toList = (arrOf st).toList.take sa ++ (SA ++ SB') ++ (arrOf st).toList.drop (sa + na + nb) := by
  rw [← eA, ← eB, ← seg_add]
  unfold seg
  rw [List.append_assoc, show sa + na + nb = sa + (na + nb) by omega, ← List.drop_drop, List.take_append_drop, List.take_append_drop]
 rw [eA] at soA
 rw [eB] at soB
 refine wpS_bind (zB x0 ?_)
 have exA : ∀ k, k ≤ na → ((arrOf st).extract (sa + k) (sa + na)).toList = SA.drop k := fun k hk => by
  rw [← eA]
  unfold seg
  rw [Array.toList_extract, List.extract_eq_drop_take, List.drop_take, List.drop_drop]; congr 1; omega
 have exB : ∀ t, t ≤ nb → ((arrOf st).extract (sa + na) (sa + na + t)).toList = SB'.take t := fun t ht => by
  rw [← eB]
  unfold seg
  rw [Array.toList_extract, List.extract_eq_drop_take, List.take_take, Nat.min_eq_left ht, Nat.add_sub_cancel_left]
 have hx0 : SB'[0]'(by omega) ∈ SB' := List.getElem_mem _
 have hxl : SA[na - 1]'(by omega) ∈ SA := List.getElem_mem _
 have hB0 : ∀ z ∈ SB', le key (SB'[0]'(by omega)) z := fun z hz => by
  obtain ⟨j, hj, rfl⟩ := List.getElem_of_mem hz
  exact pw_get soB (Nat.zero_le _) hj
 refine wpS_bind (s_galR K B1.kind (memB _ hx0) memA lenA atA soA (by omega) fun k kn tk dk => ?_)
 dsimp only
 by_cases c1 : na - k = 0
 ·rw [if_pos (by simp [c1])]
  have kk : k = na := by omega
  subst kk
  rw [List.take_of_length_le (by omega)] at tk
  refine wpS_pure (h st1 B1 ep ?_ (by rw [ea]))
  rw [ep, ea]
  refine cp.join ⟨rfl, by omega, ?_, by rw [← Nat.add_assoc]; exact cq⟩
  rw [seg_add, eA, eB]
  exact List.pairwise_append.mpr ⟨soA, soB, fun x hx y hy => le.trans (tk x hx) (hB0 y hy)⟩
 rw [if_neg (by simpa using c1)]
 have xl' : (arrOf st)[sa + k + (na - k) - 1]? = some (SA[na - 1]'(by omega)) := by rw [show sa + k + (na - k) - 1 = sa + na - 1 by omega]; exact xl
 refine wpS_bind (zB xl' ?_)
 refine wpS_bind (s_galL K B1.kind (memA _ hxl) memB lenB atB soB (by omega) fun t tn tt dt => ?_)
 dsimp only
 have lastD : SA[na - 1]'(by omega) ∈ SA.drop k := by
  rw [List.mem_iff_getElem]
  refine ⟨na - 1 - k, by rw [List.length_drop]; omega, ?_⟩
  rw [List.getElem_drop]; congr 1; omega
 by_cases c2 : t = 0
 ·exfalso
  subst c2
  rw [List.drop_zero] at dt
  have q1 := dk _ lastD
  have q2 := dt _ hx0
  unfold KeyOrd.klt at q1
  unfold TM.le KeyOrd.kle at q2
  rw [q2] at q1; cases q1
 rw [if_neg (by simpa using c2)]
 unfold mat2
 have eX := exA k kn
 have eY := exB t tn
 have sX : ((arrOf st).extract (sa + k) (sa + na)).size = na - k := by rw [← Array.length_toList, eX, List.length_drop]; omega
 have sY : ((arrOf st).extract (sa + na) (sa + na + t)).size = t := by rw [← Array.length_toList, eY, List.length_take]; omega
 generalize (arrOf st).extract (sa + k) (sa + na) = XA at eX sX ⊢
 generalize (arrOf st).extract (sa + na) (sa + na + t) = YB at eY sY ⊢
 have soX : XA.toList.Pairwise (le key) := by rw [eX]; exact soA.sublist (List.drop_sublist _ _)
 have soY : YB.toList.Pairwise (le key) := by rw [eY]; exact soB.sublist (List.take_sublist _ _)
 have mX : ∀ x ∈ XA.toList, x ∈ a₀.toList := fun x hx => by rw [eX] at hx; exact memA x (List.mem_of_mem_drop hx)
 have mY : ∀ x ∈ YB.toList, x ∈ a₀.toList := fun x hx => by rw [eY] at hx; exact memB x (List.mem_of_mem_take hx)
 have fin : ∀ (out : Array Keyed) st', Gq st1 st' → MR (le key) (XA.toList ++ YB.toList) out.toList → wpS (model prog w) A E s (do
   modify fun st => setArr st (out.toList.zipIdx.foldl (fun a (p, j) => a.setIfInBounds (sa + k + j) p) (arrOf st))
   return (failedOf (← get)).isNone) Q st' := fun out st' G mr => by
  refine wpS_bind (wpS_modify (wpS_bind (wpS_get (wpS_pure ?_))))
  have ea' : arrOf st' = arrOf st := G.arr.trans ea
  have olen : out.toList.length = (SA.drop k ++ SB'.take t).length := by rw [mr.1.length_eq, eX, eY]
  have putd := put_list (sa + k) out.toList 0 (arrOf st') ((arrOf st).toList.take sa ++ SA.take k) (SA.drop k ++ SB'.take t) (SB'.drop t ++ (arrOf st).toList.drop (sa + na + nb)) (by
    rw [ea']
    refine whole.trans ?_
    simp only [List.append_assoc]
    congr 1
    rw [← List.append_assoc (SA.take k), List.take_append_drop, ← List.append_assoc (SB'.take t), List.take_append_drop])
   (by rw [List.length_append, List.length_take, List.length_take, Array.length_toList]; omega) olen.symm
  generalize hst2 : setArr st' (out.toList.zipIdx.foldl (fun a (x : Keyed × Nat) => match x with | (p, j) => a.setIfInBounds (sa + k + j) p) (arrOf st')) = st2
  have ea2 : (arrOf st2).toList = ((arrOf st).toList.take sa ++ SA.take k) ++ out.toList ++ (SB'.drop t ++ (arrOf st).toList.drop (sa + na + nb)) := by rw [← hst2]; exact putd
  have ff : failedOf st2 = none := by rw [← hst2]; exact G.fail.trans B1.failed
  have pp : (pendingOf st2).toList = pre ++ (sa, na + nb, pa) :: post := by rw [← hst2]; exact (congrArg Array.toList G.pend).trans ep
  have pm : (arrOf st2).Perm a₀ := by
   refine Array.Perm.trans ?_ hB.perm
   refine Array.perm_iff_toList_perm.mpr ?_
   rw [ea2]
   refine List.Perm.trans ?_ (List.Perm.of_eq whole.symm)
   have p1 : (SA.take k ++ (out.toList ++ SB'.drop t)).Perm (SA ++ SB') := by
    have : SA ++ SB' = SA.take k ++ ((SA.drop k ++ SB'.take t) ++ SB'.drop t) := by
     simp only [List.append_assoc]
     rw [List.take_append_drop, ← List.append_assoc, List.take_append_drop]
    rw [this]
    refine List.Perm.append_left _ (List.Perm.append_right _ ?_)
    have := mr.1
    rw [eX, eY] at this
    exact this
   simp only [List.append_assoc]
   refine List.Perm.append_left _ ?_
   rw [← List.append_assoc out.toList, ← List.append_assoc (SA.take k), ← List.append_assoc SA]
   exact List.Perm.append_right _ p1
  have B2 : SB κ a₀ st2 := ⟨pm, by rw [← hst2]; exact G.kind.trans B1.kind, ff⟩
  have lmid : (SA.take k ++ (out.toList ++ SB'.drop t)).length = na + nb := by
   rw [List.length_append, List.length_append, olen]
   simp only [List.length_append, List.length_take, List.length_drop]; omega
  have e3 : (arrOf st2).toList = (arrOf st).toList.take sa ++ (SA.take k ++ (out.toList ++ SB'.drop t)) ++ (arrOf st).toList.drop (sa + na + nb) := by
   rw [ea2]; simp only [List.append_assoc]
  have lsa : ((arrOf st).toList.take sa).length = sa := by rw [List.length_take, Array.length_toList]; omega
  have eseg : seg (arrOf st2) sa (na + nb) = SA.take k ++ (out.toList ++ SB'.drop t) := by
   unfold seg
   rw [e3, List.append_assoc, List.drop_left' lsa, List.take_left' lmid]
  have efr : (arrOf st).toList.take sa = (arrOf st2).toList.take sa := by
   refine Eq.symm ?_
   rw [e3, List.append_assoc]
   exact List.take_left' lsa
  have ebk : (arrOf st).toList.drop (sa + na + nb) = (arrOf st2).toList.drop (sa + na + nb) := by
   refine Eq.symm ?_
   rw [e3]
   exact List.drop_left' (by rw [List.length_append, lsa, lmid]; omega)
  rw [ff]
  refine h st2 B2 pp ?_ ?_
  ·rw [pp]
   refine (cp.front efr (Nat.le_refl _)).join ⟨rfl, by omega, ?_, ?_⟩
   ·rw [eseg]
    have inOut : ∀ y ∈ out.toList, y ∈ SA.drop k ∨ y ∈ SB'.take t := fun y hy => by
     have := mr.1.mem_iff.mp hy
     rw [eX, eY] at this
     exact List.mem_append.mp this
    have pA : ∀ x ∈ SA.take k, ∀ y ∈ SA.drop k, le key x y := by
     have := soA
     rw [← List.take_append_drop k SA] at this
     exact (List.pairwise_append.mp this).2.2
    have pB : ∀ x ∈ SB'.take t, ∀ y ∈ SB'.drop t, le key x y := by
     have := soB
     rw [← List.take_append_drop t SB'] at this
     exact (List.pairwise_append.mp this).2.2
    have lastA : ∀ x ∈ SA, le key x (SA[na - 1]'(by omega)) := fun x hx => by
     have := pw_last soA (by omega) x hx
     simpa only [lenA] using this
    refine List.pairwise_append.mpr ⟨soA.sublist (List.take_sublist _ _), List.pairwise_append.mpr ⟨mr.2, soB.sublist (List.drop_sublist _ _), fun x hx y hy => ?_⟩, fun x hx y hy => ?_⟩
    ·rcases inOut x hx with q | q
     ·exact le.trans (lastA x (List.mem_of_mem_drop q)) (dt y hy)
     ·exact pB x q y hy
    ·have toB : ∀ z ∈ SB', le key x z := fun z hz => le.trans (tk x hx) (hB0 z hz)
     rcases List.mem_append.mp hy with hy | hy
     ·rcases inOut y hy with q | q
      ·exact pA x hx y q
      ·exact toB y (List.mem_of_mem_take q)
     ·exact toB y (List.mem_of_mem_drop hy)
   ·rw [← Nat.add_assoc]
    exact cq.back ebk (Nat.le_refl _)
  ·have g : ∀ l : List Keyed, l.drop d = (l.drop (sa + na + nb)).drop (d - (sa + na + nb)) := fun l => by rw [List.drop_drop]; congr 1; omega
   rw [g, g (arrOf st).toList, ebk]
 have y0 : YB[0]'(by omega) = SB'[0]'(by omega) := by
  have : YB.toList[0]? = SB'[0]? := by rw [eY, List.getElem?_take_of_lt (by omega)]
  rw [Array.getElem?_toList, getElem?_pos YB 0 (by omega), List.getElem?_eq_getElem (by omega)] at this
  exact Option.some.inj this
 have xlast : XA[XA.size - 1]'(by omega) = SA[na - 1]'(by omega) := by
  have : XA.toList[XA.size - 1]? = SA[na - 1]? := by rw [eX, List.getElem?_drop, sX]; congr 1; omega
  rw [Array.getElem?_toList, getElem?_pos XA (XA.size - 1) (by omega), List.getElem?_eq_getElem (by omega)] at this
  exact Option.some.inj this
 have lastB : ∀ y ∈ YB.toList, le key y (SA[na - 1]'(by omega)) := fun y hy => by rw [eY] at hy; exact KeyOrd.kle_of_klt (tt y hy)
 have lowA : ∀ x ∈ XA.toList, le key (SB'[0]'(by omega)) x := fun x hx => by rw [eX] at hx; exact KeyOrd.kle_of_klt (dk x hx)
 dsimp only
 by_cases c3 : na - k ≤ t
 ·rw [if_pos c3]
  refine wpS_bind ?_
  refine s_mlo K B1.kind mX mY (by omega) (by omega) ⟨List.Perm.refl _, .nil, soX, soY, fun x hx => absurd hx (by simp), fun z hz y hy => ?_⟩ (by rw [y0]; exact lowA) fin
  have : XA.toList.getLast? = some (XA[XA.size - 1]'(by omega)) := by
   rw [List.getLast?_eq_getElem?, Array.length_toList, Array.getElem?_toList, getElem?_pos XA (XA.size - 1) (by omega)]
  rw [this] at hz
  cases hz
  rw [xlast]; exact lastB y hy
 ·rw [if_neg c3]
  refine wpS_bind ?_
  have bX : bk XA XA.size = XA.toList.reverse := by unfold bk; rw [List.take_of_length_le (by simp)]
  have bY : bk YB YB.size = YB.toList.reverse := by unfold bk; rw [List.take_of_length_le (by simp)]
  refine s_mhi K B1.kind mX mY (by omega) (by omega) ?_ ?_ fin
  ·unfold MH
   rw [bX, bY]
   refine ⟨?_, .nil, List.pairwise_reverse.mpr soY, List.pairwise_reverse.mpr soX, fun x hx => absurd hx (by simp), fun z hz y hy => ?_⟩
   ·show ([] ++ YB.toList.reverse ++ XA.toList.reverse).Perm _
    rw [List.nil_append]
    exact ((List.reverse_perm _).append (List.reverse_perm _)).trans List.perm_append_comm
   ·have : YB.toList.reverse.getLast? = some (YB[0]'(by omega)) := by
     rw [List.getLast?_reverse, List.head?_eq_getElem?, Array.getElem?_toList, getElem?_pos YB 0 (by omega)]
    rw [this] at hz
    cases hz
    rw [y0]
    exact lowA y (List.mem_reverse.mp hy)
  ·rw [bY]
   intro y hy
   rw [xlast]; exact lastB y (List.mem_reverse.mp hy)
end
end TM

namespace TM
open PySem PyProof.Rows
noncomputable def pushN (lo n : Nat) : StateT SortSt Sem (ForInStep (Option Unit × Nat)) := do
 modify fun st => setPending st ((pendingOf st).push (lo, n, 0))
 pure (.yield (none, lo + n))
noncomputable def pushR (N lo n : Nat) : StateT SortSt Sem (ForInStep (Option Unit × Nat)) := do
 let st ← get
 match (pendingOf st).back? with
 | some (s1, n1, _) =>
  let z ← forIn [0:N] ((none, ()) : Option Unit × Unit) fun _ _ => do
    let st ← get
    match (if (pendingOf st).size > 1 then (pendingOf st)[(pendingOf st).size - 2]? else none) with
    | some (_, _, pw0) =>
     if pw0 ≤ power' N (2 * s1 + n1) (2 * s1 + n1 + n1 + n) N then pure (.done (none, ())) else do
      let c ← mergeAt' ((pendingOf st).size - 2)
      if (!c) = true then pure (.done (some (), ())) else pure (.yield (none, ()))
    | _ => pure (.done (none, ()))
  match z.1 with
  | some r => pure (.done (some r, lo))
  | none => do
   modify fun st => setPending st ((pendingOf st).modify ((pendingOf st).size - 1) fun (a, b, _) => (a, b, power' N (2 * s1 + n1) (2 * s1 + n1 + n1 + n) N))
   pushN lo n
 | _ => pushN lo n
section
variable {prog : Program} {w : World} {A : Around} {E : Value → Shared → Prop} {s : Shared} {O : KeyOrd} {key : Value → O.α} {κ : SortKind} {a₀ : Array Keyed}
theorem up_seg {xs : Array Keyed} {lo n : Nat} (h : lo + n ≤ xs.size) (u : Up key xs lo n) : (seg xs lo n).Pairwise (le key) := by
 refine List.pairwise_iff_getElem.mpr fun i j hi hj hij => ?_
 have l := seg_len h
 have e1 := seg_at (xs := xs) (c := lo) (n := n) (i := i) (by omega)
 have e2 := seg_at (xs := xs) (c := lo) (n := n) (i := j) (by omega)
 rw [List.getElem?_eq_getElem hi] at e1
 rw [List.getElem?_eq_getElem hj] at e2
 have := u i j (by omega) (by omega)
 rw [ak_some e1, ak_some e2] at this
 exact this
theorem keep_take {xs ys : Array Keyed} {lo : Nat} (h : ∀ i, i < lo → ys[i]? = xs[i]?) : xs.toList.take lo = ys.toList.take lo := by
 refine List.ext_getElem? fun i => ?_
 rw [List.getElem?_take, List.getElem?_take]
 split
 ·rename_i hi
  rw [Array.getElem?_toList, Array.getElem?_toList, h i hi]
 ·rfl
theorem Cov.same {xs : Array Keyed} : ∀ {l l' : List (Nat × Nat × Nat)} {c d : Nat}, l.map (fun x => (x.1, x.2.1)) = l'.map (fun x => (x.1, x.2.1)) → Cov key xs l c d → Cov key xs l' c d
 | [], [], _, _, _, h => h
 | [], _ :: _, _, _, e, _ => by cases e
 | _ :: _, [], _, _, e, _ => by cases e
 | (s, n, p) :: l, (s', n', p') :: l', c, d, e, h => by
  simp only [List.map_cons, List.cons.injEq, Prod.mk.injEq] at e
  obtain ⟨⟨rfl, rfl⟩, e⟩ := e
  obtain ⟨rfl, h1, h2, h3⟩ := h
  exact ⟨rfl, h1, h2, Cov.same e h3⟩
theorem two_at {l : List (Nat × Nat × Nat)} {i : Nat} (h : i + 1 < l.length) : l = l.take i ++ l[i] :: l[i + 1] :: l.drop (i + 2) := by
 rw [List.getElem_cons_drop, List.getElem_cons_drop, List.take_append_drop]
theorem s_push (K : AskS prog w A s key κ a₀) {st : SortSt} {lo n : Nat} {Q : ForInStep (Option Unit × Nat) → SortSt → Prop} (hB : SB κ a₀ st) (hc : Cov key (arrOf st) (pendingOf st).toList 0 lo) (h1 : 1 ≤ n) (hn : lo + n ≤ a₀.size) (so : (seg (arrOf st) lo n).Pairwise (le key))
  (h : ∀ st', SB κ a₀ st' → Cov key (arrOf st') (pendingOf st').toList 0 (lo + n) → Q (.yield (none, lo + n)) st') : wpS (model prog w) A E s (pushR a₀.size lo n) Q st := by
 have fin : ∀ st', SB κ a₀ st' → Cov key (arrOf st') (pendingOf st').toList 0 lo → (arrOf st').toList.drop lo = (arrOf st).toList.drop lo → wpS (model prog w) A E s (pushN lo n) Q st' := fun st' B' c' e => by
  unfold pushN
  refine wpS_bind (wpS_modify (wpS_pure (h _ ⟨B'.perm, B'.kind, B'.failed⟩ ?_)))
  show Cov key (arrOf st') ((pendingOf st').push (lo, n, 0)).toList 0 (lo + n)
  rw [Array.toList_push]
  exact c'.join ⟨rfl, h1, by rw [seg_back e (Nat.le_refl _)]; exact so, rfl⟩
 unfold pushR
 refine wpS_bind (wpS_get ?_)
 split
 ·rename_i s1 n1 p1 eb
  refine wpS_bind (wpS_mono (wpS_forRange (I := fun _ c st' => c = (none, ()) ∧ SB κ a₀ st' ∧ Cov key (arrOf st') (pendingOf st').toList 0 lo ∧ (arrOf st').toList.drop lo = (arrOf st).toList.drop lo)
   (Q := fun c st' => c = (none, ()) ∧ SB κ a₀ st' ∧ Cov key (arrOf st') (pendingOf st').toList 0 lo ∧ (arrOf st').toList.drop lo = (arrOf st).toList.drop lo) ?step (fun _ _ z => z) ⟨rfl, hB, hc, rfl⟩) ?post)
  case post =>
   rintro c st' ⟨rfl, B', c', e'⟩
   dsimp only
   refine wpS_bind (wpS_modify (fin _ ⟨B'.perm, B'.kind, B'.failed⟩ ?_ e'))
   refine c'.same ?_
   show _ = ((pendingOf st').modify _ _).toList.map _
   refine List.ext_getElem? fun i => ?_
   rw [List.getElem?_map, List.getElem?_map, Array.toList_modify, List.getElem?_modify]
   split
   ·cases (pendingOf st').toList[i]? <;> rfl
   ·simp
  case step =>
   rintro x c st' _ _ ⟨rfl, B', c', e'⟩
   refine wpS_bind (wpS_get ?_)
   by_cases big : (pendingOf st').size > 1
   ·rw [if_pos big]
    have lt : (pendingOf st').size - 2 < (pendingOf st').size := by omega
    rw [getElem?_pos (pendingOf st') _ lt]
    generalize hx : (pendingOf st')[(pendingOf st').size - 2] = x2
    obtain ⟨a1, a2, a3⟩ := x2
    dsimp only
    split
    ·exact wpS_pure ⟨rfl, B', c', e'⟩
    ·have len : (pendingOf st').toList.length = (pendingOf st').size := Array.length_toList
     have tw := two_at (l := (pendingOf st').toList) (i := (pendingOf st').size - 2) (by omega)
     generalize hA : (pendingOf st').toList[(pendingOf st').size - 2]'(by omega) = ra at tw
     generalize hB2 : (pendingOf st').toList[(pendingOf st').size - 2 + 1]'(by omega) = rb at tw
     obtain ⟨b1, b2, b3⟩ := ra
     obtain ⟨d1, d2, d3⟩ := rb
     refine wpS_bind (s_mat K B' tw (by rw [List.length_take, len]; omega) c' (by omega) fun st2 B2 p2 c2 e2 => ?_)
     simp only [Bool.not_true, Bool.false_eq_true, if_false]
     exact wpS_pure ⟨rfl, B2, c2, e2.trans e'⟩
   ·rw [if_neg big]
    exact wpS_pure ⟨rfl, B', c', e'⟩
 ·exact fin st hB hc rfl
theorem wps_eq {α σ : Type} {M : Model} {m m' : StateT σ Sem α} {Q : α → σ → Prop} {st : σ} (e : m = m') (h : wpS M A E s m' Q st) : wpS M A E s m Q st := e ▸ h
theorem s_runs (K : AskS prog w A s key κ a₀) {st : SortSt} {Q : Unit → SortSt → Prop} (hB : SB κ a₀ st) (hp : pendingOf st = #[]) (h2 : 2 ≤ a₀.size)
  (h : ∀ st', SB κ a₀ st' → (arrOf st').toList.Pairwise (le key) → Q () st') : wpS (model prog w) A E s sortRuns' Q st := by
 rw [sortRuns'_eq]
 refine wpS_bind (wpS_get ?_)
 dsimp only
 simp only [hB.size]
 generalize minRun' a₀.size a₀.size 0 = r
 refine wpS_bind (wpS_mono (wpS_forRange (I := fun x c st' => ∃ lo, c = (none, lo) ∧ SB κ a₀ st' ∧ Cov key (arrOf st') (pendingOf st').toList 0 lo ∧ x ≤ lo ∧ lo ≤ a₀.size)
  (Q := fun c st' => c = (none, a₀.size) ∧ SB κ a₀ st' ∧ Cov key (arrOf st') (pendingOf st').toList 0 a₀.size) ?step ?fin ⟨0, rfl, hB, by rw [hp]; rfl, Nat.le_refl _, Nat.zero_le _⟩) ?post)
 case fin =>
  rintro c st' ⟨lo, rfl, B', c', h1, h2⟩
  have : lo = a₀.size := by omega
  subst this
  exact ⟨rfl, B', c'⟩
 case step =>
  rintro x c st' _ xl ⟨lo, rfl, B', c', h1, h2⟩
  dsimp only
  by_cases ge : lo ≥ a₀.size
  ·rw [if_pos ge]
   have : lo = a₀.size := by omega
   subst this
   exact wpS_pure ⟨rfl, B', c'⟩
  rw [if_neg ge]
  refine wpS_bind (s_count K (m := a₀.size - lo) (by omega) (by omega) B' fun m st2 N2 m1 m2 u => ?_)
  dsimp only
  have z2 := N2.sb.size
  have c2 : Cov key (arrOf st2) (pendingOf st2).toList 0 lo := by rw [N2.pend]; exact c'.front (keep_take N2.keep) (Nat.le_refl _)
  by_cases lt : m < r
  ·rw [if_pos lt]
   refine wpS_bind (wpS_lift (wpAny_rule ⟨rfl, ?_⟩))
   refine wpS_bind (s_bin K (by omega) (by omega) N2.sb u fun st3 N3 u3 => ?_)
   have z3 := N3.sb.size
   have c3 : Cov key (arrOf st3) (pendingOf st3).toList 0 lo := by rw [N3.pend]; exact c2.front (keep_take N3.keep) (Nat.le_refl _)
   simp only [Bool.not_true, Bool.false_eq_true, if_false]
   refine wps_eq ?eq1 (s_push K N3.sb c3 (by omega) (by omega) (up_seg (by omega) u3) fun st4 B4 c4 => ⟨_, rfl, B4, c4, by omega, by omega⟩)
   case eq1 =>
    unfold pushR pushN
    refine congrArg (bind get) (funext fun st => ?_)
    generalize (pendingOf st).back? = u
    cases u with
    | none => rfl
    | some u =>
     obtain ⟨s1, n1, p1⟩ := u
     dsimp only
     refine congrArg (bind _) (funext fun z => ?_)
     obtain ⟨z1, z2⟩ := z
     cases z1 with
     | none => rfl
     | some z1 => rfl
  ·rw [if_neg lt]
   refine wps_eq ?eq2 (s_push K N2.sb c2 (by omega) (by omega) (up_seg (by omega) u) fun st4 B4 c4 => ⟨_, rfl, B4, c4, by omega, by omega⟩)
   case eq2 =>
    unfold pushR pushN
    refine congrArg (bind get) (funext fun st => ?_)
    generalize (pendingOf st).back? = u
    cases u with
    | none => rfl
    | some u =>
     obtain ⟨s1, n1, p1⟩ := u
     dsimp only
     refine congrArg (bind _) (funext fun z => ?_)
     obtain ⟨z1, z2⟩ := z
     cases z1 with
     | none => rfl
     | some z1 => rfl
 case post =>
  rintro c st' ⟨rfl, B', c'⟩
  dsimp only
  refine wpS_bind (wpS_mono (wpS_forRange (I := fun x c st' => c = (none, ()) ∧ SB κ a₀ st' ∧ Cov key (arrOf st') (pendingOf st').toList 0 a₀.size ∧ (pendingOf st').size ≤ max 1 (a₀.size - x))
   (Q := fun c st' => c = (none, ()) ∧ SB κ a₀ st' ∧ Cov key (arrOf st') (pendingOf st').toList 0 a₀.size ∧ (pendingOf st').size ≤ 1) ?step2 ?fin2 ⟨rfl, B', c', ?init2⟩) ?post2)
  case init2 =>
   have := c'.le
   rw [Array.length_toList] at this
   omega
  case fin2 =>
   rintro c st' ⟨rfl, B', c', z⟩
   exact ⟨rfl, B', c', by omega⟩
  case post2 =>
   rintro c st' ⟨rfl, B', c', z⟩
   refine wpS_pure (h st' B' ?_)
   have zz := B'.size
   have len : (pendingOf st').toList.length = (pendingOf st').size := Array.length_toList
   generalize (pendingOf st').toList = l at c' len
   cases l with
   | nil =>
    have : (0 : Nat) = a₀.size := c'
    omega
   | cons p l =>
    obtain ⟨s1, n1, p1⟩ := p
    have : l = [] := by
     rw [List.length_cons] at len
     exact List.length_eq_zero_iff.mp (by omega)
    subst this
    obtain ⟨rfl, _, so, e⟩ := c'
    have e' : 0 + n1 = a₀.size := e
    have : seg (arrOf st') 0 n1 = (arrOf st').toList := by
     unfold seg
     rw [List.drop_zero, List.take_of_length_le (by rw [Array.length_toList]; omega)]
    rw [this] at so
    exact so
  case step2 =>
   rintro x c st' _ xl ⟨rfl, B', c', z⟩
   refine wpS_bind (wpS_get ?_)
   by_cases le1 : (pendingOf st').size ≤ 1
   ·rw [if_pos le1]
    exact wpS_pure ⟨rfl, B', c', le1⟩
   rw [if_neg le1]
   have go : ∀ i, i + 1 < (pendingOf st').size → ∀ Qx : ForInStep (Option Unit × Unit) → SortSt → Prop, (∀ st'', SB κ a₀ st'' → Cov key (arrOf st'') (pendingOf st'').toList 0 a₀.size → (pendingOf st'').size ≤ max 1 (a₀.size - (x + 1)) → Qx (.yield (none, ())) st'') →
     wpS (model prog w) A E s (do
      let c ← mergeAt' i
      if (!c) = true then pure (ForInStep.done (some (), ())) else pure (ForInStep.yield (none, ()))) Qx st' := fun i hi Qx hQ => by
    have len : (pendingOf st').toList.length = (pendingOf st').size := Array.length_toList
    have tw := two_at (l := (pendingOf st').toList) (i := i) (by omega)
    generalize hA : (pendingOf st').toList[i]'(by omega) = ra at tw
    generalize hB2 : (pendingOf st').toList[i + 1]'(by omega) = rb at tw
    obtain ⟨b1, b2, b3⟩ := ra
    obtain ⟨d1, d2, d3⟩ := rb
    refine wpS_bind (s_mat K B' tw (by rw [List.length_take, len]; omega) c' (Nat.le_refl _) fun st2 B2 p2 c2 e2 => ?_)
    simp only [Bool.not_true, Bool.false_eq_true, if_false]
    refine wpS_pure (hQ _ B2 c2 ?_)
    have l2 : (pendingOf st2).toList.length = (pendingOf st2).size := Array.length_toList
    rw [p2, List.length_append, List.length_cons, List.length_take, List.length_drop, len] at l2
    omega
   have ix : (if (Option.any (fun x => decide (x < ((pendingOf st')[(pendingOf st').size - 2 + 1]?.elim 0 fun x => x.2.1))) (if (pendingOf st').size - 2 > 0 then (pendingOf st')[(pendingOf st').size - 2 - 1]?.map (fun x => x.2.1) else none)) = true then (pendingOf st').size - 2 - 1 else (pendingOf st').size - 2) + 1 < (pendingOf st').size := by
    generalize (Option.any _ _) = b
    cases b <;> simp <;> omega
   exact go _ ix _ fun st2 B2 c2 z2 => ⟨rfl, B2, c2, z2⟩
end
end TM

namespace TM
open PySem PyProof.Rows PySem.W
section
variable {prog : Program} {w : World} {A : Around} {E : Value → Shared → Prop} {s : Shared} {O : KeyOrd} {key : Value → O.α} {κ : SortKind} {vs : List Value}
structure Sorts (prog : Program) (w : World) (s : Shared) (key : Value → O.α) (κ : SortKind) (vs : List Value) : Prop where
 kind : ∀ (A : Around) (E : Value → Shared → Prop) (h' : Heap), (∀ b o, s.heap.get? b = some o → h'.get? b = some o) → 2 ≤ vs.length → ∀ Q : SortKind → Shared → Prop, Q κ { s with heap := h' } → wpAny (model prog w) A (keyKind' vs.toArray) Q E { s with heap := h' }
 ask : ∀ (A : Around) (h' : Heap), (∀ b o, s.heap.get? b = some o → h'.get? b = some o) → AskS prog w A { s with heap := h' } key κ (pairsOf vs)
theorem pairs_out {xs : Array Keyed} (hp : xs.Perm (pairsOf vs)) (so : xs.toList.Pairwise (le key)) : (xs.map (·.2)).toList.Perm vs ∧ (xs.map (·.2)).toList.Pairwise (fun x y => O.kle (key x) (key y)) := by
 have pl := Array.perm_iff_toList_perm.mp hp
 rw [pairsOf_toList] at pl
 have same : ∀ p ∈ xs.toList, p.1 = p.2 := fun p hm => by
  have := pl.mem_iff.mp hm
  obtain ⟨i, hi, e⟩ := List.getElem_of_mem this
  rw [List.getElem_zip] at e
  rw [← e]
 rw [Array.toList_map]
 refine ⟨?_, ?_⟩
 ·have := pl.map (·.2)
  rw [List.map_snd_zip (by omega)] at this
  exact this
 ·rw [List.pairwise_map]
  refine List.Pairwise.imp_of_mem (fun {p q} hp hq h => ?_) so
  rw [← same p hp, ← same q hq]; exact h
theorem few_up {l : List Keyed} (h : l.length < 2) : l.Pairwise (le key) := by
 cases l with
 | nil => exact .nil
 | cons x l =>
  cases l with
  | nil => exact List.pairwise_singleton _ _
  | cons y l =>
   rw [List.length_cons, List.length_cons] at h
   omega
theorem sort_any {a : Addr} {n : Nat} {h0 : Heap} {P : PySem.Fin → Shared → Prop} (S : Sorts prog w { s with heap := h0 } key κ vs) (hk : ∀ b o, h0.get? b = some o → s.heap.get? b = some o) (h0a : h0.get? a = none) (ho : s.heap.get? a = some (seqObj "list" vs.toArray n)) (hz : vs.length ≤ sizeLine)
  (h : ∀ out : Array Value, out.toList.Perm vs → out.toList.Pairwise (fun x y => O.kle (key x) (key y)) → P (.done (.ret .none)) { s with heap := sortedHeap s.heap a vs out }) :
  wpAny (model prog w) A (Builtin.«list.sort» ⟨[.ref a], []⟩) P E s := by
 rw [list_sort_plain]
 have ha : a < s.heap.objs.size := Heap.lt_size ho
 have z0 : vs.toArray.size = vs.length := by simp
 refine wpAny_bind (listItems_at ho rfl ?_)
 refine wpAny_bind (listUpdate_at ho rfl ?_ (by rw [z0]; exact hz) (Nat.zero_le _))
 obtain ⟨e1, ho1⟩ : ∃ e1, (s.heap.update a (Obj.mapSeq fun _ => #[])).get? a = some (seqObj "list" #[] e1) := ⟨_, get?_update_seq ho (fun _ => #[])⟩
 refine wpAny_bind (seqEpoch_at ho1 rfl ?_)
 refine wpAny_bind (wpAny_newTuple ?_ (by show vs.length ≤ _; exact hz))
 refine wpAny_bind (wpAny_newList ?_ (Nat.zero_le _))
 refine wpAny_holding ?_
 have ho6 : (((s.heap.update a (Obj.mapSeq fun _ => #[])).push (seqObj "tuple" vs.toArray 0)).push (seqObj "list" #[] 0)).get? a = some (seqObj "list" #[] e1) := by
  rw [Heap.get?_push_ne _ _ _ (by rw [size_push', Heap.size_update]; exact Nat.ne_of_lt (Nat.lt_succ_of_lt ha)), Heap.get?_push_ne _ _ _ (by rw [Heap.size_update]; exact Nat.ne_of_lt ha)]
  exact ho1
 have keep : ∀ b o, h0.get? b = some o → (((s.heap.update a (Obj.mapSeq fun _ => #[])).push (seqObj "tuple" vs.toArray 0)).push (seqObj "list" #[] 0)).get? b = some o := fun b o e => by
  have e' := hk b o e
  have hlt : b < s.heap.objs.size := Heap.lt_size e'
  have hne : b ≠ a := fun z => by rw [z, h0a] at e; cases e
  rw [Heap.get?_push_ne _ _ _ (by rw [size_push', Heap.size_update]; exact Nat.ne_of_lt (Nat.lt_succ_of_lt hlt)), Heap.get?_push_ne _ _ _ (by rw [Heap.size_update]; exact Nat.ne_of_lt hlt), Heap.get?_update_ne _ _ _ _ hne]
  exact e'
 show wpAny (model prog w) A _ P E { s with heap := ((s.heap.update a (Obj.mapSeq fun _ => #[])).push (seqObj "tuple" vs.toArray 0)).push (seqObj "list" #[] 0) }
 dsimp only
 by_cases h2 : vs.toArray.size < 2
 ·rw [if_pos h2, if_pos h2]
  refine wpAny_bind (wpAny_pure ?_)
  rw [StateT.run_pure]
  refine wpAny_bind (wpAny_pure ?_)
  dsimp only
  refine wpAny_bind (seqEpoch_at ho6 rfl ?_)
  have pz : ((pairsOf vs).map (·.2)).size = vs.length := by rw [Array.size_map, pairsOf_size]
  have out := pairs_out (vs := vs) (key := key) (Array.Perm.refl (pairsOf vs)) (few_up (by rw [Array.length_toList, pairsOf_size]; omega))
  refine wpAny_bind (listUpdate_at ho6 rfl ?_ (Nat.zero_le _) (by show ((pairsOf vs).map (·.2)).size ≤ sizeLine + 1; rw [pz]; omega))
  simp only [bne_self_eq_false, Bool.false_eq_true, if_false]
  exact wpAny_pure (h _ out.1 out.2)
 ·rw [if_neg h2, if_neg h2]
  refine wpAny_bind (S.kind A E _ keep (by omega) _ ?_)
  refine wpAny_bind (wpAny_mono (s_runs (S.ask A _ keep) (st := SortSt.mk' κ (vs.toArray.zip vs.toArray) #[] 7 none) (Q := fun _ st' => SB κ (pairsOf vs) st' ∧ (arrOf st').toList.Pairwise (le key))
   ⟨Array.Perm.refl _, rfl, rfl⟩ rfl (by rw [pairsOf_size]; omega) fun st' a1 a2 => ⟨a1, a2⟩) ?_ fun _ _ e => e)
  rintro ⟨⟨⟩, st'⟩ s' ⟨rfl, hB, so⟩
  dsimp only
  have out := pairs_out hB.perm so
  refine wpAny_bind (seqEpoch_at ho6 rfl ?_)
  refine wpAny_bind (listUpdate_at ho6 rfl ?_ (Nat.zero_le _) (by show ((arrOf st').map (·.2)).size ≤ sizeLine + 1; rw [Array.size_map, hB.size, pairsOf_size]; omega))
  rw [hB.failed]
  simp only [bne_self_eq_false, Bool.false_eq_true, if_false]
  exact wpAny_pure (h _ out.1 out.2)
end

section
variable {prog : Program} {w : World} {A : Around} {E : Value → Shared → Prop} {s : Shared} {vs : List Value}
end
end TM
namespace L2
open PySem PySem.Spec PyProof.Rows TM
section
variable {X : Cx} {K : PySem.W.Frag}
theorem ints_are {ns : List Int} {its : List Value} (h : Vals (ns.map V.int) its) : IntsAre its ns := by
 induction ns generalizing its with
 | nil => cases h; exact .nil
 | cons n ns ih =>
  cases h with
  | cons r t =>
   obtain ⟨tk, rfl⟩ := r
   exact .cons n tk (ih t)
end
end L2

namespace SI
open PySem PyProof.Rows
noncomputable def Ris (p : Array Nat) : Prop := p.toList.Pairwise (· < ·)
theorem Ris.get {p : Array Nat} (h : Ris p) {i j : Nat} (hij : i < j) (hj : j < p.size) : p.getD i 0 < p.getD j 0 := by
 have e : ∀ k (hk : k < p.size), p.getD k 0 = p[k] := fun k hk => by simp [Array.getD, hk]
 rw [e i (by omega), e j hj]
 have := List.pairwise_iff_getElem.mp h i j (by simp; omega) (by simp; exact hj) hij
 simpa using this
theorem below_go {p : Array Nat} (h : Ris p) (j : Nat) : ∀ (f lo hi : Nat), lo ≤ hi → hi ≤ p.size → hi - lo ≤ f → (∀ i, i < lo → p.getD i 0 < j) → (∀ i, hi ≤ i → i < p.size → j ≤ p.getD i 0) →
  SetTable.below.go p j f lo hi ≤ p.size ∧ (∀ i, i < SetTable.below.go p j f lo hi → p.getD i 0 < j) ∧ (∀ i, SetTable.below.go p j f lo hi ≤ i → i < p.size → j ≤ p.getD i 0)
 | 0, lo, hi, a, b, c, d, e => by
  have : lo = hi := by omega
  subst this
  exact ⟨b, d, e⟩
 | f + 1, lo, hi, a, b, c, d, e => by
  unfold SetTable.below.go
  by_cases lt : lo < hi
  ·rw [if_pos lt]
   dsimp only
   have hm : (lo + hi) / 2 < p.size := by omega
   have eg : p.getD ((lo + hi) / 2) j = p.getD ((lo + hi) / 2) 0 := by simp [Array.getD, hm]
   rw [eg]
   by_cases c2 : p.getD ((lo + hi) / 2) 0 < j
   ·rw [if_pos c2]
    refine below_go h j f _ hi (by omega) b (by omega) (fun i hi' => ?_) e
    by_cases x : i = (lo + hi) / 2
    ·rw [x]; exact c2
    ·exact Nat.lt_trans (h.get (by omega) hm) c2
   ·rw [if_neg c2]
    refine below_go h j f lo _ (by omega) (by omega) (by omega) d fun i x y => ?_
    by_cases z : i = (lo + hi) / 2
    ·rw [z]; omega
    ·have := h.get (show (lo + hi) / 2 < i by omega) y
     omega
  ·rw [if_neg lt]
   have : lo = hi := by omega
   subst this
   exact ⟨b, d, e⟩
theorem below_ok {p : Array Nat} (h : Ris p) (j : Nat) : SetTable.below p j ≤ p.size ∧ (∀ i, i < SetTable.below p j → p.getD i 0 < j) ∧ (∀ i, SetTable.below p j ≤ i → i < p.size → j ≤ p.getD i 0) :=
 below_go h j _ 0 _ (Nat.zero_le _) (Nat.le_refl _) (by omega) (fun i hi => by omega) (fun i a b => by omega)
structure TOk (b : Bool) (t : SetTable) : Prop where
 led : t.led = b
 dum : t.dummies = #[]
 ris : Ris t.place
theorem no_dummy {t : SetTable} (h : t.dummies = #[]) (j : Nat) : t.slot j ≠ .dummy := fun e => by
 unfold SetTable.slot at e
 dsimp only at e
 split at e
 ·cases e
 ·rw [h] at e
  unfold SetTable.has at e
  simp at e
theorem probe_ok {t : SetTable} (hd : t.dummies = #[]) {ha : Nat → Int} {h : Int} : ∀ (f : Nat) (p : SetTable.Probe) {j : Nat} {d : Option Nat}, p.dummy = none → SetTable.probe.go t ha h f p = some (.empty j d) → d = none ∧ t.slot j = .empty
 | 0, p, j, d, _, e => by unfold SetTable.probe.go at e; cases e
 | f + 1, p, j, d, pd, e => by
  have adv : (t.advance p).dummy = none := by
   unfold SetTable.advance
   split <;> exact pd
  unfold SetTable.probe.go at e
  cases c : t.slot p.j with
  | empty =>
   rw [c] at e
   cases e
   exact ⟨pd, c⟩
  | dummy => exact absurd c (no_dummy hd _)
  | live i =>
   rw [c] at e
   dsimp only at e
   split at e
   ·cases e
   ·exact probe_ok hd f _ adv e
theorem free_ok {t : SetTable} (hd : t.dummies = #[]) {h : Int} {j : Nat} {b : Bool} (e : t.freeSlot h = some (j, b)) : t.slot j = .empty := by
 unfold SetTable.freeSlot at e
 generalize hp : t.probe (fun _ => h + 1) h (t.probeStart h) = r at e
 cases r with
 | none => cases e
 | some m =>
  cases m with
  | candidate _ _ _ => cases e
  | empty k d =>
   obtain ⟨rfl, z⟩ := probe_ok hd _ _ rfl hp
   cases e
   exact z
theorem put_ris {t : SetTable} (h : Ris t.place) {j : Nat} (e : t.slot j = .empty) : Ris (t.put j).1.place := by
 show (SetTable.insertAt t.place (SetTable.below t.place j) j).toList.Pairwise (· < ·)
 obtain ⟨b1, b2, b3⟩ := below_ok h j
 have ne : t.place[SetTable.below t.place j]? ≠ some j := fun z => by
  unfold SetTable.slot at e
  dsimp only at e
  rw [if_pos (by rw [z]; simp)] at e
  cases e
 generalize SetTable.below t.place j = p at b1 b2 b3 ne
 rw [SetTable.toList_insertAt]
 have g : ∀ k (hk : k < t.place.size), t.place.toList[k]'(by simpa using hk) = t.place.getD k 0 := fun k hk => by simp [Array.getD, hk]
 have gt : ∀ k, p ≤ k → k < t.place.size → j < t.place.getD k 0 := fun k hk hs => by
  have := b3 k hk hs
  by_cases x : k = p
  ·subst x
   have e2 : t.place[k]? = some (t.place.getD k 0) := by simp [Array.getD, hs]
   rw [e2] at ne
   have : t.place.getD k 0 ≠ j := fun z => ne (by rw [z])
   omega
  ·have h1 := b3 p (Nat.le_refl _) (by omega)
   have h2 := h.get (show p < k by omega) hs
   omega
 refine List.pairwise_append.mpr ⟨h.sublist (List.take_sublist _ _), List.pairwise_cons.mpr ⟨fun y hy => ?_, h.sublist (List.drop_sublist _ _)⟩, fun x hx y hy => ?_⟩
 ·obtain ⟨k, hk, rfl⟩ := List.getElem_of_mem hy
  rw [List.length_drop, Array.length_toList] at hk
  rw [List.getElem_drop, g _ (by omega)]
  exact gt _ (by omega) (by omega)
 ·obtain ⟨i, hi, rfl⟩ := List.getElem_of_mem hx
  rw [List.length_take, Array.length_toList] at hi
  have lx : t.place.getD i 0 < j := b2 i (by omega)
  rw [List.getElem_take, g _ (by omega)]
  rcases List.mem_cons.mp hy with rfl | hy
  ·exact lx
  ·obtain ⟨k, hk, rfl⟩ := List.getElem_of_mem hy
   rw [List.length_drop, Array.length_toList] at hk
   rw [List.getElem_drop, g _ (by omega)]
   have := gt (p + k) (by omega) (by omega)
   omega
theorem TOk.put {b : Bool} {t : SetTable} (h : TOk b t) {j : Nat} (e : t.slot j = .empty) : TOk b (t.put j).1 := by
 refine ⟨h.led, ?_, put_ris h.ris e⟩
 show (if SetTable.has t.dummies j then _ else t.dummies) = _
 rw [h.dum]
 rw [if_neg (by unfold SetTable.has; simp)]
theorem TOk.standIn {b : Bool} {t : SetTable} (h : TOk b t) (n : Nat) : TOk b (t.standIn n) := ⟨h.led, rfl, by
 show (Array.range n).toList.Pairwise (· < ·)
 rw [Array.toList_range]
 exact List.pairwise_lt_range⟩
theorem TOk.orStandIn {b : Bool} {t : SetTable} (h : TOk b t) (n : Nat) : TOk b (t.orStandIn n) := by
 unfold SetTable.orStandIn
 split
 ·exact h
 ·exact h.standIn n
theorem TOk.layNew {b : Bool} {t : SetTable} (h : TOk b t) (es : Array (Int × Value)) (k : Int) (x : Value) : TOk b (layNew t es k x).2.1 := by
 unfold PySem.layNew
 cases e : t.freeSlot k with
 | none => exact h.standIn _
 | some p =>
  obtain ⟨j, d⟩ := p
  exact (h.put (free_ok h.dum e)).orStandIn _
theorem TOk.relaid {b : Bool} {t t' : SetTable} {order : Array Nat} (h : TOk b t) {hs : Array Int} {n : Nat} (e : t.relaid hs n = some (t', order)) : TOk b t' := by
 unfold SetTable.relaid SetTable.laid at e
 cases c : SetTable.layClean (SetTable.sizeAbove n - 1) hs with
 | none => rw [c] at e; cases e
 | some owner =>
  rw [c] at e
  cases e
  refine ⟨h.led, rfl, ?_⟩
  unfold Ris
  dsimp only
  rw [List.pairwise_map, List.pairwise_filterMap]
  refine List.pairwise_lt_range.imp fun {i j} lt x hx y hy => ?_
  generalize owner.getD i none = u at hx
  generalize owner.getD j none = v at hy
  cases u with
  | none => cases hx
  | some u =>
   cases v with
   | none => cases hy
   | some v => cases hx; cases hy; exact lt
theorem TOk.relayAll {b : Bool} {t : SetTable} (h : TOk b t) (es : Array (Int × Value)) (n : Nat) : TOk b (relayAll t es n).2.1 := by
 unfold PySem.relayAll
 cases e : t.relaid (es.map (·.1)) n with
 | none => exact h.standIn _
 | some p =>
  obtain ⟨t', order⟩ := p
  dsimp only
  split
  ·exact h.relaid e
  ·exact h.standIn _
theorem TOk.fresh (b : Bool) : TOk b (.fresh 0 0 b) := ⟨rfl, rfl, .nil⟩
end SI

namespace SI
open PySem PyProof.Rows
section
variable {prog : Program} {w : World} {A : Around} {E : Value → Shared → Prop} {s : Shared}
noncomputable def SetX (prog : Program) (w : World) (h : Heap) (b : Bool) (a : Addr) (S : Int → Bool) (n : Nat) : Prop :=
 ∃ o es ep t, h.get? a = some o ∧ o.ExactSet ∧ o.data = .set es ep t ∧ ElemsOf (intKind prog w) es.toList ∧ (∀ k, S k = true ↔ ∃ e ∈ es.toList, (intKind prog w).is k e.2 = true) ∧ es.size < scanBound ∧ t.fits es.size = true ∧ es.size = n ∧ TOk b t
theorem SetX.kept {h h' : Heap} {b : Bool} {a : Addr} {S : Int → Bool} {n : Nat} (x : SetX prog w h b a S n) (k : ∀ o, h.get? a = some o → h'.get? a = some o) : SetX prog w h' b a S n := let ⟨o, es, ep, t, e, r⟩ := x; ⟨o, es, ep, t, k o e, r⟩
theorem setX_by {h : Heap} {b : Bool} {a : Addr} {S S' : Int → Bool} {n n' : Nat} (x : SetX prog w h b a S n) (e : ∀ k, S k = S' k) (en : n = n') : SetX prog w h b a S' n' := by
 obtain rfl : S = S' := funext e
 subst en
 exact x
theorem setX_put {h : Heap} {a : Addr} {o : Obj} {es : Array (Int × Value)} {ep : Nat} {t : SetTable} (ho : h.get? a = some o) (hex : o.ExactSet) (hd : o.data = .set es ep t) {es' : Array (Int × Value)} {t' : SetTable} {S' : Int → Bool} {b : Bool}
  (hel : ElemsOf (intKind prog w) es'.toList) (hmem : ∀ k, S' k = true ↔ ∃ e ∈ es'.toList, (intKind prog w).is k e.2 = true) (hb : es'.size < scanBound) (hf : t'.fits es'.size = true) (ok : TOk b t') :
  (h.update a (Obj.putSet es' t')).get? a = some { o with data := .set es' (ep + 1) t' } ∧ SetX prog w (h.update a (Obj.putSet es' t')) b a S' es'.size := by
 have hg : (h.update a (Obj.putSet es' t')).get? a = some { o with data := .set es' (ep + 1) t' } := by
  have := Heap.get?_update_self (Obj.putSet es' t') ho (by rw [putSet_of es' t' hd]; rfl)
  rw [putSet_of es' t' hd] at this; exact this
 exact ⟨hg, _, es', ep + 1, t', hg, hex, rfl, hel, hmem, hb, hf, rfl, ok⟩
theorem TOk.off {b : Bool} {t : SetTable} (h : TOk b t) : TOk b { t with plain := false } := ⟨h.led, h.dum, h.ris⟩
theorem gave_ok {b : Bool} {s₁ : Shared} {Q : Unit → Shared → Prop} (hq : Q () s₁) : wpAny (model prog w) A (match b with | true => rule "set.scan.the-table-gave-way" | false => pure ()) Q E s₁ := by
 cases b
 ·exact wpAny_pure hq
 ·exact wpAny_rule hq
theorem tail_ok {g : Bool → Sem Unit} (hg : ∀ (b : Bool) (s₁ : Shared) (Q' : Unit → Shared → Prop), Q' () s₁ → wpAny (model prog w) A (g b) Q' E s₁) {a : Addr} {o : Obj} {es : Array (Int × Value)} {ep : Nat} {t : SetTable} (ho : s.heap.get? a = some o) (hex : o.ExactSet) (hd : o.data = .set es ep t)
  {es1 : Array (Int × Value)} {t2 : SetTable} {S' : Int → Bool} {b : Bool} (hel1 : ElemsOf (intKind prog w) es1.toList) (hmem1 : ∀ k', S' k' = true ↔ ∃ e ∈ es1.toList, (intKind prog w).is k' e.2 = true)
  (hb1 : es1.size < scanBound) (hf2 : t2.fits es1.size = true) (ok : TOk b t2) {wd : Bool} {R : Option Bool → Shared → Prop}
  (h : ∀ h', Heap.SameBut a s.heap h' → SetX prog w h' b a S' es1.size → R (some true) { s with heap := h' }) :
  wpAny (model prog w) A (do
    storeSet a es1 t2
    if (!wd && t2.tooFull) = true then do
      g (relayAll t2 es1 (SetTable.grown es1.size)).2.2
      storeSet a (relayAll t2 es1 (SetTable.grown es1.size)).1 (relayAll t2 es1 (SetTable.grown es1.size)).2.1
      pure (some true)
     else pure (some true)) R E s := by
 refine wpAny_bind (wpAny_storeSet_of ho hd ?_ (fits_of_scanBound hb1))
 obtain ⟨ho1, hS1⟩ := setX_put (prog := prog) (w := w) ho hex hd hel1 hmem1 hb1 hf2 ok
 have sb1 := Heap.SameBut.update s.heap a (Obj.putSet es1 t2)
 split
 ·have hp := relayAll_perm t2 es1 (SetTable.grown es1.size)
  have hfr := relayAll_fits t2 es1 (SetTable.grown es1.size)
  have okr := ok.relayAll es1 (SetTable.grown es1.size)
  generalize relayAll t2 es1 (SetTable.grown es1.size) = Rl at hp hfr okr ⊢
  obtain ⟨es2, t3, gave2⟩ := Rl
  dsimp only at hp hfr okr ⊢
  have hmem2 : ∀ k', S' k' = true ↔ ∃ e ∈ es2.toList, (intKind prog w).is k' e.2 = true := fun k' => (hmem1 k').trans ⟨fun ⟨e, he, q⟩ => ⟨e, hp.mem_iff.mpr he, q⟩, fun ⟨e, he, q⟩ => ⟨e, hp.mem_iff.mp he, q⟩⟩
  have hsz : es2.size = es1.size := by rw [← Array.length_toList, hp.length_eq, Array.length_toList]
  refine wpAny_bind (hg _ _ _ ?_)
  refine wpAny_bind (wpAny_storeSet_of ho1 rfl ?_ (fits_of_scanBound (by rw [hsz]; exact hb1)))
  obtain ⟨_, hS2⟩ := setX_put (prog := prog) (w := w) ho1 hex rfl (hel1.perm hp) hmem2 (by rw [hsz]; exact hb1) hfr okr
  rw [hsz] at hS2
  exact wpAny_pure (h _ (sb1.trans (Heap.SameBut.update _ a _)) hS2)
 ·exact wpAny_pure (h _ sb1 hS1)
theorem add_ok {a : Addr} {b : Bool} {S : Int → Bool} {n : Nat} {k : Int} {x : Value} {Q : Bool → Shared → Prop} (hkey : (intKind prog w).is k x = true) (hsc : x.scannable = true) (hS : SetX prog w s.heap b a S n) (room : n + 1 < scanBound)
  (h : ∀ h', Heap.SameBut a s.heap h' → SetX prog w h' b a (fun k' => S k' || decide (k' = k)) (if S k then n else n + 1) → Q (!S k) { s with heap := h' }) :
  wpAny (model prog w) A (setAddHashed a x ((intKind prog w).hash k)) Q E s := by
 obtain ⟨o, es, ep, t, ho, hex, hd, hel, hmem, hb, hf, hn, ok⟩ := hS
 unfold setAddHashed setAddHashedIn
 refine wpAny_holding (wpAny_bind (wpAny_setState_of ho hd hf ?_))
 dsimp only
 rw [byScan_of hsc hb hel]
 simp only [↓reduceIte]
 unfold setAddByScan
 refine wpAny_bind ?_
 refine wpAny_bind (wpAny_rule ?_)
 refine wpAny_bind (wpAny_setScan_of hkey ho hd hf hel ?_)
 cases hr : List.findIdx? (fun e => (intKind prog w).is k e.2) es.toList with
 | some j =>
  dsimp only
  obtain ⟨hj, hpj, _⟩ := List.findIdx?_eq_some_iff_getElem.mp hr
  have hSk : S k = true := (hmem k).mpr ⟨es.toList[j], List.getElem_mem hj, hpj⟩
  refine wpAny_pure (wpAny_pure ?_)
  have e : s = { s with heap := s.heap } := by cases s; rfl
  have := h s.heap (Heap.SameBut.refl a s.heap) ⟨o, es, ep, t, ho, hex, hd, hel, fun k' => by
   rw [Bool.or_eq_true, decide_eq_true_eq, ← hmem k']
   exact ⟨fun hk => hk.elim id (fun e => e ▸ hSk), .inl⟩, hb, hf, by rw [hSk]; exact hn, ok⟩
  rw [hSk] at this; rw [e]; exact this
 | none =>
  dsimp only
  have hSk : S k = false := by
   cases hk : S k with
   | false => rfl
   | true =>
    obtain ⟨e, he, hp⟩ := (hmem k).mp hk
    have := List.findIdx?_eq_none_iff.mp hr e he
    rw [hp] at this; cases this
  have hperm := layNew_perm t es ((intKind prog w).hash k) x
  have hfits := layNew_fits t es ((intKind prog w).hash k) x
  have ok1 := ok.layNew es ((intKind prog w).hash k) x
  generalize layNew t es ((intKind prog w).hash k) x = L at hperm hfits ok1 ⊢
  obtain ⟨es1, t1, wd, gave⟩ := L
  dsimp only at hperm hfits ok1 ⊢
  rw [Array.toList_push] at hperm
  have hel1 : ElemsOf (intKind prog w) es1.toList := (hel.push hkey hsc).perm hperm
  have hmem1 : ∀ k', (S k' || decide (k' = k)) = true ↔ ∃ e ∈ es1.toList, (intKind prog w).is k' e.2 = true := mem_push_iff hkey hmem hperm
  have hsz1 : es1.size = n + 1 := by rw [← Array.length_toList, hperm.length_eq, List.length_append, Array.length_toList, hn]; rfl
  have hb1 : es1.size < scanBound := by rw [hsz1]; exact room
  refine wpAny_bind (gave_ok ?_)
  have fin : ∀ h', Heap.SameBut a s.heap h' → SetX prog w h' b a (fun k' => S k' || decide (k' = k)) es1.size → Q true { s with heap := h' } := fun h' sb hS' => by
   have := h h' sb
   rw [hSk] at this
   rw [hsz1] at hS'
   exact this hS'
  split
  ·refine wpAny_bind ?_
   rw [hashByValue_scannable 8 hsc]
   refine wpAny_pure ?_
   refine tail_ok (b := b) (fun b s₁ Q' hq => gave_ok hq) ho hex hd hel1 hmem1 hb1 ?_ ?_ ?_
   ·split
    ·exact hfits
    ·exact SetTable.fits_plain_off hfits
   ·split
    ·exact ok1
    ·exact ok1.off
   ·intro h' sb hS'
    exact wpAny_pure (fin h' sb hS')
  ·refine wpAny_bind (wpAny_pure ?_)
   simp only [↓reduceIte]
   refine tail_ok (b := b) (fun b s₁ Q' hq => gave_ok hq) ho hex hd hel1 hmem1 hb1 hfits ok1 ?_
   intro h' sb hS'
   exact wpAny_pure (fin h' sb hS')
end
section
variable {prog : Program} {w : World} {A : Around} {R : Result → Shared → Prop} {I : Addr} {fp wr : List Addr} {G : Array GenState → Array GenState → Prop} {n : Nat} {P : Nat → Value → Prop} {St : Nat → Shared → Prop}
theorem fill_ok (W : WalksS prog w A.in1 I fp wr G n P St) (T : Addr) (hT : T ∉ fp) (val : Nat → Int) (hval : ∀ i v, P i v → ∃ t, v = .int (val i) t) (hb : n + 1 < scanBound) {b : Bool} :
  ∀ (k i : Nat) (s : Shared), n - i = k → i ≤ n → St i s → SetX prog w s.heap b T (fun k' => (firstMet val i).any (· == k')) (firstMet val i).length →
   (∀ s', Moved (T :: wr) G s s' → SetX prog w s'.heap b T (fun k' => (firstMet val n).any (· == k')) (firstMet val n).length → R (.ok (.ret .none)) s') →
   codeAny (model prog w) A (.builtin "set.update.loop" ⟨[.ref T, .ref I], []⟩) R s := by
 have hTw : T ∉ wr := fun z => hT (W.sub _ z)
 have up : ∀ b ∈ wr, b ∈ T :: wr := fun b z => List.mem_cons_of_mem _ z
 intro k
 induction k with
 | zero =>
  intro i s hk hi st hS hR
  obtain rfl : i = n := by omega
  refine codeAny_builtin PyProof.Rows.F.entry_set_update_loop ?_
  rw [Around.under_plainId PyProof.Rows.F.plain_set_update_loop _]
  refine wpAny_bind (m := pyNext (.ref I)) (W.done s _ _ st fun s' mv => ?_)
  exact wpAny_pure (hR s' (mv.mono up) (hS.kept fun o e => mv.heap T _ hTw e))
 | succ k ih =>
  intro i s hk hi st hS hR
  have lt : i < n := by omega
  refine codeAny_builtin PyProof.Rows.F.entry_set_update_loop ?_
  rw [Around.under_plainId PyProof.Rows.F.plain_set_update_loop _]
  refine wpAny_bind (m := pyNext (.ref I)) (W.item i s _ _ lt st fun v s' hP st' mv => ?_)
  obtain ⟨tk, rfl⟩ := hval i v hP
  have hS1 := hS.kept (h' := s'.heap) fun o e => mv.heap T _ hTw e
  refine wpAny_bind (m := holding [Value.int (val i) tk] (setAdd T (.int (val i) tk))) (wpAny_holding ?_)
  unfold setAdd
  refine wpAny_holding (wpAny_bind ((intKind prog w).pyHash (k := val i) (intKind_is prog w _ _) ?_))
  have lm := firstMet_length_le val i
  refine add_ok (s := { s' with toks := s'.toks + 1 }) (b := b) (intKind_is prog w _ _) rfl hS1 (by omega) fun h' sb hS2 => ?_
  have hS3 : SetX prog w h' b T (fun k' => (firstMet val (i + 1)).any (· == k')) (firstMet val (i + 1)).length := by
   refine setX_by hS2 (fun x => ?_) ?_
   ·rw [firstMet_succ, step_any]
   ·rw [firstMet_succ, step_length]
  refine wpAny_pure ⟨plainId_quiet PyProof.Rows.F.plain_set_update_loop _, ih (i + 1) _ (by omega) lt (W.frame _ s' _ _ st' (Nat.le_succ _) fun b hb' o e => ?_) hS3 fun s'' mv2 hS4 => ?_⟩
  ·rw [sb.2 b (fun z => hT (z ▸ hb'))]; exact e
  ·refine hR s'' (Moved.trans W.gtrans ((mv.mono up).then_heap (Nat.le_succ _) fun b o hb' e => ?_) mv2) hS4
   rw [sb.2 b (fun z => hb' (z ▸ List.mem_cons_self))]; exact e
end
end SI

namespace SI
open PySem PyProof.Rows
noncomputable def byText (w : World) : Bool := w.params.followText "set-order"
section
variable {prog : Program} {w : World} {A : Around} {E : Value → Shared → Prop} {s : Shared}
theorem new_set (a : Value) {Q₁ : Value → Shared → Prop} (h : Q₁ (.ref s.heap.objs.size) { s with heap := s.heap.push (setObj (!byText w)) }) :
  codeAny (model prog w) A (.call (.builtin "set.__new__") ⟨[.type "set", a], []⟩) (wants Q₁ E) s := by
 refine codeAny_of_tree ?_
 show wpAny _ A.in1 (do checkBuiltinCall "set.__new__" ⟨[.type "set", a], []⟩; again (.builtin "set.__new__" ⟨[.type "set", a], []⟩)) _ _ s
 refine wpAny_bind (wpAny_of_eq (F.newCall_set_1 a) (wpAny_pure ⟨plainId_quiet F.plain_set_new _, codeAny_builtin F.entry_set_new ?_⟩))
 rw [Around.under_plainId F.plain_set_new _]
 unfold Builtin.«set.__new__» Builtin.Frozenset.newClass
 have hsub := sub_set_self
 obtain ⟨hp, g, d, tk, os⟩ := s
 dsimp only
 wp_walk
 refine wpAny_askSetting (wpAny_pure ?_)
 dsimp only
 simp only [newObj]
 refine wpAny_bind (wpAny_alloc (wpAny_pure ?_))
 exact wpAny_pure h
noncomputable def valOf (ns : List Int) (i : Nat) : Int := ns.getD i 0
theorem vals_map (ns : List Int) : (List.range ns.length).map (valOf ns) = ns := by
 refine List.ext_getElem? fun i => ?_
 rw [List.getElem?_map]
 by_cases h : i < ns.length
 ·rw [List.getElem?_range h, List.getElem?_eq_getElem h]
  show some (ns.getD i 0) = _
  rw [List.getD_eq_getElem?_getD, List.getElem?_eq_getElem h]; rfl
 ·rw [List.getElem?_eq_none (by rw [List.length_range]; omega), List.getElem?_eq_none (by omega)]; rfl
noncomputable def uniq (ns : List Int) : List Int := firstMet (valOf ns) ns.length
theorem uniq_mem (ns : List Int) (k : Int) : k ∈ uniq ns ↔ k ∈ ns := by
 have h := firstMet_any (valOf ns) ns.length k
 rw [vals_map] at h
 have e : ∀ l : List Int, l.any (· == k) = true ↔ k ∈ l := fun l => by simp
 rw [← e, ← e]
 show (firstMet (valOf ns) ns.length).any _ = true ↔ _
 rw [h]
theorem uniq_le (ns : List Int) : (uniq ns).length ≤ ns.length := firstMet_length_le _ _
theorem uniq_nd (ns : List Int) : (uniq ns).Nodup := by
 unfold uniq
 generalize ns.length = n
 induction n with
 | zero => exact .nil
 | succ n ih =>
  rw [firstMet_succ]
  unfold step_dedup
  split
  ·exact ih
  ·rename_i h
   refine List.nodup_append.mpr ⟨ih, by simp, fun a ha b hb => ?_⟩
   rw [List.mem_singleton.mp hb]
   intro z
   subst z
   exact h (List.any_eq_true.mpr ⟨_, ha, by simp⟩)
theorem call_set_ints {l : Addr} {items : Array Value} {ns : List Int} {Q : Value → Shared → Prop} (hh : A.handled = none) (hl : s.heap.IsList l items) (hI : IntsAre items.toList ns) (hb : items.size + 1 < scanBound)
  (fin : ∀ (h' : Heap) (tk : Nat), SetX prog w h' (!byText w) s.heap.objs.size (fun k => (uniq ns).any (· == k)) (uniq ns).length → (∀ b o, s.heap.get? b = some o → h'.get? b = some o) → Q (.ref s.heap.objs.size) { s with heap := h', toks := tk }) :
  wpAny (model prog w) A (call (.type "set") [.ref l]) Q E s := by
 have len : items.size = ns.length := by rw [← hI.length]; simp
 obtain ⟨c0, tl0, m0⟩ := F.called_set.mro
 have m1 := F.called_set.made
 have m2 := F.called_set.sub
 refine wpAny_call (codeAny_of_tree ?_)
 show wpAny _ _ (callAny (.type "set") _) _ _ _
 refine wpAny_pure ⟨Code.quiet_builtin _ (by decide +kernel), codeAny_builtin F.entry_type_call ?_⟩
 rw [Around.under_plain (weight_type_call_type "set" [.ref l] []) rfl]
 have m3 := F.called_set.notType
 have m4 := F.called_set.canCreate
 have m5 := F.typeCall_set_1 (.ref l)
 repeat (any_goals (first | assumption | wp_step))
 refine codeAny_mono (new_set (.ref l) (E := E) (Q₁ := fun obj s₁ => obj = .ref s.heap.objs.size ∧ s₁ = { s with heap := s.heap.push (setObj (!byText w)) }) ⟨rfl, rfl⟩) fun r s₁ hr => ?_
 cases r with
 | error e => exact hr
 | ok fl =>
 cases fl with
 | ret obj =>
  obtain ⟨rfl, rfl⟩ := hr
  have at0 : (s.heap.push (setObj (!byText w))).get? s.heap.objs.size = some (setObj (!byText w)) := Heap.get?_push_size _ rfl
  have ty0 : Shared.TypeIs { s with heap := s.heap.push (setObj (!byText w)) } (.ref s.heap.objs.size) "set" := ⟨_, at0, rfl⟩
  have m6 := F.called_set.init.lookup
  have m7 := F.called_set.init.bind (.ref s.heap.objs.size)
  repeat (any_goals (first | assumption | wp_step))
  refine codeAny_mono (codeAny_call_builtin (R := wants (fun r s₂ => r = .none ∧ ∃ h' tk, s₂ = { s with heap := h', toks := tk } ∧ SetX prog w h' (!byText w) s.heap.objs.size (fun k => (uniq ns).any (· == k)) (uniq ns).length ∧ (∀ b o, s.heap.get? b = some o → h'.get? b = some o)) E)
   F.called_set.init.plain F.entry_set_init (check_set_init_1 ty0 ?_)) fun r₂ s₂ hr₂ => ?_
  ·obtain ⟨⟨oc, od, oda, osl⟩, g, kc, nl, kd⟩ := hl
   simp only at kc kd
   subst kc kd
   have g1 : (s.heap.push (setObj (!byText w))).get? l = some { cls := .type "list", dict := od, data := .seq items nl, slots := osl } := Heap.get?_push_of_some _ g
   have n1 := F.sub_list_set
   have n2 := F.sub_list_frozenset
   have n3 : (Value.type "list" == Value.type "dict") = false := by decide
   have l1 : (s.heap.push (setObj (!byText w))).IsList l items := ⟨_, g1, rfl, nl, rfl⟩
   unfold Builtin.«set.__init__» noKeywords Builtin.Frozenset.updateFrom
   generalize hPI : pyIter = PI
   wp_walk
   subst hPI
   refine wpAny_pyIter_list l1 (wpAny_bind (wpAny_runValue ?_))
   have lt : l < s.heap.objs.size := Heap.lt_size g
   have sz : (s.heap.push (setObj (!byText w))).objs.size = s.heap.objs.size + 1 := Heap.size_push _ _
   have ne1 : l ≠ (s.heap.push (setObj (!byText w))).objs.size := by rw [sz]; exact Nat.ne_of_lt (Nat.lt_succ_of_lt lt)
   have out : s.heap.objs.size ∉ [(s.heap.push (setObj (!byText w))).objs.size, l] := by
    rw [sz]
    intro z
    simp only [List.mem_cons, List.not_mem_nil, or_false] at z
    rcases z with z | z
    ·exact absurd z (Nat.ne_of_lt (Nat.lt_succ_self _))
    ·exact absurd z (Nat.ne_of_gt lt)
   refine fill_ok (b := !byText w) ((Walks.list (by simp [hh]) _ l ne1 items).toS) s.heap.objs.size out (valOf ns) (fun i v hv => ?val) hb (items.size - 0) 0 _ (by omega) (Nat.zero_le _) ⟨⟨_, Heap.get?_push_size _ rfl, rfl, rfl⟩, (l1.push _)⟩ ?start ?done
   case val =>
    have e : items.toList[i]? = some v := by rw [Array.getElem?_toList]; exact hv
    exact IntsAre.int_at hI i v e
   case start =>
    refine ⟨setObj (!byText w), #[], 0, .fresh 0 0 (!byText w), Heap.get?_push_of_some _ at0, ⟨rfl, rfl, rfl⟩, rfl, fun e he => by simp at he, fun k => ⟨(fun z => by cases z), fun ⟨e, he, _⟩ => by simp at he⟩, by unfold scanBound; decide, by simp [SetTable.fits, SetTable.fresh, SetTable.fill], rfl, TOk.fresh _⟩
   case done =>
    intro s' mv hS'
    obtain ⟨h', g', d', tk', os'⟩ := s'
    obtain rfl : g' = s.gens := mv.gens
    obtain rfl : d' = s.drawn := mv.drawn
    obtain rfl : os' = s.os := mv.os
    refine wpAny_pure ?_
    rw [len] at hS'
    refine wpAny_pure ⟨rfl, h', tk', rfl, hS', fun b o e => ?_⟩
    have lb := Heap.lt_size e
    refine mv.heap b o (fun z => ?_) (Heap.get?_push_of_some _ (Heap.get?_push_of_some _ e))
    simp only [List.mem_cons, List.not_mem_nil, or_false] at z
    rcases z with z | z
    ·exact absurd z (Nat.ne_of_lt lb)
    ·exact absurd z (by rw [sz]; exact Nat.ne_of_lt (Nat.lt_succ_of_lt lb))
  ·cases r₂ with
   | error e => exact hr₂
   | ok fl₂ =>
   cases fl₂ with
   | ret r =>
    obtain ⟨rfl, h', tk, rfl, hS', keep⟩ := hr₂
    repeat (any_goals (first | assumption | wp_step))
    exact fin _ _ hS' keep
   | _ => exact hr₂.elim
 | _ => exact hr.elim
end
end SI

namespace SI
open PySem PyProof.Rows
theorem wJ : entryFor table "set.__iter__" = some Builtin.«frozenset.__iter__» := entryFor_alias (id' := "frozenset.__iter__") (by kernel_rfl) rfl (by decide +kernel) (by kernel_rfl)
theorem xU : Slot "set_iterator" "__next__" "set_iterator.__next__" :=
 .of (owner := "set_iterator") (n := "__next__") (by rw [typeLookup_type, builtinLookup_eq_fast]; kernel_rfl) (by decide +kernel) (by decide +kernel) (by decide +kernel)
  (by first | exact .inl (by decide +kernel) | exact .inr (by decide +kernel)) (by rw [isSubtype_type]; kernel_rfl)
theorem jX : entryFor table "set_iterator.__next__" = some Builtin.«set_iterator.__next__» := entryFor_of_tree (by kernel_rfl)
theorem jJ (a : Value) : argsOk "set_iterator.__next__" ⟨[a], []⟩ := by unfold argsOk; kernel_rfl
section
variable {M : Model} {A : Around} {E : Value → Shared → Prop} {s : Shared}
theorem wp_choose {src : Source} {n : Nat} {Q : Nat → Shared → Prop} (hn : n ≠ 0) (h : ∀ i, i < n → Q i { s with drawn := s.drawn.bump src }) : wpAny M A (choose src n) Q E s := fun Γ p hΓ => by
 show Sem.wp M Γ (.choose src n .pure) _ _ p s
 rw [Sem.wp_choose]
 exact ⟨hn, h _ (Nat.mod_lt _ (Nat.pos_of_ne_zero hn))⟩
theorem wP {α : Type} {xs : List α} {i : Nat} {x : α} (h : xs[i]? = some x) : (x :: xs.eraseIdx i).Perm xs := by
 obtain ⟨hi, rfl⟩ := List.getElem?_eq_some_iff.mp h
 rw [List.eraseIdx_eq_take_drop_succ]
 have e : xs = xs.take i ++ xs[i] :: xs.drop (i + 1) := by rw [List.getElem_cons_drop, List.take_append_drop]
 conv => rhs; rw [e]
 exact List.perm_middle.symm
theorem draw_order {α : Type} {Q : List α → Shared → Prop} : ∀ (n : Nat) (xs : List α) (s : Shared), xs.length = n → (∀ ys d, ys.Perm xs → Q ys { s with drawn := d }) → wpAny M A (drawOrder n xs) Q E s := by
 intro n
 induction n generalizing Q with
 | zero =>
  intro xs s hl h
  have : xs = [] := List.length_eq_zero_iff.mp hl
  subst this
  unfold drawOrder
  exact wpAny_pure (by have := h [] s.drawn .nil; cases s; exact this)
 | succ n ih =>
  intro xs s hl h
  cases xs with
  | nil => cases hl
  | cons x0 xr =>
   unfold drawOrder
   refine wpAny_bind (wp_choose (by simp) fun i hi => ?_)
   have e : (x0 :: xr)[i]? = some ((x0 :: xr)[i]) := List.getElem?_eq_getElem hi
   rw [e]
   dsimp only
   refine wpAny_bind (ih (Q := fun ys s' => wpAny M A (pure ((x0 :: xr)[i] :: ys)) Q E s') ((x0 :: xr).eraseIdx i) _ (by rw [List.length_eraseIdx_of_lt hi]; simp only [List.length_cons] at hl ⊢; omega) fun ys d p => ?_)
   exact wpAny_pure (h _ d ((p.cons _).trans (wP e)))
end
theorem pick_go {α : Type} (next : Nat → Nat) : ∀ (f k : Nat) (left : List α) (out : Array α), f = left.length → (pickOrder.go next f k left out).toList.Perm (out.toList ++ left) := by
 intro f
 induction f with
 | zero =>
  intro k left out h
  have : left = [] := List.length_eq_zero_iff.mp h.symm
  subst this
  unfold pickOrder.go
  rw [List.append_nil]
 | succ f ih =>
  intro k left out h
  have hi : next k % left.length < left.length := Nat.mod_lt _ (by omega)
  have e : left[next k % left.length]? = some left[next k % left.length] := List.getElem?_eq_getElem hi
  unfold pickOrder.go
  rw [e]
  dsimp only
  refine (ih (k + 1) _ _ (by rw [List.length_eraseIdx_of_lt hi]; omega)).trans ?_
  rw [Array.toList_push, List.append_assoc]
  exact List.Perm.append_left _ (wP e)
theorem pick_perm {α : Type} (next : Nat → Nat) (xs : Array α) : (pickOrder next xs).toList.Perm xs.toList := by
 have := pick_go next xs.size 0 xs.toList #[] (by simp)
 exact this
noncomputable abbrev itObj (first : Value) (i : Nat) (a : Addr) (n ep : Nat) : Obj := { cls := .type "set_iterator", data := .fields #[first, .int i 0, .ref a, .int n 0, .int ep 0] }
structure Lies (h : Heap) (a : Addr) (o : Obj) (es : Array (Int × Value)) (ep : Nat) (t : SetTable) : Prop where
 at' : h.get? a = some o
 ex : o.ExactSet
 data : o.data = .set es ep t
 fits : t.fits es.size = true
theorem Lies.kept {h h' : Heap} {a : Addr} {o : Obj} {es : Array (Int × Value)} {ep : Nat} {t : SetTable} (x : Lies h a o es ep t) (k : ∀ o, h.get? a = some o → h'.get? a = some o) : Lies h' a o es ep t := ⟨k _ x.at', x.ex, x.data, x.fits⟩
section
variable {prog : Program} {w : World} {A : Around} {E : Value → Shared → Prop} {s : Shared} {I a : Addr} {o : Obj} {es : Array (Int × Value)} {ep : Nat} {t : SetTable} {i : Nat}
theorem next_slot {slot : Nat} {Q : Option Value → Shared → Prop} (hi : s.heap.get? I = some (itObj (.int slot 0) i a es.size ep)) (L : Lies s.heap a o es ep t)
  {x : Value} {nx : Nat} (hn : ∀ (Q' : Option (Value × Nat) → Shared → Prop) (A' : Around) (E' : Value → Shared → Prop), Q' (some (x, nx)) s → wpAny (model prog w) A' (setNext a slot i ep) Q' E' s)
  (h : ∀ h', h'.get? I = some (itObj (.int nx 0) (i + 1) a es.size ep) → Heap.SameBut I s.heap h' → Q (some x) { s with heap := h' }) : wpAny (model prog w) A (pyNext (.ref I)) Q E s := by
 have hT : s.TypeIs (.ref I) "set_iterator" := ⟨_, hi, rfl⟩
 unfold pyNext
 refine wpAny_bind (wpAny_attempt (wpAny_callSpecial?_slot (name := Str.ofString "__next__") hT xU (wpAny_call_entry xU hT jX ?_ (jJ _))))
 unfold Builtin.«set_iterator.__next__» slotArgs
 simp only [List.isEmpty_nil, Bool.not_true, Bool.false_eq_true, ↓reduceIte, bind_assoc, List.length_nil, bne_self_eq_false]
 refine wpAny_bind (wpAny_pure ?_)
 refine wpAny_bind (wpAny_fieldsOf hi rfl ?_)
 dsimp only
 refine wpAny_bind (wpAny_setEntries_of L.at' L.data L.fits ?_)
 simp only [bne_self_eq_false, Bool.false_eq_true, ↓reduceIte]
 rw [Int.toNat_natCast, Int.toNat_natCast, Int.toNat_natCast]
 refine wpAny_bind (hn _ _ _ ?_)
 dsimp only
 refine wpAny_bind (wpAny_setField hi rfl (by simp) ?_)
 have e1 : (s.heap.update I (Obj.mapFields fun vs => vs.setIfInBounds 0 (rawInt nx))).get? I = some (itObj (.int nx 0) i a es.size ep) := Heap.get?_update_self _ hi rfl
 refine wpAny_bind (wpAny_setField e1 rfl (by simp) ?_)
 refine wpAny_pure ⟨x, rfl, wpAny_pure (h _ ?_ ((Heap.SameBut.update ..).trans (Heap.SameBut.update ..)))⟩
 exact Heap.get?_update_self _ e1 rfl
theorem next_end {first : Value} {Q : Option Value → Shared → Prop} (hh : A.handled = none) (hi : s.heap.get? I = some (itObj first i a es.size ep)) (L : Lies s.heap a o es ep t)
  (hn : ∀ slot : Nat, first = .int slot 0 → ∀ (Q' : Option (Value × Nat) → Shared → Prop) (A' : Around) (E' : Value → Shared → Prop), Q' none s → wpAny (model prog w) A' (setNext a slot i ep) Q' E' s)
  (hp : (∃ slot : Nat, first = .int slot 0) ∨ ∃ p op ys n, first = .ref p ∧ s.heap.get? p = some op ∧ op.data = .seq ys n ∧ ys.size = i)
  (h : ∀ h', Heap.ExtBut I s.heap h' → Q none { s with heap := h' }) : wpAny (model prog w) A (pyNext (.ref I)) Q E s := by
 have hT : s.TypeIs (.ref I) "set_iterator" := ⟨_, hi, rfl⟩
 have stop : ∀ h1 (f : Value), h1.get? I = some (itObj f i a es.size ep) → Heap.SameBut I s.heap h1 → wpAny (model prog w) A.in1 (do
   setField (Value.ref I) 2 Value.none
   let e ← newExc (Value.type "StopIteration") []
   (raiseNew e : Sem PySem.Fin)) (fun fin s' => ∃ v, fin = Fin.done (Flow.ret v) ∧ wpAny (model prog w) A (pure (some v)) Q E s')
   (fun e s' => wpAny (model prog w) A (do
     let c ← isInstance e (Value.type "StopIteration")
     if c = true then pure none else throw e) Q E s') { s with heap := h1 } := fun h1 f e1 sb => by
  refine wpAny_bind (wpAny_setField (s := { s with heap := h1 }) e1 rfl (by simp) ?_)
  refine wpAny_bind ?_
  simp only [newExc, newTuple]
  refine wpAny_bind (wpAny_newObj_type ?_ (by size_fits))
  refine wpAny_bind (m := firstArgMember _ _) (wpAny_of_eq (a := Value.none) (by first | rfl | (simp only [firstArgMember]; rfl)) ?_)
  refine wpAny_newObj_type ?_ (by size_fits)
  simp only [raiseNew]
  refine wpAny_bind (wpAny_handled ?_)
  rw [show A.in1.handled = none from hh]
  refine wpAny_bind (wpAny_pure (wpAny_throw ?_))
  refine wpAny_bind (wpAny_isInstance (T := "StopIteration") (b := true) ⟨_, Heap.get?_push_size _ rfl, rfl⟩ isSubtype_stop ?_)
  exact wpAny_pure (h _ (((sb.trans (Heap.SameBut.update ..)).extBut.push _).push _))
 unfold pyNext
 refine wpAny_bind (wpAny_attempt (wpAny_callSpecial?_slot (name := Str.ofString "__next__") hT xU (wpAny_call_entry xU hT jX ?_ (jJ _))))
 unfold Builtin.«set_iterator.__next__» slotArgs
 simp only [List.isEmpty_nil, Bool.not_true, Bool.false_eq_true, ↓reduceIte, bind_assoc, List.length_nil, bne_self_eq_false]
 refine wpAny_bind (wpAny_pure ?_)
 refine wpAny_bind (wpAny_fieldsOf hi rfl ?_)
 dsimp only
 refine wpAny_bind (wpAny_setEntries_of L.at' L.data L.fits ?_)
 simp only [bne_self_eq_false, Bool.false_eq_true, ↓reduceIte]
 rcases hp with ⟨slot, rfl⟩ | ⟨p, op, ys, n, rfl, e2, d2, z⟩
 ·dsimp only
  rw [Int.toNat_natCast, Int.toNat_natCast, Int.toNat_natCast]
  refine wpAny_bind (hn slot rfl _ _ _ ?_)
  dsimp only
  exact stop s.heap _ hi (Heap.SameBut.refl ..)
 ·dsimp only
  refine wpAny_bind (wpAny_seqItems e2 d2 ?_)
  dsimp only
  rw [Int.toNat_natCast, show ys[i]? = none by simp [z]]
  dsimp only
  refine wpAny_bind (wpAny_setField hi rfl (by simp) ?_)
  have e1 : (s.heap.update I (Obj.mapFields fun vs => vs.setIfInBounds 0 (rawInt 0))).get? I = some (itObj (.int 0 0) i a es.size ep) := Heap.get?_update_self _ hi rfl
  exact stop _ _ e1 (Heap.SameBut.update ..)
theorem next_drawn {p : Addr} {op : Obj} {ys : Array Value} {n : Nat} {pl : Nat} {x : Int × Value} {Q : Option Value → Shared → Prop} (hi : s.heap.get? I = some (itObj (.ref p) i a es.size ep)) (L : Lies s.heap a o es ep t)
  (e2 : s.heap.get? p = some op) (d2 : op.data = .seq ys n) (ey : ys[i]? = some (.int pl 0)) (ex : es[pl]? = some x)
  (h : ∀ h', h'.get? I = some (itObj (.ref p) (i + 1) a es.size ep) → Heap.SameBut I s.heap h' → Q (some x.2) { s with heap := h' }) : wpAny (model prog w) A (pyNext (.ref I)) Q E s := by
 have hT : s.TypeIs (.ref I) "set_iterator" := ⟨_, hi, rfl⟩
 unfold pyNext
 refine wpAny_bind (wpAny_attempt (wpAny_callSpecial?_slot (name := Str.ofString "__next__") hT xU (wpAny_call_entry xU hT jX ?_ (jJ _))))
 unfold Builtin.«set_iterator.__next__» slotArgs
 simp only [List.isEmpty_nil, Bool.not_true, Bool.false_eq_true, ↓reduceIte, bind_assoc, List.length_nil, bne_self_eq_false]
 refine wpAny_bind (wpAny_pure ?_)
 refine wpAny_bind (wpAny_fieldsOf hi rfl ?_)
 dsimp only
 refine wpAny_bind (wpAny_setEntries_of L.at' L.data L.fits ?_)
 simp only [bne_self_eq_false, Bool.false_eq_true, ↓reduceIte]
 refine wpAny_bind (wpAny_seqItems e2 d2 ?_)
 dsimp only
 rw [Int.toNat_natCast, ey]
 dsimp only
 rw [Int.toNat_natCast, Int.toNat_natCast]
 refine wpAny_bind ?_
 unfold setNextDrawn
 refine wpAny_bind (wpAny_setState_of L.at' L.data L.fits ?_)
 dsimp only
 rw [if_neg (by simp), ex]
 refine wpAny_pure ?_
 refine wpAny_bind (wpAny_setField hi rfl (by simp) ?_)
 exact wpAny_pure ⟨_, rfl, wpAny_pure (h _ (Heap.get?_update_self _ hi rfl) (Heap.SameBut.update ..))⟩
end
end SI

namespace SI
open PySem PyProof.Rows
theorem yJ : Slot "set_iterator" "__iter__" "set_iterator.__iter__" :=
 .of (owner := "set_iterator") (n := "__iter__") (by rw [typeLookup_type, builtinLookup_eq_fast]; kernel_rfl) (by decide +kernel) (by decide +kernel) (by decide +kernel)
  (by first | exact .inl (by decide +kernel) | exact .inr (by decide +kernel)) (by rw [isSubtype_type]; kernel_rfl)
theorem vN : entryFor table "set_iterator.__iter__" = some Builtin.«dict_keyiterator.__iter__» := entryFor_alias (id' := "dict_keyiterator.__iter__") (by kernel_rfl) rfl (by decide +kernel) (by kernel_rfl)
theorem wY (a : Value) : argsOk "set_iterator.__iter__" ⟨[a], []⟩ := by unfold argsOk; kernel_rfl
section
variable {prog : Program} {w : World} {A : Around} {E : Value → Shared → Prop} {s : Shared} {I a : Addr} {o : Obj} {es : Array (Int × Value)} {ep : Nat} {t : SetTable} {i slot : Nat}
theorem by_text {Q : Bool → Shared → Prop} (h : Q (byText w) s) : wpAny (model prog w) A setsByText Q E s := by
 unfold setsByText
 exact wpAny_bind (wpAny_askSetting (wpAny_pure h))
theorem sn_text (ht : byText w = true) (L : Lies s.heap a o es ep t) {Q : Option (Value × Nat) → Shared → Prop} (h : Q ((pickOrder (w.params.setOrder a ep) es)[i]?.map fun e => (e.2, slot)) s) : wpAny (model prog w) A (setNext a slot i ep) Q E s := by
 unfold setNext
 refine wpAny_bind (wpAny_setState_of L.at' L.data L.fits ?_)
 dsimp only
 refine wpAny_bind (by_text ?_)
 rw [ht]
 simp only [↓reduceIte, bne_self_eq_false, Bool.false_eq_true]
 refine wpAny_bind ?_
 unfold setWalk
 refine wpAny_bind (wpAny_setState_of L.at' L.data L.fits ?_)
 dsimp only
 refine wpAny_bind (by_text ?_)
 rw [ht]
 simp only [↓reduceIte]
 refine wpAny_bind (wpAny_askSetting (wpAny_pure ?_))
 exact wpAny_pure h
theorem sn_place (hf : byText w = false) (nd : (!t.plain && decide (es.size > 1)) = false) (led : t.led = true) (L : Lies s.heap a o es ep t) {Q : Option (Value × Nat) → Shared → Prop}
  (h : Q (match es[SetTable.below t.place slot]?, t.place[SetTable.below t.place slot]? with | some (_, x), some j => some (x, j + 1) | _, _ => none) s) : wpAny (model prog w) A (setNext a slot i ep) Q E s := by
 unfold setNext
 refine wpAny_bind (wpAny_setState_of L.at' L.data L.fits ?_)
 dsimp only
 refine wpAny_bind (by_text ?_)
 rw [hf]
 simp only [↓reduceIte, Bool.false_eq_true]
 show wpAny _ _ (if (!t.plain && decide (es.size > 1)) = true then _ else _) _ _ _
 rw [nd]
 simp only [↓reduceIte, Bool.false_eq_true]
 refine wpAny_bind (m := if (!t.led && !es.isEmpty) = true then unsupported "set:maker-not-led" else pure ()) ?_
 rw [led]
 simp only [Bool.not_true, Bool.false_and, Bool.false_eq_true, ↓reduceIte]
 exact wpAny_pure (wpAny_pure h)
inductive Way (w : World) (h : Heap) (a : Addr) (es : Array (Int × Value)) (ep : Nat) (t : SetTable) (i : Nat) : List (Int × Value) → Value → Prop
 | text (slot : Nat) : byText w = true → Way w h a es ep t i (pickOrder (w.params.setOrder a ep) es).toList (.int slot 0)
 | place (slot : Nat) : byText w = false → (!t.plain && decide (es.size > 1)) = false → t.led = true → Ris t.place → SetTable.below t.place slot = i → Way w h a es ep t i es.toList (.int slot 0)
 | drawn (p : Addr) (op : Obj) (ks : List Nat) (n : Nat) : h.get? p = some op → op.data = .seq (ks.map fun k => Value.int (k : Nat) 0).toArray n → ks.Perm (List.range es.size) → Way w h a es ep t i (ks.filterMap fun k => es[k]?) (.ref p)
structure ItSt (w : World) (I a : Addr) (o : Obj) (es : Array (Int × Value)) (ep : Nat) (t : SetTable) (ord : List (Int × Value)) (fp : List Addr) (i : Nat) (s : Shared) : Prop where
 lies : Lies s.heap a o es ep t
 it : ∃ first, s.heap.get? I = some (itObj first i a es.size ep) ∧ Way w s.heap a es ep t i ord first ∧ ∀ p, first = .ref p → p ∈ fp ∧ p ≠ I
theorem Way.kept {h h' : Heap} {ord : List (Int × Value)} {first : Value} (x : Way w h a es ep t i ord first) (k : ∀ p o, first = .ref p → h.get? p = some o → h'.get? p = some o) : Way w h' a es ep t i ord first := by
 cases x with
 | text slot b => exact .text slot b
 | place slot b c d e f => exact .place slot b c d e f
 | drawn p op ks n e d pm => exact .drawn p op ks n (k p op rfl e) d pm
theorem filt_get {es : Array (Int × Value)} {ks : List Nat} (h : ∀ k ∈ ks, k < es.size) (i : Nat) : (ks.filterMap fun k => es[k]?)[i]? = ks[i]?.bind fun k => es[k]? := by
 induction ks generalizing i with
 | nil => rfl
 | cons k ks ih =>
  have hk := h k List.mem_cons_self
  rw [List.filterMap_cons_some (b := es[k]) (getElem?_pos es k hk)]
  cases i with
  | zero => exact (getElem?_pos es k hk).symm
  | succ i =>
   rw [List.getElem?_cons_succ, List.getElem?_cons_succ]
   exact ih (fun k hk => h k (List.mem_cons_of_mem _ hk)) i
theorem below_next {p : Array Nat} (h : Ris p) {i : Nat} (hi : i < p.size) : SetTable.below p (p.getD i 0 + 1) = i + 1 := by
 obtain ⟨b1, b2, b3⟩ := below_ok h (p.getD i 0 + 1)
 have l1 : i < SetTable.below p (p.getD i 0 + 1) := by
  by_cases c : i < SetTable.below p (p.getD i 0 + 1)
  ·exact c
  ·have := b3 i (by omega) hi
   omega
 by_cases c : i + 1 < SetTable.below p (p.getD i 0 + 1)
 ·have h1 := b2 (i + 1) c
  have h2 := h.get (show i < i + 1 by omega) (show i + 1 < p.size by omega)
  omega
 ·omega
theorem fits_size {t : SetTable} {n : Nat} (h : t.fits n = true) : t.place.size = n := by
 simp only [SetTable.fits, Bool.and_eq_true, beq_iff_eq] at h
 exact h.1
theorem walks_set (hh : A.handled = none) (hne : a ≠ I) {fp : List Addr} (hIf : I ∈ fp) (haf : a ∈ fp) (o : Obj) (es : Array (Int × Value)) (ep : Nat) (t : SetTable) (ord : List (Int × Value)) (lo : ord.length = es.size) :
  WalksS prog w A I fp [I] (fun a b => b = a) es.size (fun i v => ∃ k, ord[i]? = some (k, v)) (ItSt w I a o es ep t ord fp) where
 sub := fun b hb => by rw [List.mem_singleton.mp hb]; exact hIf
 grefl := fun _ => rfl
 gtrans := fun _ _ _ x y => y.trans x
 frame := fun i s h' tk st _ hk => by
  obtain ⟨first, e, wy, hp⟩ := st.it
  exact ⟨st.lies.kept fun o e => hk a haf o e, first, hk I hIf _ e, wy.kept fun p o ep e => hk p (hp p ep).1 o e, hp⟩
 item := fun i s Q E hi st hQ => by
  obtain ⟨first, e, wy, hp⟩ := st.it
  have L := st.lies
  have fin : ∀ (x : Int × Value) (f' : Value) (h' : Heap), ord[i]? = some x → h'.get? I = some (itObj f' (i + 1) a es.size ep) → Heap.SameBut I s.heap h' → Way w h' a es ep t (i + 1) ord f' → (∀ p, f' = .ref p → p ∈ fp ∧ p ≠ I) → Q (some x.2) { s with heap := h' } := fun x f' h' ex e1 sb wy' hp' =>
   hQ x.2 _ ⟨x.1, ex⟩ ⟨L.kept fun o e => (sb.2 a hne).trans e, f', e1, wy', hp'⟩ ⟨fun b o hb e => (sb.2 b (fun z => hb (by rw [z]; exact List.mem_singleton.mpr rfl))).trans e, rfl, rfl, rfl, Nat.le_refl _⟩
  cases wy with
  | text slot b =>
   have ex : (pickOrder (w.params.setOrder a ep) es)[i]? = some ((pickOrder (w.params.setOrder a ep) es).toList[i]'(by omega)) := by rw [← Array.getElem?_toList]; exact List.getElem?_eq_getElem _
   refine next_slot (x := _) (nx := slot) e L (fun Q' A' E' hq => sn_text b L (by rw [ex]; exact hq)) fun h' e1 sb => ?_
   exact fin _ _ h' (List.getElem?_eq_getElem (by omega)) e1 sb (.text slot b) fun p z => by cases z
  | place slot b c d ris bl =>
   have zp := fits_size L.fits
   have ex : es[i]? = some es[i] := getElem?_pos es i hi
   have ep' : t.place[i]? = some (t.place.getD i 0) := by simp [Array.getD, zp, hi]
   refine next_slot (x := es[i].2) (nx := t.place.getD i 0 + 1) e L (fun Q' A' E' hq => sn_place b c d L (by rw [bl, ex, ep']; exact hq)) fun h' e1 sb => ?_
   exact fin es[i] _ h' (by rw [Array.getElem?_toList]; exact ex) e1 sb (.place _ b c d ris (below_next ris (by omega))) fun p z => by cases z
  | drawn p op ks n e2 d2 pm =>
   have lk : ks.length = es.size := by rw [pm.length_eq, List.length_range]
   have kb : ∀ k ∈ ks, k < es.size := fun k hk => List.mem_range.mp (pm.mem_iff.mp hk)
   have ek : ks[i]? = some (ks[i]'(by omega)) := List.getElem?_eq_getElem _
   have bk := kb _ (List.getElem_mem (h := (by omega : i < ks.length)))
   have ey : (ks.map fun k => Value.int (k : Nat) 0).toArray[i]? = some (.int ((ks[i]'(by omega) : Nat)) 0) := by
    rw [List.getElem?_toArray, List.getElem?_map, ek]; rfl
   refine next_drawn e L e2 d2 ey (getElem?_pos es _ bk) fun h' e1 sb => ?_
   refine fin _ _ h' (by rw [filt_get kb, ek]; exact getElem?_pos es _ bk) e1 sb (.drawn p op ks n ((sb.2 p (hp p rfl).2).trans e2) d2 pm) fun p' z => by cases z; exact hp p rfl
 done := fun s Q E st hQ => by
  obtain ⟨first, e, wy, hp⟩ := st.it
  have L := st.lies
  refine next_end hh e L (fun slot ef Q' A' E' hq => ?_) ?_ fun h' x => hQ _ ⟨fun b o hb e => x b o (fun z => hb (by rw [z]; exact List.mem_singleton.mpr rfl)) e, rfl, rfl, rfl, Nat.le_refl _⟩
  ·cases wy with
   | text slot' b =>
    refine sn_text b L ?_
    rw [← Array.getElem?_toList, List.getElem?_eq_none (by omega)]
    exact hq
   | place slot' b c d ris bl =>
    cases ef
    refine sn_place b c d L ?_
    rw [bl, Array.getElem?_eq_none (Nat.le_refl _)]
    exact hq
   | drawn p op ks n e2 d2 pm => cases ef
  ·cases wy with
   | text slot b => exact .inl ⟨slot, rfl⟩
   | place slot b c d ris bl => exact .inl ⟨slot, rfl⟩
   | drawn p op ks n e2 d2 pm => exact .inr ⟨p, op, _, n, rfl, e2, d2, by rw [List.size_toArray, List.length_map, pm.length_eq, List.length_range]⟩
 self := fun i s Q E st hQ => by
  obtain ⟨first, e, _, _⟩ := st.it
  have hT : s.TypeIs (.ref I) "set_iterator" := ⟨_, e, rfl⟩
  refine wpAny_pyIter_slot hT yJ (wpAny_call_entry yJ hT vN ?_ (wY _))
  show wpAny _ _ (ret (.ref I)) _ _ s
  exact wpAny_pure ⟨_, rfl, "set_iterator", _, hT, xU.lookup, hQ⟩
theorem is_drawn (L : Lies s.heap a o es ep t) {Q : Bool → Shared → Prop} (h : Q (!byText w && (!t.plain && decide (es.size > 1))) s) : wpAny (model prog w) A (setDrawn a) Q E s := by
 unfold setDrawn
 refine wpAny_bind (wpAny_setState_of L.at' L.data L.fits ?_)
 dsimp only
 refine wpAny_bind (by_text ?_)
 exact wpAny_pure h
theorem iter_set (L : Lies s.heap a o es ep t) (ok : TOk (!byText w) t) (hz : es.size ≤ 5000) {Q : Value → Shared → Prop}
  (h : ∀ (I : Addr) (ord : List (Int × Value)) (fp : List Addr) (h' : Heap) (d : Drawn), ord.Perm es.toList → s.heap.objs.size ≤ I → I ∈ fp → a ∈ fp → (∀ b ∈ fp, b = a ∨ s.heap.objs.size ≤ b) → (∀ b ∈ fp, b < h'.objs.size) → (∀ b o, s.heap.get? b = some o → h'.get? b = some o) →
   ItSt w I a o es ep t ord fp 0 { s with heap := h', drawn := d } → Q (.ref I) { s with heap := h', drawn := d }) : wpAny (model prog w) A (pyIter (.ref a)) Q E s := by
 have hT : s.TypeIs (.ref a) "set" := ⟨o, L.at', L.ex.1⟩
 have la : a < s.heap.objs.size := Heap.lt_size L.at'
 refine wpAny_pyIter_slot hT PySem.F.slot_set_iter (wpAny_call_entry PySem.F.slot_set_iter hT wJ ?_ (PySem.F.args_set_iter_1 _))
 unfold Builtin.«frozenset.__iter__» Builtin.Frozenset.slot0 slotArgs
 simp only [List.isEmpty_nil, Bool.not_true, Bool.false_eq_true, ↓reduceIte, bind_assoc, List.length_nil, bne_self_eq_false]
 unfold Builtin.Frozenset.addrOf Builtin.Frozenset.sizeOf
 refine wpAny_bind (wpAny_pure ?_)
 refine wpAny_bind (wpAny_pure ?_)
 refine wpAny_bind (wpAny_bind (wpAny_setEntries_of L.at' L.data L.fits (wpAny_pure ?_)))
 refine wpAny_bind (is_drawn L ?_)
 have fin : ∀ (first : Value) (h1 : Heap) (d : Drawn) (ord : List (Int × Value)) (fp : List Addr), (∀ b o, s.heap.get? b = some o → h1.get? b = some o) → s.heap.objs.size ≤ h1.objs.size → ord.Perm es.toList → Way w h1 a es ep t 0 ord first → (∀ p, first = .ref p → p ∈ fp) → (∀ b ∈ fp, s.heap.objs.size ≤ b ∧ b < h1.objs.size) →
   wpAny (model prog w) A.in1 (do
    let e ← setEpoch a
    let it ← newFields "set_iterator" [first, rawInt 0, .ref a, rawInt es.size, rawInt e]
    ret it) (fun fin s' => ∃ v, fin = Fin.done (Flow.ret v) ∧ ∃ T' r, s'.TypeIs v T' ∧ typeLookup (.type T') "__next__" = pure (some r) ∧ Q v s') E { s with heap := h1, drawn := d } := fun first h1 d ord fp kp hs pm wy hp hf => by
  have L1 : Lies h1 a o es ep t := L.kept fun o e => kp a o e
  refine wpAny_bind (wpAny_setEpoch_of (s := { s with heap := h1, drawn := d }) L1.at' L1.data L1.fits ?_)
  refine wpAny_bind (wpAny_newObj_type ?_)
  have nI : ∀ b ∈ fp, b ≠ h1.objs.size := fun b hb => Nat.ne_of_lt (hf b hb).2
  refine wpAny_pure ⟨_, rfl, "set_iterator", _, ⟨_, Heap.get?_push_size _ rfl, rfl⟩, xU.lookup, ?_⟩
  refine h h1.objs.size ord (h1.objs.size :: a :: fp) _ d pm hs List.mem_cons_self (List.mem_cons_of_mem _ List.mem_cons_self) (fun b hb => ?_) (fun b hb => ?_) (fun b o e => Heap.get?_push_of_some _ (kp b o e)) ⟨L1.kept fun o e => Heap.get?_push_of_some _ e, first, Heap.get?_push_size _ rfl, wy.kept fun p o _ e => Heap.get?_push_of_some _ e, fun p e => ⟨List.mem_cons_of_mem _ (List.mem_cons_of_mem _ (hp p e)), nI p (hp p e)⟩⟩
  ·rcases List.mem_cons.mp hb with rfl | hb
   ·exact .inr hs
   ·rcases List.mem_cons.mp hb with rfl | hb
    ·exact .inl rfl
    ·exact .inr (hf b hb).1
  ·rw [Heap.size_push]
   rcases List.mem_cons.mp hb with rfl | hb
   ·exact Nat.lt_succ_self _
   ·rcases List.mem_cons.mp hb with rfl | hb
    ·exact Nat.lt_succ_of_lt (Nat.lt_of_lt_of_le la hs)
    ·exact Nat.lt_succ_of_lt (hf b hb).2
 cases c : (!byText w && (!t.plain && decide (es.size > 1))) with
 | true =>
  simp only [↓reduceIte]
  refine wpAny_bind (draw_order es.size (List.range es.size) s (by rw [List.length_range]) fun ks d pm => ?_)
  refine wpAny_bind (wpAny_newTuple ?_ (by rw [List.length_map, pm.length_eq, List.length_range]; rw [sizeLine_eq]; omega))
  refine fin _ _ d _ [s.heap.objs.size] (fun b o e => Heap.get?_push_of_some _ e) (by rw [Heap.size_push]; exact Nat.le_succ _) ?_ (.drawn s.heap.objs.size _ ks 0 (Heap.get?_push_size _ rfl) rfl pm) (fun p e => by cases e; exact List.mem_singleton.mpr rfl) (fun b hb => by rw [List.mem_singleton.mp hb, Heap.size_push]; exact ⟨Nat.le_refl _, Nat.lt_succ_self _⟩)
  have := pm.filterMap fun k => es[k]?
  rw [filterMap_getElem?_range] at this
  exact this
 | false =>
  simp only [Bool.false_eq_true, ↓reduceIte]
  refine wpAny_bind (wpAny_pure ?_)
  cases b : byText w with
  | true =>
   have := fin (.int (0 : Nat) 0) s.heap s.drawn _ [] (fun _ _ e => e) (Nat.le_refl _) (pick_perm (w.params.setOrder a ep) es) (.text 0 b) (fun p e => by cases e) (fun b hb => by cases hb)
   cases s; exact this
  | false =>
   rw [b] at c ok
   have := fin (.int (0 : Nat) 0) s.heap s.drawn _ [] (fun _ _ e => e) (Nat.le_refl _) (List.Perm.refl _) (.place 0 b (by simpa using c) ok.led ok.ris (by
    obtain ⟨_, b2, _⟩ := below_ok ok.ris 0
    by_cases z : SetTable.below t.place 0 = 0
    ·exact z
    ·exact absurd (b2 0 (by omega)) (Nat.not_lt_zero _))) (fun p e => by cases e) (fun b hb => by cases hb)
   cases s; exact this
end
end SI

namespace SI
open PySem PyProof.Rows
theorem sub_set_set : isSubtype (.type "set") (.type "set") = pure true := by rw [isSubtype_type]; kernel_rfl
section
variable {prog : Program} {w : World} {A : Around} {E : Value → Shared → Prop} {s : Shared} {a : Addr} {o : Obj} {es : Array (Int × Value)} {ep : Nat} {t : SetTable}
theorem hint_set (hT : s.TypeIs (.ref a) "set") {Q : Bool → Shared → Prop} (h : Q false s) : wpAny (model prog w) A (Builtin.List.listLengthHint (.ref a)) Q E s := by
 unfold Builtin.List.listLengthHint
 refine wpAny_bind (wpAny_specialOf hT PySem.F.slot_set_len.lookup ?_)
 dsimp only
 rw [show splitId "set.__len__" = some ("set", "__len__") by decide +kernel]
 dsimp only
 refine wpAny_bind (wpAny_isInstance hT sub_set_set ?_)
 simp only [Bool.not_true, Bool.false_eq_true, ↓reduceIte]
 refine wpAny_ite_split (fun _ => ?_) (fun hab => absurd (by decide +kernel) hab)
 refine wpAny_bind (wpAny_typeOf hT ?_)
 exact wpAny_pure h
theorem collect_set (hh : A.handled = none) (L : Lies s.heap a o es ep t) (ok : TOk (!byText w) t) (hz : es.size ≤ 5000) {Q : List Value → Shared → Prop}
  (h : ∀ (ord : List (Int × Value)) (s' : Shared), ord.Perm es.toList → (∀ b o, s.heap.get? b = some o → s'.heap.get? b = some o) → s'.gens = s.gens → s'.os = s.os → s.toks ≤ s'.toks → s.heap.objs.size ≤ s'.heap.objs.size → Q (ord.map (·.2)) s') : wpAny (model prog w) A (collect (.ref a)) Q E s := by
 have la : a < s.heap.objs.size := Heap.lt_size L.at'
 have hT : s.TypeIs (.ref a) "set" := ⟨o, L.at', L.ex.1⟩
 unfold collect
 refine wpAny_bind (wpAny_runValue (codeAny_builtin PySem.F.entry_proto_collect ?_))
 rw [Around.under_plainId PySem.F.plain_proto_collect _]
 show wpAny _ A.in1 (newList [] >>= fun l => again (.builtin "list.__iadd__" ⟨[l, .ref a], []⟩)) _ _ s
 refine wpAny_bind (wpAny_newObj_type ?_)
 refine wpAny_pure ⟨plainId_quiet PySem.F.plain_list_iadd _, codeAny_builtin PySem.F.entry_list_iadd ?_⟩
 rw [Around.under_plainId PySem.F.plain_list_iadd _]
 have L1 : Lies (s.heap.push { cls := .type "list", data := .seq ([] : List Value).toArray }) a o es ep t := L.kept fun o e => Heap.get?_push_of_some _ e
 have hS0 : (s.heap.push { cls := .type "list", data := .seq ([] : List Value).toArray }).get? s.heap.objs.size = some { cls := .type "list", data := .seq ([] : List Value).toArray } := Heap.get?_push_size _ rfl
 have z0 : (s.heap.push { cls := .type "list", data := .seq ([] : List Value).toArray }).objs.size = s.heap.objs.size + 1 := Heap.size_push _ _
 have hk0 : ∀ b o, s.heap.get? b = some o → (s.heap.push { cls := .type "list", data := .seq ([] : List Value).toArray }).get? b = some o := fun b o e => Heap.get?_push_of_some _ e
 show wpAny _ A.in1 (Builtin.List.listExtendWith (.ref s.heap.objs.size) (.ref a) (.ref s.heap.objs.size)) _ _ { s with heap := s.heap.push { cls := .type "list", data := .seq ([] : List Value).toArray } }
 generalize s.heap.push { cls := .type "list", data := .seq ([] : List Value).toArray } = h1 at L1 hS0 z0 hk0
 have hT1 : Shared.TypeIs { s with heap := h1 } (.ref a) "set" := ⟨o, L1.at', L.ex.1⟩
 unfold Builtin.List.listExtendWith
 refine wpAny_bind (wpAny_typeOf hT1 ?_)
 have e1 : Builtin.List.listSameRef (.ref s.heap.objs.size) (.ref a) = false := by
  have : s.heap.objs.size ≠ a := Nat.ne_of_gt la
  simp [Builtin.List.listSameRef, this]
 have e2 : (Value.type "set" == Value.type "list") = false := by decide
 have e3 : (Value.type "set" == Value.type "tuple") = false := by decide
 simp only [e1, e2, e3, Bool.or_false, Bool.false_eq_true, if_false]
 refine wpAny_bind (iter_set (s := { s with heap := h1 }) L1 ok hz fun I ord fp h2 d pm hI Ifp afp hnew hlt hk2 st => ?_)
 have hS2 := hk2 _ _ hS0
 refine wpAny_bind (wpAny_holding (hint_set (s := { s with heap := h2, drawn := d }) ⟨o, hk2 _ _ L1.at', L.ex.1⟩ ?_))
 have Sn : s.heap.objs.size ∉ fp := fun hb => by
  rcases hnew _ hb with z | z
  ·exact absurd z (Nat.ne_of_gt la)
  ·have z : h1.objs.size ≤ s.heap.objs.size := z
   omega
 refine wpAny_ite_split (fun _ => ?_) (fun hab => absurd (by decide +kernel) hab)
 refine wpAny_bind (wpAny_rule ?_)
 refine wpAny_bind ?_
 show wpAny _ A.in1 (updateSeq s.heap.objs.size (·.push .none) >>= fun _ => updateSeq s.heap.objs.size (·.pop)) _ _ _
 refine wpAny_bind (wpAny_updateSeq hS2 rfl ?_)
 have hS3 := Heap.get?_update_self (Obj.mapSeq (·.push Value.none)) hS2 rfl
 refine wpAny_updateSeq hS3 rfl ?_
 have hS4 := Heap.get?_update_self (Obj.mapSeq (·.pop)) hS3 rfl
 have oth : ∀ b o, b ≠ s.heap.objs.size → h2.get? b = some o → ((h2.update s.heap.objs.size (Obj.mapSeq (·.push Value.none))).update s.heap.objs.size (Obj.mapSeq (·.pop))).get? b = some o :=
  fun b o hb e => (Heap.get?_update_other _ _ (Ne.symm hb)).trans ((Heap.get?_update_other _ _ (Ne.symm hb)).trans e)
 have lord : ord.length = es.size := by rw [pm.length_eq, Array.length_toList]
 have hI' : s.heap.objs.size ≤ I := Nat.le_trans (by omega : s.heap.objs.size ≤ h1.objs.size) hI
 have aI : a ≠ I := Nat.ne_of_lt (Nat.lt_of_lt_of_le la hI')
 have W := walks_set (prog := prog) (w := w) (A := A.in1) (by simp [hh]) aI Ifp afp o es ep t ord lord
 refine wpAny_pure ⟨plainId_quiet PySem.F.plain_extend_loop _, codeAny_extend_loopS W (by rw [sizeLine_eq]; omega) _ Sn _ es.size 0 _ _ _ rfl (Nat.zero_le _)
  (W.frame 0 ({ s with heap := h2, drawn := d } : Shared) _ s.toks st (Nat.le_refl _) fun b hb o e => oth b o (fun z => Sn (z ▸ hb)) e) hS4 (ItemsOf.nil _) fun s' acc' c' hm hS' hacc => ?_⟩
 show wpAny _ A (load s.heap.objs.size >>= _) _ _ s'
 refine wpAny_bind (wpAny_load hS' ?_)
 have ea : acc'.toList = ord.map (·.2) := by
  refine List.ext_getElem? fun i => ?_
  rw [List.getElem?_map, Array.getElem?_toList]
  by_cases c : i < es.size
  ·have g : acc'[i]? = some (acc'[i]'(by rw [hacc.1]; exact c)) := getElem?_pos acc' i (by rw [hacc.1]; exact c)
   obtain ⟨k, ek⟩ := hacc.2 i _ g
   rw [g, ek]; rfl
  ·rw [Array.getElem?_eq_none (by rw [hacc.1]; omega), List.getElem?_eq_none (by omega)]; rfl
 refine wpAny_pure ?_
 rw [ea]
 have kk : ∀ b o, s.heap.get? b = some o → s'.heap.get? b = some o := fun b o e => by
  have lb := Heap.lt_size e
  refine hm.heap b o (fun z => ?_) (oth b o (Nat.ne_of_lt lb) (hk2 _ _ (hk0 _ _ e)))
  rcases List.mem_cons.mp z with z | z
  ·exact absurd z (Nat.ne_of_lt lb)
  ·exact absurd (List.mem_singleton.mp z) (Nat.ne_of_lt (Nat.lt_of_lt_of_le lb hI'))
 exact h ord s' pm kk hm.gens hm.os hm.toks (Nat.le_of_lt (Heap.lt_size hS'))
end
end SI

namespace SI
open PySem PyProof.Rows TM
noncomputable def intO : KeyOrd := ⟨Int, fun a b => decide (a < b), fun a => decide_eq_false (by omega), fun a b c h1 h2 => decide_eq_true (Int.lt_trans (of_decide_eq_true h1) (of_decide_eq_true h2)),
 fun a b c h => by
  have := of_decide_eq_true h
  by_cases l : a < b
  ·exact .inl (decide_eq_true l)
  ·exact .inr (decide_eq_true (by omega)),
 fun a b h1 h2 => by
  have := of_decide_eq_false h1
  have := of_decide_eq_false h2
  omega⟩
theorem sub_perm {α : Type} [DecidableEq α] (l1 l2 : List α) (nd : l1.Nodup) (sub : ∀ x ∈ l1, x ∈ l2) (h : l2.length ≤ l1.length) : l1.Perm l2 := by
 induction l1 generalizing l2 with
 | nil =>
  have : l2 = [] := List.length_eq_zero_iff.mp (Nat.le_zero.mp h)
  subst this; exact .nil
 | cons x l1 ih =>
  have nd' := List.nodup_cons.mp nd
  have hx := sub x List.mem_cons_self
  refine List.Perm.trans ?_ (List.perm_cons_erase hx).symm
  refine (ih (l2.erase x) nd'.2 (fun y hy => ?_) ?_).cons x
  ·have ne : y ≠ x := fun e => nd'.1 (by rw [← e]; exact hy)
   exact (List.mem_erase_of_ne ne).mpr (sub y (List.mem_cons_of_mem _ hy))
  ·rw [List.length_erase_of_mem hx]
   rw [List.length_cons] at h
   omega
section
variable {prog : Program} {w : World} {A : Around} {E : Value → Shared → Prop} {s : Shared}
theorem vF {vs : List Value} (h : ∀ v ∈ vs, ∃ n t, v = .int n t) : IntsAre vs (vs.map numOf) := intsAre_map vs h
theorem sorts_ints {vs : List Value} (h : ∀ v ∈ vs, ∃ n t, v = .int n t) : Sorts (O := intO) prog w s numOf oneType' vs := by
 refine ⟨fun A E h' _ h2 Q hq => ?_, fun A h' _ x y hx hy E Q hq => ?_⟩
 ·cases vs with
  | nil => simp at h2
  | cons v1 vs =>
   cases vs with
   | nil => simp at h2
   | cons v2 vs =>
    rw [keyKind_ints (vF h)]
    exact wpAny_pure hq
 ·have mem : ∀ p : Keyed, p ∈ (pairsOf vs).toList → p.1 ∈ vs := fun p hp => by
   rw [pairsOf_toList] at hp
   exact (List.of_mem_zip hp).1
  obtain ⟨n, t, e1⟩ := h _ (mem x hx)
  obtain ⟨m, u, e2⟩ := h _ (mem y hy)
  rw [e1, e2] at hq
  rw [e1, e2, keyLt'_oneType]
  exact oneLt_int hq
theorem sorted_set (hh : A.handled = none) {a : Addr} {ks : List Int} (hS : SetX prog w s.heap (!byText w) a (fun k => ks.any (· == k)) ks.length) (nd : ks.Nodup) (hz : ks.length ≤ 1000) {Q : Value → Shared → Prop}
  (h : ∀ (p : Addr) (vs : List Value) (ms : List Int) (e : Nat) (s' : Shared), IntsAre vs ms → ms.Perm ks → ms.Pairwise (· ≤ ·) → s.heap.objs.size ≤ p → s'.heap.get? p = some (seqObj "list" vs.toArray e) → (∀ b o, s.heap.get? b = some o → s'.heap.get? b = some o) → s'.gens = s.gens → s'.os = s.os → Q (.ref p) s') :
  wpAny (model prog w) A (call (.builtin "sorted") [.ref a]) Q E s := by
 obtain ⟨o, es, ep, t, ho, hex, hd, hel, hmem, hb, hf, hn, ok⟩ := hS
 have int : ∀ e ∈ es.toList, ∃ n t, e.2 = .int n t := fun e he => by
  obtain ⟨⟨k, hk, _⟩, _⟩ := hel e he
  obtain ⟨a1, v⟩ := e
  cases v <;> first | (exact ⟨_, _, rfl⟩) | (simp [intKind, Value.isInt] at hk)
 refine Calls.call_function_entry kind_sorted plain_sorted entry_sorted (args_sorted1 _) ?_
 unfold Builtin.«sorted»
 refine wpAny_bind (m := checkCount "sorted" 1 1 _) (wpAny_pure ?_)
 refine wpAny_bind (collect_set (A := A.in1) (by simp [hh]) ⟨ho, hex, hd, hf⟩ ok (by omega) fun ord s1 pm kp hg hos _ hsz => ?_)
 have lord : (ord.map (·.2)).length = ks.length := by rw [List.length_map, pm.length_eq, Array.length_toList, hn]
 have vint : ∀ v ∈ ord.map (·.2), ∃ n t, v = .int n t := fun v hv => by
  obtain ⟨e, he, rfl⟩ := List.mem_map.mp hv
  exact int e (pm.mem_iff.mp he)
 have z1 : (ord.map (·.2)).length ≤ sizeLine := by rw [lord, sizeLine_eq]; omega
 refine wpAny_bind (wpAny_newList ?_ z1)
 have hoL : (s1.heap.push (seqObj "list" (ord.map (·.2)).toArray 0)).get? s1.heap.objs.size = some (seqObj "list" (ord.map (·.2)).toArray 0) := Heap.get?_push_size _ rfl
 refine wpAny_bind (wpAny_holding (wpAny_call_entry slot_list_sort ⟨_, hoL, rfl⟩ entry_list_sort (sort_any (s := { s1 with heap := s1.heap.push (seqObj "list" (ord.map (·.2)).toArray 0) }) (h0 := s1.heap) (sorts_ints vint) (fun b o e => Heap.get?_push_of_some _ e) (Heap.get?_none_of_le (Nat.le_refl _)) hoL z1 fun out a1 a2 => ⟨_, rfl, ?_⟩) (args_list_sort _)))
 refine wpAny_pure ⟨_, rfl, ?_⟩
 obtain ⟨e, he⟩ := sortedHeap_at (out := out) hoL
 have oint : ∀ v ∈ out.toList, ∃ n t, v = .int n t := fun v hv => vint v (a1.mem_iff.mp hv)
 have kk : ∀ k : Int, k ∈ (ord.map (·.2)).map numOf ↔ k ∈ ks := fun k => by
  have m := hmem k
  have e1 : (ks.any (· == k)) = true ↔ k ∈ ks := by simp
  rw [← e1, m, List.map_map]
  constructor
  ·intro hk
   obtain ⟨x, hx, rfl⟩ := List.mem_map.mp hk
   obtain ⟨n, t', ex⟩ := int x (pm.mem_iff.mp hx)
   refine ⟨x, pm.mem_iff.mp hx, ?_⟩
   show (intKind prog w).is (numOf x.2) x.2 = true
   rw [ex]; exact intKind_is prog w n t'
  ·rintro ⟨x, hx, hk⟩
   obtain ⟨n, t', ex⟩ := int x hx
   refine List.mem_map.mpr ⟨x, pm.mem_iff.mpr hx, ?_⟩
   show numOf x.2 = k
   rw [ex] at hk ⊢
   exact (intKind prog w).inj _ _ _ (intKind_is prog w n t') hk
 have p1 : ((ord.map (·.2)).map numOf).Perm ks := (sub_perm ks _ nd (fun k hk => (kk k).mpr hk) (by rw [List.length_map, lord]; exact Nat.le_refl _)).symm
 refine h s1.heap.objs.size out.toList (out.toList.map numOf) e _ (vF oint) ((a1.map numOf).trans p1) ?_ hsz (by rw [Array.toArray_toList]; exact he) (fun b o q => ?_) hg hos
 ·rw [List.pairwise_map]
  refine a2.imp fun {x y} hxy => ?_
  have hxy : decide (numOf y < numOf x) = false := hxy
  have := of_decide_eq_false hxy
  omega
 ·have q1 := kp b o q
  have lb := Heap.lt_size q1
  show (sortedHeap _ _ _ _).get? b = some o
  rw [sortedHeap_old (Nat.ne_of_lt lb) (by rw [Heap.size_push]; exact Nat.lt_succ_of_lt lb)]
  exact Heap.get?_push_of_some _ q1
end
end SI
namespace L2
open PySem PySem.Spec PyProof.Rows
section
variable {X : Cx} {pins : List (Addr × Obj)} {σ : St} {H H' : Hp} {s : Shared}
theorem Inv.laidD {a : Addr} {o : HO} {s' : Shared} (I : Inv X pins σ H s) (k : ∀ b u, s.heap.get? b = some u → s'.heap.get? b = some u) (hp : s.heap.objs.size ≤ a) (new : ObjOk X.prog X.w (upd H a o) s'.heap a o) (hg : s'.gens = s.gens) (hos : s'.os = s.os) :
  Inv X pins σ (upd H a o) s' := by
 obtain ⟨h', g', d', t', o'⟩ := s'
 have e1 : g' = s.gens := hg
 have e2 : o' = s.os := hos
 subst e1 e2
 have u : Un X.fs [] H (upd H a o) s.heap h' := Un.laid k hp (I.hok.fresh hp)
 obtain ⟨m, ⟨ol, es, ep, ho, r⟩, _⟩ := id I.loc
 obtain ⟨sl, hL⟩ := u.any ho I.free (by simp)
 exact I.step (g' := s.gens) (d' := d') (ch := []) (fun _ z => nomatch z) (fun b o _ hb _ e n => u.keep b o e n hb (by simp)) (fun b o _ hb _ e n => u.slot b o e n hb (by simp)) (fun b o _ e n => u.free b o e n (by simp)) (fun b o _ e => u.there b o e (by simp)) u.tups u.frzs u.tbls (fun m' hm => by
  obtain ⟨o', es', ep', ho', r'⟩ := hm
  rw [ho] at ho'; cases ho'
  exact ⟨_, es', ep', hL, r'⟩) (I.hok.laid k hp new) I.bare
end
noncomputable def SetI (P : Program) (w : World) (a : Addr) (ks : List Int) : HO := .ext fun h => SI.SetX P w h (!SI.byText w) a (fun k => ks.any (· == k)) ks.length
noncomputable def rSetI (P : Program) (w : World) (K : PySem.W.Frag) : List V → Hp → VK → Prop := fun xs H Q => ∃ (l : Addr) (ns : List Int), xs = [.ref l] ∧ SqL K H l (ns.map V.int) ∧ ns.length ≤ 1000 ∧ ∀ p, H p = none → Q (.ref p) (upd H p (SetI P w p (SI.uniq ns)))
noncomputable def rLenI (P : Program) (w : World) : List V → Hp → VK → Prop := fun xs H Q => ∃ (p : Addr) (ks : List Int), xs = [.ref p] ∧ H p = some (SetI P w p ks) ∧ ks.length ≤ 1000 ∧ Q (.int ks.length) H
noncomputable def rSortI (P : Program) (w : World) : List V → Hp → VK → Prop := fun xs H Q => ∃ (p : Addr) (ks : List Int), xs = [.ref p] ∧ H p = some (SetI P w p ks) ∧ ks.Nodup ∧ ks.length ≤ 1000 ∧
 ∀ (l : Addr) (ms : List Int), H l = none → ms.Perm ks → ms.Pairwise (· ≤ ·) → Q (.ref l) (upd H l (.lst (ms.map V.int)))
section
variable {X : Cx} {P : Program} {w : World} {K : PySem.W.Frag}
theorem call_setI (hc : X.calm = true) (hP : X.prog = P := by rfl) (hw : X.w = w := by rfl) (hK : X.K = K := by rfl) : CallR X (.type "set") (rSetI P w K) := by
 subst hK hP hw
 intro pins s σ H xs us Q I r h
 obtain ⟨l, ns, rfl, hl, hz, q⟩ := h
 obtain ⟨u, rfl, ru⟩ := vals1 r
 cases ru
 obtain ⟨its, r1, p1, _⟩ := I.list hl
 have len := r1.length
 rw [List.length_map] at len
 have sc : scanBound = 4096 := rfl
 refine SI.call_set_ints (I.ok.hd hc) p1.isList (ns := ns) (by simpa using ints_are r1) (by rw [List.size_toArray]; omega) fun h' tk hS keep => ?_
 refine ⟨.ref s.heap.objs.size, _, I.laid (t' := tk) (o := SetI X.prog X.w s.heap.objs.size (SI.uniq ns)) keep (Nat.le_refl _) ⟨hS, ?_, ?_⟩, rfl, q _ (I.hok.fresh (Nat.le_refl _))⟩
 ·obtain ⟨o, _, _, _, e, _⟩ := hS
  exact ⟨o, e⟩
 ·rintro h1 h2 x k
  exact x.kept fun o e => k o e
theorem call_lenI (hP : X.prog = P := by rfl) (hw : X.w = w := by rfl) : CallR X (.builtin "len") (rLenI P w) := by
 subst hP hw
 intro pins s σ H xs us Q I r h
 obtain ⟨p, ks, rfl, hp, hn, q⟩ := h
 obtain ⟨u, rfl, ru⟩ := vals1 r
 cases ru
 obtain ⟨⟨o, es, ep, t, e, ex, ed, _, _, _, ef, en, _⟩, _⟩ := I.hok p _ hp
 rw [← en] at q hn
 exact call_len_set e ex ed ef (by omega) ⟨.int _, H, I.tok _, ⟨_, rfl⟩, q⟩
theorem call_sortI (hc : X.calm = true) (hP : X.prog = P := by rfl) (hw : X.w = w := by rfl) : CallR X (.builtin "sorted") (rSortI P w) := by
 subst hP hw
 intro pins s σ H xs us Q I r h
 obtain ⟨p, ks, rfl, hp, nd, hn, q⟩ := h
 obtain ⟨u, rfl, ru⟩ := vals1 r
 cases ru
 obtain ⟨hS, _⟩ := I.hok p _ hp
 refine SI.sorted_set (I.ok.hd hc) hS nd hn fun l vs ms e s' hi pm so hsz he kp hg hos => ?_
 have vv : Vals (ms.map V.int) vs := by
  clear he so pm
  induction hi with
  | nil => exact .nil
  | cons n t _ ih => exact .cons ⟨t, rfl⟩ ih
 refine ⟨.ref l, _, I.laidD (o := .lst (ms.map V.int)) kp hsz (show ObjOk X.prog X.w _ s'.heap _ (.lst (ms.map V.int)) from ⟨?_, vs, e, vv, he⟩) hg hos, rfl, q l ms (I.hok.fresh hsz) pm so⟩
 rw [List.length_map, pm.length_eq, sizeLine_eq]; omega
end
end L2

namespace L2
open PySem PySem.Spec PyProof.Rows
section
variable {X : Cx}
end
end L2

namespace L2
open PySem PySem.Spec PyProof.Rows
section
variable {X : Cx} {tg : Expr}
end
section
variable {k : Nat} {js : List Nat} {g : TG} {tt : TT} {te : TE} {σ : St} {H1 : Hp} {Q : VK}
end
end L2
namespace HT
open PySem PySem.Spec PyProof.Rows
section
variable {prog : Program} {w : World} {A : Around} {E : Value → Shared → Prop} {s : Shared}
end
end HT
namespace L2
open PySem PySem.Spec PyProof.Rows
end L2

namespace L2
open PySem PySem.Spec PyProof.Rows
theorem w_yes {σ : St} {H : Hp} {R : Bool → Hp → Prop} (q : R true H) : tYes σ H R := q
end L2

namespace L2
open PySem PySem.Spec PyProof.Rows
section
variable {M : Model} {A : Around} {E : Value → Shared → Prop} {s : Shared}
end
end L2

namespace L2
open PySem PySem.Spec PyProof.Rows
section
variable {P : Program} {w : World} {K : PySem.W.Frag} {mg : Str → Option Value} {base : Heap} {N0 : List Str} {qual : Str} {sc : Scope} {f : Addr} {cd : Value} {A : Around} {outer : List Env} {s₀ : Shared} {H₀ : Hp} {E1 : XK} {scope : Scope} {cl : List (Str × Addr)} {N : List Str}
end
section
variable {P : Program} {w : World} {K : PySem.W.Frag} {mg : Str → Option Value} {base : Heap} {N0 : List Str} {qual : Str} {sc : Scope} {f : Addr} {cd : Value} {A : Around} {outer : List Env} {s₀ : Shared} {H₀ : Hp}
variable {X : Cx} {elt tg iter : Expr} {ifs : List Expr} {scope : Scope} {cpos : Pos} {N : List Str} {k : Nat} {js : List Nat} {cl : List (Str × Addr)} {g : TG} {tt : TT} {te : TE}
end
section
variable {Y : Cx} {E : XK} {P : Program} {w : World} {K : PySem.W.Frag} {mg : Str → Option Value} {base : Heap} {j k : Nat} {ps : List Str} {sp : Sp} {x : Str} {p pos : Pos} {e : Expr} {es : List Expr} {t : TA}
end
end L2

namespace L2
open PySem PySem.Spec PyProof.Rows
section
variable {M : Model} {A : Around} {E : Value → Shared → Prop}
end
section
variable {X : Cx} {pins : List (Addr × Obj)} {σ : St} {H : Hp} {s : Shared}
end
end L2

namespace L2
open PySem PySem.Spec PyProof.Rows
theorem Dx.calm {P : Program} {w : World} {K : PySem.W.Frag} {mg : Str → Option Value} {base : Heap} {x : Str} {k : Nat} {ps : List Str} {sp : Sp} (D : Dx P w K mg base x k ps sp) : Dn P w K mg base x k ps (fun vs H Q _ => sp vs H Q fun _ _ _ => False) := by
 obtain ⟨f, fd, F, a, b, c⟩ := D.ex
 refine ⟨f, fd, ⟨fun vs H Q E h => F.len vs H Q _ h, fun A outer s H args us vs Q E hr e hb r h => ?_⟩, a, b, c⟩
 refine codeAny_mono (F.run A outer s H args us vs Q _ hr e hb r h) fun a s' hq => ?_
 match a, hq with
 | .error _, hq => obtain ⟨_, _, _, _, _, _, _, _, _, _, _, _, _, _, z⟩ := hq; exact z.elim
 | .ok (.ret _), hq => exact hq
end L2

local macro_rules | `(tactic| wtm_at "zh") => `(tactic| first | assumption | exact L2.qW | (refine L2.qV (by assumption) _ _ _ ?_; wtm_at "zh") | (refine (show L2.Same _ _ by assumption) _ _ ?_; wtm_at "zh"))
local macro_rules | `(tactic| wtm_at "zs") => `(tactic| first | assumption | exact L2.SqT.of (by wtm_at "zh") | exact L2.SqL.of (by wtm_at "zh") | (refine L2.Same.seq (by assumption) ?_; wtm_at "zs"))
local macro_rules | `(tactic| wtm_at "zo") => `(tactic| first | exact Or.inl rfl | exact Or.inr rfl)
local macro_rules | `(tactic| wtm_at "zat") => `(tactic| first | rfl | assumption | exact L2.at_head _ _ | exact FP.at_int (by assumption) | exact L2.zI (by assumption))
local macro_rules | `(tactic| wtm_at "zw") => `(tactic| repeat first
 | (with_reducible first | apply L2.w_seq | apply L2.w_asg | apply L2.w_c | apply L2.w_name | apply L2.w_op | apply L2.w_un | apply L2.w_I0 | apply L2.w_U | apply L2.w_test | apply L2.w_B | apply L2.w_bl | apply L2.w_exI | apply L2.w_not | apply L2.w_and | apply L2.w_or | apply L2.w_andV | apply L2.w_orV | apply L2.w_notV | apply L2.w_if | apply L2.w_ifS | apply L2.w_drop | apply L2.w_ret | apply L2.w_next | apply L2.w_cons | apply L2.w_nil | apply L2.w_call | apply L2.w_cb | apply L2.w_tup | apply L2.w_lst | apply L2.w_bm0 | apply L2.w_bm | apply L2.w_sl | apply L2.w_noPart | apply L2.w_part | apply L2.w_iList | apply L2.w_iTup | apply L2.w_rng1 | apply L2.w_yes)
 | ((with_reducible show L2.tVar _ _ _ _); refine L2.w_var rfl ?_)
 | ((with_reducible show L2.rEq _ _ _ _); refine L2.w_eq rfl ?_)
 | ((with_reducible show L2.rNe _ _ _ _); refine L2.w_ne rfl ?_)
 | ((with_reducible show L2.rIxT _ _ _ _ _); refine L2.w_ixT (by wtm_at "zs") (by wtm_at "zat") ?_)
 | ((with_reducible show L2.rIxL _ _ _ _ _); refine L2.w_ixL (by wtm_at "zs") (by wtm_at "zat") ?_)
 | ((with_reducible show L2.gTup _ _ _ _ _ _ _); refine L2.w_gtup (by wtm_at "zs") rfl ?_)
 | ((with_reducible show L2.rLen _ _ _ _); refine L2.w_len (by first | exact .inl (by wtm_at "zs") | exact .inr (by wtm_at "zs")) ?_)
 | apply L2.w_true (FP.yQ _)
 | refine L2.w_false (FP.xW (by assumption)) ?_
 | refine L2.w_false (FP.xW (by decide +kernel)) ?_
 | (with_reducible first | apply L2.iteT | apply L2.iteF | apply L2.iteNT | apply L2.iteNF))
local macro_rules | `(tactic| wtm_at "zf") => `(tactic| wtm_at "zw"; (with_reducible first | apply L2.w_for | apply L2.w_comp); wtm_at "zw")
set_option tactic.hygienic false
namespace FP
open PySem L2
structure Bl (mg : Str → Option Value) : Prop where
 len' : mg "len" = none
 range' : mg "range" = none
 min' : mg "min" = none
 isinstance' : mg "isinstance" = none
 list' : mg "list" = none
 reversed' : mg "reversed" = none
 tuple' : mg "tuple" = none
 int' : mg "int" = none
 bool' : mg "bool" = none
 dict' : mg "dict" = none
 zip' : mg "zip" = none
structure FunE (K : PySem.W.Frag) (mg : Str → Option Value) (x : Str) (f : Addr) (fd : FuncData) (ps : List Str) : Prop where
 mg : mg x = some (.ref f)
 kp : PySem.W.keepIn K (.ref f) = true
 bd : Binds K fd ps []
section
seal L2.PE L2.PA L2.PS L2.PSs
variable {P : Program} {w : World} {K : PySem.W.Frag} {mg : Str → Option Value} {base : Heap}

theorem nat_lt {n : Int} {B : Nat} (h0 : 0 ≤ n) (h : n < (B : Int)) : n.natAbs < B := by omega
theorem big (n : Int) (h0 : 0 ≤ n) (h : n < 10 ^ 200) : n.natAbs < 2 ^ 1000 := nat_lt h0 (Int.lt_of_lt_of_le h (by decide +kernel))
theorem mul_bd {a b c d : Int} (ha : 0 ≤ a) (hb : 0 ≤ b) (h1 : a ≤ c) (h2 : b ≤ d) : 0 ≤ a * b ∧ a * b ≤ c * d :=
 ⟨Int.mul_nonneg ha hb, Int.mul_le_mul h1 h2 hb (Int.le_trans ha h1)⟩

theorem vG {K : PySem.W.Frag} {a : Addr} {xs : List V} {g : TG} {tb : TS} {D : Ends} {σ : St} {H : Hp} (Pv : Nat → St → Hp → Prop) (h0 : Pv 0 σ H) (hl : ∀ i σ H, i ≤ xs.length → Pv i σ H → SqL K H a xs)
  (hs : ∀ (N : St → Hp → Prop) (rt : VK) (bk : St → Hp → Prop) i x σ H, xs[i]? = some x → Pv i σ H → (∀ σ H, Pv (i + 1) σ H → N σ H) → g x σ H fun σ2 H2 => tb ⟨N, rt, bk, N⟩ σ2 H2) (hd : ∀ σ H, Pv xs.length σ H → D.nx σ H) :
  ∃ W : Nat → Nat → St → Hp → Prop, (∃ m, W 0 m σ H) ∧ ∀ i m σ H, W i m σ H →
   ((Itl K a).stop i H ∧ D.nx σ H) ∨ ((Itl K a).go i H ∧ ∃ N : St → Hp → Prop, (∀ σ' H', N σ' H' → ∃ m', m' < m ∧ W (i + 1) m' σ' H') ∧ ∀ x H', (Itl K a).yld i H x H' → g x σ H' fun σ2 H2 => tb { D with nx := N, ct := N, bk := D.nx } σ2 H2) :=
 jE Pv h0 hl (fun i x σ H e p => hs _ _ _ i x σ H e p fun _ _ z => z) hd
theorem zP {lo : Int} {n : Nat} {g : TG} {tb : TS} {D : Ends} {σ : St} {H : Hp} (Pv : Nat → St → Hp → Prop) (h0 : Pv 0 σ H)
  (hs : ∀ (N : St → Hp → Prop) (rt : VK) (bk : St → Hp → Prop) i σ H, i < n → Pv i σ H → (∀ σ H, Pv (i + 1) σ H → N σ H) → g (.int (lo + i)) σ H fun σ2 H2 => tb ⟨N, rt, bk, N⟩ σ2 H2) (hd : ∀ σ H, Pv n σ H → D.nx σ H) :
  ∃ W : Nat → Nat → St → Hp → Prop, (∃ m, W 0 m σ H) ∧ ∀ i m σ H, W i m σ H →
   ((Itr lo n).stop i H ∧ D.nx σ H) ∨ ((Itr lo n).go i H ∧ ∃ N : St → Hp → Prop, (∀ σ' H', N σ' H' → ∃ m', m' < m ∧ W (i + 1) m' σ' H') ∧ ∀ x H', (Itr lo n).yld i H x H' → g x σ H' fun σ2 H2 => tb { D with nx := N, ct := N, bk := D.nx } σ2 H2) :=
 for_range Pv h0 (fun i σ H e p => hs _ _ _ i σ H e p fun _ _ z => z) hd

theorem sc_named : FnScope ["things", "name", "kind", "thing"] ["things", "name", "kind"] (xB (top 12)) := ⟨rfl, rfl, rfl, by decide +kernel, rfl, by decide +kernel, by decide +kernel⟩
noncomputable def NamesIn (H : Hp) (la : Addr) (xs : List Str) : Prop := ∃ us, H la = some (.lst us) ∧ Paired (fun x u => ∃ a ys, u = .ref a ∧ H a = some (.tup (.str x :: ys))) xs us
noncomputable def Short (x : Str) : Prop := x.length ≤ 1000 ∧ (reprText x).length ≤ 100000
noncomputable def spNamedX (C : Addr) : Sp := fun vs H Q E => ∃ (la : Addr) (xs : List Str) (x kd : Str), vs = [.ref la, .str x, .str kd] ∧ NamesIn H la xs ∧ Short x ∧ kd.length ≤ 100 ∧
 (x ∈ xs → ∀ u, Q u H) ∧ (x ∉ xs → E (.ref C) none H)
theorem xF {n : Nat} (h : n ≤ 1000000) : n ≤ sizeLine := by rw [show sizeLine = 16777216 by decide]; omega
theorem dx_named {C : Addr} (F : Fd K mg "named" (top 12) ["things", "name", "kind"]) (O_NoName : PyProof.Rows.OwnCls "NoName" C bmV "ValueError.__new__" mg base) : Dx P w K mg base "named" 1 ["things", "name", "kind"] (spNamedX C) := by
 refine F.okx sc_named (fun vs H Q E h => ?_) (fun f cdv A outer s H vs Q E hr h => ?_)
 ·obtain ⟨_, _, _, _, rfl, _⟩ := h
  rfl
 obtain ⟨la, xs, x, kd, rfl, ⟨us, ela, px⟩, ⟨sx, sr⟩, sk, q1, q2⟩ := h
 refine ⟨_, (qZ (zT PassesOwn.leaving rfl (xQ (K := K) (pv 0)) (qH (i := 3) sc_named.nd rfl (by wtm_at "zo")) (qJ (zJ (qS zD (xG (qT (K := K)) (pv 3) qF (fun _ _ => rfl)) (pv 1) (xE _)) (qJ (qO (pv 3))) qY)))
  (qJ (kN O_NoName (qQ (pe_joined (.cons qG (.cons (pe_fmt (pv 2)) (.cons qG (.cons (pe_fmtR (pv 1)) .nil))))) qX)))), ?_⟩
 wtm_at "zf"
 refine ⟨la, rfl, ⟨us, SqL.of ela⟩, ?_⟩
 refine jE (xs := us) (fun i σ' H' => ∃ z : Option V, σ' = [some (.ref la), some (.str x), some (.str kd), z] ∧ H' = H ∧ x ∉ xs.take i) ⟨none, rfl, rfl, by simp⟩ (fun i σ' H' _ hP => ?_) (fun i u σ' H' ex hP => ?_) (fun σ' H' hP => ?_)
 ·obtain ⟨_, rfl, rfl, _⟩ := hP
  exact SqL.of ela
 ·obtain ⟨z, rfl, rfl, hi⟩ := hP
  obtain ⟨y, ey⟩ : ∃ b, xs[i]? = some b := ⟨_, List.getElem?_eq_getElem (by rw [px.length]; exact (List.getElem?_eq_some_iff.mp ex).1)⟩
  obtain ⟨a, ys, rfl, ea⟩ := xV px ey ex
  wtm_at "zw"
  by_cases e : y = x
  ·subst e
   rw [yQ]
   refine iteT ?_
   wtm_at "zw"
   exact q1 (List.mem_of_getElem? ey) _
  ·rw [xW e]
   refine iteF ?_
   refine ⟨_, rfl, rfl, ?_⟩
   rw [List.take_add_one, ey]
   exact fun z => (List.mem_append.mp z).elim hi fun r => e (List.mem_singleton.mp r).symm
 ·obtain ⟨z, rfl, rfl, hi⟩ := hP
  rw [← px.length, List.take_length] at hi
  wtm_at "zw"
  refine ⟨"no ", rfl, ?_, .str kd, rfl, kd, rfl, ?_, kd, rfl, ?_, " is called ", rfl, ?_, .str x, rfl, x, rfl, ?_, _, rfl, ?_, ?_, ?_, q2 hi⟩
  all_goals refine xF ?_
  all_goals (try simp only [Str.length_append, List.length_cons, List.length_nil])
  all_goals (try rw [show (Str.empty : Str).length = 0 by decide])
  all_goals (try rw [show ("no " : Str).length = 3 by decide])
  all_goals (try rw [show (" is called " : Str).length = 11 by decide])
  all_goals omega

inductive Nd where
 | fin
 | act (x : Str) (to : Int)
 | see (x : Str) (fs : List (Int × Int))
noncomputable def NdAt (H : Hp) : Nd → V → Prop
 | .fin, u => ∃ a, u = .ref a ∧ H a = some (.tup [.str "end"])
 | .act x to, u => ∃ a, u = .ref a ∧ H a = some (.tup [.str "do", .str x, .int to])
 | .see x fs, u => ∃ a p us, u = .ref a ∧ H a = some (.tup [.str "look", .str x, .ref p]) ∧ H p = some (.tup us) ∧ Paired (PairI H) fs us
theorem PairI.same {H H' : Hp} {f : Int × Int} {u : V} (h : PairI H f u) (S : Same H H') : PairI H' f u := let ⟨a, e, h⟩ := h; ⟨a, e, S _ _ h⟩
theorem NdAt.same {H H' : Hp} {n : Nd} {u : V} (h : NdAt H n u) (S : Same H H') : NdAt H' n u := by
 cases n with
 | fin => obtain ⟨a, e, h⟩ := h; exact ⟨a, e, S _ _ h⟩
 | act x to => obtain ⟨a, e, h⟩ := h; exact ⟨a, e, S _ _ h⟩
 | see x fs => obtain ⟨a, p, us, e, h, h2, h3⟩ := h; exact ⟨a, p, us, e, S _ _ h, S _ _ h2, Paired.mapP h3 fun _ _ z => PairI.same z S⟩
noncomputable def Nd.leads : Nd → List Int
 | .fin => []
 | .act _ to => [to]
 | .see _ fs => fs.map (·.2)
noncomputable def Nd.Fine : Nd → Prop
 | .fin => True
 | .act x to => Short x ∧ to.natAbs < 10 ^ 100
 | .see x fs => Short x ∧ fs.length ≤ 1000 ∧ ∀ f ∈ fs, f.2.natAbs < 10 ^ 100
theorem Nd.Fine.leads_le {n : Nd} (h : n.Fine) : n.leads.length ≤ 1000 := by
 cases n with
 | fin => exact Nat.zero_le _
 | act x to => exact (by decide : 1 ≤ 1000)
 | see x fs => show (fs.map _).length ≤ _; rw [List.length_map]; exact h.2.1
theorem vJ : FnScope ["node"] ["node"] (xB (top 16)) := ⟨rfl, rfl, rfl, by decide +kernel, rfl, by decide +kernel, by decide +kernel⟩
theorem zS : CompOk (xB (top 16)) ["node"] (scAt (xC (top 16)) [2] []) ["worth", "follower"] 2 [] :=
 ⟨by decide +kernel, by decide +kernel, by decide +kernel, by decide +kernel, by decide +kernel, by decide +kernel, by decide +kernel, by decide +kernel⟩
noncomputable def spFollow : Sp := fun vs H Q _ => ∃ (n : Nd) (u : V), vs = [u] ∧ NdAt H n u ∧ n.Fine ∧ ∀ (l : Addr) (H' : Hp), H l = none → Same H H' → H' l = some (.lst (intsV n.leads)) → Q (.ref l) H'
theorem dn_follow (F : Fd K mg "followers_of" (top 16) ["node"]) : Dn P w K mg base "followers_of" 1 ["node"] spFollow := by
 refine F.ok vJ (fun vs H Q E h => ?_) (fun f cdv A outer s H vs Q E hr h => ?_)
 ·obtain ⟨_, _, rfl, _⟩ := h
  rfl
 obtain ⟨n, u, rfl, hn, fine, q⟩ := h
 refine ⟨_, (qZ (zJ (qS zD (xG (qT (K := K)) (pv 0) qF (fun _ _ => rfl)) qG (xE _)) (qJ (qO (xP qX))) qY)
  (qZ (zJ (qS zD (xG (qT (K := K)) (pv 0) qF (fun _ _ => rfl)) qG (xE _)) (qJ (qO (xP (qQ (xG (qT (K := K)) (pv 0) qF (fun _ _ => rfl)) qX)))) qY)
  (qJ (qO (jZ rfl zS (pi_tupK (K := K) (xG (qT (K := K)) (pv 0) qF (fun _ _ => rfl))) (fun cl fp s H => (vK (K := K) (n := 2) rfl (qI (qH (i := 0) zS.nd rfl (Or.inl rfl) (.inr rfl)) (qI (qH (i := 1) zS.nd rfl (Or.inl rfl) (.inr rfl)) qM)))) (fun cl fp s H => jQ) (fun cl fp s H => (pv 1))))))), ?_⟩
 cases n with
 | fin =>
  obtain ⟨a, rfl, ea⟩ := hn
  wtm_at "zw"
  exact ⟨xF (by decide), fun p hp => q p _ hp (qV hp _) qW⟩
 | act x to =>
  obtain ⟨a, rfl, ea⟩ := hn
  wtm_at "zw"
  exact ⟨xF (show 1 ≤ 1000000 by decide), fun p hp => q p _ hp (qV hp _) qW⟩
 | see x fs =>
  obtain ⟨a, p, us, rfl, ea, ep, pf⟩ := hn
  have lf := fine.2.1
  have lu := pf.length
  wtm_at "zf"
  refine ⟨p, rfl, ⟨us, SqT.of ep⟩, ?_⟩
  refine comp_tup (xs := us) (fun D i ys H' => ys = intsV ((fs.take i).map (·.2)) ∧ Same H H') (fun D hD => ⟨rfl, qV hD _⟩)
   (fun D i ys H' _ hP => SqT.of (hP.2 _ _ ep)) (fun D i u ys H' N hD hDy ex hP hN => ?_) (fun D ys H2 hD hDy hP => ?_)
  ·obtain ⟨rfl, hk⟩ := hP
   have hi := (List.getElem?_eq_some_iff.mp ex).1
   obtain ⟨g, eg⟩ : ∃ b, fs[i]? = some b := ⟨_, List.getElem?_eq_getElem (by omega)⟩
   obtain ⟨c, rfl, ec⟩ := xV pf eg ex
   have ec' := hk _ _ ec
   refine ⟨c, _, rfl, SqT.of ec', rfl, _, _, rfl, _, _, rfl, rfl, ⟨[some (.int g.1), some (.int g.2)], rfl, rfl⟩, ?_⟩
   refine ⟨_, rfl, hDy, ?_, hN _ _ qW ⟨?_, fun b o e => ?_⟩⟩
   ·rw [List.length_map, List.length_map, List.length_take]; exact small (by omega)
   ·rw [List.take_add_one, eg, List.map_append]; unfold intsV; rw [List.map_append]; rfl
   ·rw [qA (qB e hD)]; exact hk _ _ e
  ·obtain ⟨rfl, hk⟩ := hP
   rw [← lu, List.take_length] at hDy
   exact q D H2 hD hk hDy
theorem sc_is_whole : FnScope ["thing"] ["thing"] (xB (top 13)) := ⟨rfl, rfl, rfl, by decide +kernel, rfl, by decide +kernel, by decide +kernel⟩
noncomputable def spWhole : Sp := fun vs H Q _ => ∃ i : Int, vs = [.int i] ∧ Q (.bl true) H
theorem kit_ib : PySem.W.kitOne K (.type "int") (.type "bool") = some false := by with_unfolding_all rfl
theorem dn_whole (F : Fd K mg "is_whole" (top 13) ["thing"]) (B : Bl mg) : Dn P w K mg base "is_whole" 1 ["thing"] spWhole := by
 refine F.ok sc_is_whole (fun vs H Q E h => ?_) (fun f cdv A outer s H vs Q E hr h => ?_)
 ·obtain ⟨_, rfl, _⟩ := h
  rfl
 obtain ⟨i, rfl, q⟩ := h
 refine ⟨_, (qJ (qO (pe_and (xJ (jR (K := K)) rfl B.isinstance' xT (qQ (pv 0) (qQ (pe_ty rfl B.int' wQ) qX))) (pe_one (pe_not (xJ (jR (K := K)) rfl B.isinstance' xT (qQ (pv 0) (qQ (pe_ty rfl B.bool' bt_bool) qX)))))))), ?_⟩
 wtm_at "zw"
 refine ⟨.int i, "int", _, true, rfl, .int i, kit_of, ?_⟩
 wtm_at "zw"
 refine ⟨.int i, "bool", _, false, rfl, .int i, kit_ib, ?_⟩
 wtm_at "zw"
 exact q
theorem kZ : FnScope ["number", "size"] ["number", "size"] (xB (top 17)) := ⟨rfl, rfl, rfl, by decide +kernel, rfl, by decide +kernel, by decide +kernel⟩
noncomputable def spNodeNo : Sp := fun vs H Q _ => ∃ (i : Int) (m : Nat), vs = [.int i, .int m] ∧ Q (.bl (decide (0 ≤ i ∧ i < m))) H
theorem dn_nodeno (F : Fd K mg "is_node_number" (top 17) ["number", "size"]) (D_is_whole : Dn P w K mg base "is_whole" 1 ["thing"] spWhole) : Dn P w K mg base "is_node_number" 2 ["number", "size"] spNodeNo := by
 refine F.ok kZ (fun vs H Q E h => ?_) (fun f cdv A outer s H vs Q E hr h => ?_)
 ·obtain ⟨_, _, rfl, _⟩ := h
  rfl
 obtain ⟨i, m, rfl, q⟩ := h
 refine ⟨_, (qJ (qO (pe_and (qD D_is_whole hr (qQ (pv 0) qX)) (pe_and (jC op_ge (pv 0) qF (xE _)) (pe_one (jC op_lt (pv 0) (pv 1) (xE _))))))), ?_⟩
 wtm_at "zw"
 refine ⟨i, rfl, ?_⟩
 wtm_at "zw"
 by_cases h0 : 0 ≤ i
 ·rw [decide_eq_true h0]
  refine iteT ?_
  wtm_at "zw"
  have e : decide (i < (m : Int)) = decide (0 ≤ i ∧ i < (m : Int)) := decide_eq_decide.mpr ⟨fun z => ⟨h0, z⟩, fun z => z.2⟩
  rw [e]
  exact q
 ·rw [decide_eq_false h0]
  refine iteF ?_
  rw [decide_eq_false fun z => h0 z.1] at q
  exact q
theorem zU : FnScope ["node", "size", "follower"] ["node", "size"] (xB (top 18)) := ⟨rfl, rfl, rfl, by decide +kernel, rfl, by decide +kernel, by decide +kernel⟩
noncomputable def Leads (n : Nd) (m : Nat) : Prop := ∀ t ∈ n.leads, 0 ≤ t ∧ t < (m : Int)
noncomputable def spRefF (C : Addr) : Sp := fun vs H Q E => ∃ (n : Nd) (u : V) (m : Nat), vs = [u, .int m] ∧ NdAt H n u ∧ n.Fine ∧ (Leads n m → ∀ H', Same H H' → Q .non H') ∧ (¬ Leads n m → ∀ H', Same H H' → E (.ref C) none H')
theorem dx_refF {C : Addr} (F : Fd K mg "refuse_followers" (top 18) ["node", "size"]) (O_NoPlan : PyProof.Rows.OwnCls "NoPlan" C bmV "ValueError.__new__" mg base) (D_followers_of : Dn P w K mg base "followers_of" 1 ["node"] spFollow)
  (D_is_node_number : Dn P w K mg base "is_node_number" 2 ["number", "size"] spNodeNo) : Dx P w K mg base "refuse_followers" 3 ["node", "size"] (spRefF C) := by
 refine F.okx zU (fun vs H Q E h => ?_) (fun f cdv A outer s H vs Q E hr h => ?_)
 ·obtain ⟨_, _, _, rfl, _⟩ := h
  rfl
 obtain ⟨n, u, m, rfl, hn, fine, q1, q2⟩ := h
 refine ⟨_, (qJ (zT PassesOwn.leaving rfl (xQ (K := K) (qD D_followers_of hr (qQ (pv 0) qX))) (qH (i := 2) zU.nd rfl (by wtm_at "zo")) (qJ (zJ (pt_not (wA (qD D_is_node_number hr (qQ (pv 2) (qQ (pv 1) qX))))) (qJ (kN O_NoPlan (qQ qG qX))) qY)))), ?_⟩
 wtm_at "zf"
 refine ⟨n, u, rfl, hn, fine, fun l H1 nl S1 el => ?_⟩
 refine ⟨l, rfl, ⟨_, SqL.of el⟩, ?_⟩
 refine jE (xs := intsV n.leads) (fun i σ' H' => ∃ z : Option V, σ' = [some u, some (.int m), z] ∧ Same H1 H' ∧ ∀ t ∈ n.leads.take i, 0 ≤ t ∧ t < (m : Int)) ⟨none, rfl, .refl _, fun t h => nomatch h⟩ (fun i σ' H' _ hP => ?_) (fun i v σ' H' ex hP => ?_) (fun σ' H' hP => ?_)
 ·obtain ⟨_, rfl, S2, _⟩ := hP
  exact SqL.of (S2 _ _ el)
 ·obtain ⟨z, rfl, S2, hi⟩ := hP
  obtain ⟨t, et, rfl⟩ : ∃ t, n.leads[i]? = some t ∧ v = .int t := by
   rw [List.getElem?_map] at ex
   cases h : n.leads[i]? with
   | none => rw [h] at ex; cases ex
   | some t => rw [h] at ex; cases ex; exact ⟨t, rfl, rfl⟩
  wtm_at "zw"
  refine ⟨t, m, rfl, ?_⟩
  wtm_at "zw"
  by_cases g : 0 ≤ t ∧ t < (m : Int)
  ·rw [decide_eq_true g]
   refine iteNT ⟨_, rfl, S2, fun t' h => ?_⟩
   rw [List.take_add_one, et] at h
   rcases List.mem_append.mp h with r | r
   ·exact hi t' r
   ·rw [List.mem_singleton.mp r]; exact g
  ·rw [decide_eq_false g]
   refine iteNF ?_
   exact ⟨xF (show 1 ≤ 1000000 by decide), q2 (fun z => g (z t (List.mem_of_getElem? et))) _ (S1.trans S2)⟩
 ·obtain ⟨z, rfl, S2, hi⟩ := hP
  refine q1 (fun t h => hi t ?_) _ (S1.trans S2)
  rw [List.length_map, List.take_length]
  exact h
theorem vQ : FnScope ["node"] ["node"] (xB (top 19)) := ⟨rfl, rfl, rfl, by decide +kernel, rfl, by decide +kernel, by decide +kernel⟩
noncomputable def Nd.Once : Nd → Prop
 | .see _ fs => (fs.map (·.1)).Nodup
 | _ => True
instance (n : Nd) : Decidable n.Once := by
 cases n with
 | see x fs => exact inferInstanceAs (Decidable ((fs.map (·.1)).Nodup))
 | fin => exact .isTrue trivial
 | act x to => exact .isTrue trivial
noncomputable def spRefK (C : Addr) : Sp := fun vs H Q E => ∃ (n : Nd) (u : V), vs = [u] ∧ NdAt H n u ∧ n.Fine ∧ (n.Once → ∀ H', Same H H' → Q .non H') ∧ (¬ n.Once → ∀ H', Same H H' → E (.ref C) none H')
theorem dx_refK {C : Addr} (F : Fd K mg "refuse_forks" (top 19) ["node"]) (B : Bl mg) (O_NoPlan : PyProof.Rows.OwnCls "NoPlan" C bmV "ValueError.__new__" mg base) : Dx P w K mg base "refuse_forks" 1 ["node"] (spRefK C) := by
 refine F.okx vQ (fun vs H Q E h => ?_) (fun f cdv A outer s H vs Q E hr h => ?_)
 ·obtain ⟨_, _, rfl, _⟩ := h
  rfl
 obtain ⟨n, u, rfl, hn, fine, q1, q2⟩ := h
 refine ⟨_, (qJ (zJ (PW.pt (pw_and (qS zD (xG (qT (K := K)) (pv 0) qF (fun _ _ => rfl)) qG (xE _)) (pw_and1 (qS op_lt (xJ call_lenD rfl B.len' zH (qQ (xZ (call_dict_ofT rfl) rfl B.dict' bt_dict (qQ (xG (qT (K := K)) (pv 0) qF (fun _ _ => rfl)) qX)) qX)) (xJ (xS (K := K)) rfl B.len' zH (qQ (xG (qT (K := K)) (pv 0) qF (fun _ _ => rfl)) qX)) (xE _))))) (qJ (kN O_NoPlan (qQ qG qX))) qY)), ?_⟩
 cases n with
 | fin =>
  obtain ⟨a, rfl, ea⟩ := hn
  wtm_at "zw"
  exact q1 trivial _ (.refl _)
 | act x to =>
  obtain ⟨a, rfl, ea⟩ := hn
  wtm_at "zw"
  exact q1 trivial _ (.refl _)
 | see x fs =>
  obtain ⟨a, p, us, rfl, ea, ep, pf⟩ := hn
  have lf := fine.2.1
  have lu := pf.length
  wtm_at "zw"
  refine ⟨p, us, fs, rfl, ep, pf, lf, fun d hd => ?_⟩
  have S1 := qV hd (.dK (mergeK [] (pairI fs)))
  have ed : upd H d (.dK (mergeK [] (pairI fs))) d = some _ := qW
  generalize upd H d (.dK (mergeK [] (pairI fs))) = H1 at S1 ed
  have ea1 := S1 _ _ ea
  have ep1 := S1 _ _ ep
  refine ⟨d, _, rfl, ed, ?_⟩
  wtm_at "zw"
  by_cases nd : (fs.map (·.1)).Nodup
  ·rw [decide_eq_false (show ¬ (((mergeK [] (pairI fs)).length : Int) < (us.length : Int)) from fun z => absurd nd ((twice_iff fs).mp (by omega)))]
   refine iteF ?_
   exact q1 nd _ S1
  ·rw [decide_eq_true (show (((mergeK [] (pairI fs)).length : Int) < (us.length : Int)) from by have := (twice_iff fs).mpr nd; omega)]
   refine iteT ?_
   exact ⟨xF (show 1 ≤ 1000000 by decide), q2 nd _ S1⟩
theorem kQ : FnScope ["world", "node"] ["world", "node"] (xB (top 21)) := ⟨rfl, rfl, rfl, by decide +kernel, rfl, by decide +kernel, by decide +kernel⟩
noncomputable def NamesW (H : Hp) (wv : V) (ds ls : List Str) : Prop := ∃ (a : Addr) (x y z : V) (da la : Addr), wv = .ref a ∧ H a = some (.tup [x, .ref da, .ref la, y, z]) ∧ NamesIn H da ds ∧ NamesIn H la ls
theorem NamesIn.same {H H' : Hp} {a : Addr} {xs : List Str} (h : NamesIn H a xs) (S : Same H H') : NamesIn H' a xs := let ⟨us, e, p⟩ := h; ⟨us, S _ _ e, Paired.mapP p fun _ _ ⟨b, ys, e1, e2⟩ => ⟨b, ys, e1, S _ _ e2⟩⟩
theorem NamesW.same {H H' : Hp} {wv : V} {ds ls : List Str} (h : NamesW H wv ds ls) (S : Same H H') : NamesW H' wv ds ls := let ⟨a, x, y, z, da, la, e, e1, e2, e3⟩ := h; ⟨a, x, y, z, da, la, e, S _ _ e1, e2.same S, e3.same S⟩
noncomputable def Nd.Known (ds ls : List Str) : Nd → Prop
 | .fin => True
 | .act x _ => x ∈ ds
 | .see x _ => x ∈ ls
noncomputable def spThing (C : Addr) : Sp := fun vs H Q E => ∃ (n : Nd) (u wv : V) (ds ls : List Str), vs = [wv, u] ∧ n ≠ .fin ∧ NdAt H n u ∧ n.Fine ∧ NamesW H wv ds ls ∧ (n.Known ds ls → ∀ u, Q u H) ∧ (¬ n.Known ds ls → E (.ref C) none H)
theorem dx_thing {C : Addr} (F : Fd K mg "thing_named_at" (top 21) ["world", "node"]) (X_named : Dx P w K mg base "named" 1 ["things", "name", "kind"] (spNamedX C)) : Dx P w K mg base "thing_named_at" 2 ["world", "node"] (spThing C) := by
 refine F.okx kQ (fun vs H Q E h => ?_) (fun f cdv A outer s H vs Q E hr h => ?_)
 ·obtain ⟨_, _, _, _, _, rfl, _⟩ := h
  rfl
 obtain ⟨n, u, wv, ds, ls, rfl, nf, hn, fine, ⟨wa, x0, y0, z0, da, la, rfl, ew, hd, hl⟩, q1, q2⟩ := h
 refine ⟨_, (qZ (zJ (qS zD (xG (qT (K := K)) (pv 1) qF (fun _ _ => rfl)) qG (xE _)) (qJ (qO (qE X_named hr (qQ (xG (qT (K := K)) (pv 0) qF (fun _ _ => rfl)) (qQ (xG (qT (K := K)) (pv 1) qF (fun _ _ => rfl)) (qQ qG qX)))))) qY)
  (qJ (qO (qE X_named hr (qQ (xG (qT (K := K)) (pv 0) qF (fun _ _ => rfl)) (qQ (xG (qT (K := K)) (pv 1) qF (fun _ _ => rfl)) (qQ qG qX))))))), ?_⟩
 cases n with
 | fin => exact absurd rfl nf
 | act x to =>
  obtain ⟨a, rfl, ea⟩ := hn
  wtm_at "zw"
  exact ⟨da, ds, x, "deed", rfl, hd, fine.1, by decide, fun m u => q1 m u, fun m => q2 m⟩
 | see x fs =>
  obtain ⟨a, p, us, rfl, ea, ep, pf⟩ := hn
  wtm_at "zw"
  exact ⟨la, ls, x, "look", rfl, hl, fine.1, by decide, fun m u => q1 m u, fun m => q2 m⟩
theorem wZ : FnScope ["world", "node"] ["world", "node"] (xB (top 20)) := ⟨rfl, rfl, rfl, by decide +kernel, rfl, by decide +kernel, by decide +kernel⟩
noncomputable def spRefN (C : Addr) : Sp := fun vs H Q E => ∃ (n : Nd) (u wv : V) (ds ls : List Str), vs = [wv, u] ∧ NdAt H n u ∧ n.Fine ∧ NamesW H wv ds ls ∧ (n.Known ds ls → Q .non H) ∧ (¬ n.Known ds ls → E (.ref C) none H)
theorem dx_refN {C : Addr} (F : Fd K mg "refuse_name" (top 20) ["world", "node"]) (X_thing_named_at : Dx P w K mg base "thing_named_at" 2 ["world", "node"] (spThing C)) : Dx P w K mg base "refuse_name" 3 ["world", "node"] (spRefN C) := by
 refine F.okx wZ (fun vs H Q E h => ?_) (fun f cdv A outer s H vs Q E hr h => ?_)
 ·obtain ⟨_, _, _, _, _, rfl, _⟩ := h
  rfl
 obtain ⟨n, u, wv, ds, ls, rfl, hn, fine, hw, q1, q2⟩ := h
 refine ⟨_, (qJ (zJ (qS op_ne (xG (qT (K := K)) (pv 1) qF (fun _ _ => rfl)) qG (xE _)) (qJ (qR (qE X_thing_named_at hr (qQ (pv 0) (qQ (pv 1) qX))))) qY)), ?_⟩
 cases n with
 | fin =>
  obtain ⟨a, rfl, ea⟩ := hn
  wtm_at "zw"
  exact q1 trivial
 | act x to =>
  obtain ⟨a, rfl, ea⟩ := hn
  wtm_at "zw"
  exact ⟨_, rfl, _, rfl, .act x to, .ref a, wv, ds, ls, rfl, (fun z => nomatch z), ⟨a, rfl, ea⟩, fine, hw, fun m u => q1 m, q2⟩
 | see x fs =>
  obtain ⟨a, p, us, rfl, ea, ep, pf⟩ := hn
  wtm_at "zw"
  exact ⟨_, rfl, _, rfl, .see x fs, .ref a, wv, ds, ls, rfl, (fun z => nomatch z), ⟨a, p, us, rfl, ea, ep, pf⟩, fine, hw, fun m u => q1 m, q2⟩
theorem kX : FnScope ["world", "nodes", "node"] ["world", "nodes"] (xB (top 15)) := ⟨rfl, rfl, rfl, by decide +kernel, rfl, by decide +kernel, by decide +kernel⟩
noncomputable def Bad (ns : List Nd) : Prop := ns = [] ∨ ∃ n ∈ ns, ¬ Leads n ns.length ∨ ¬ n.Once
noncomputable def spPlan (CP CN : Addr) : Sp := fun vs H Q E => ∃ (wv : V) (ds ls : List Str) (la : Addr) (us : List V) (ns : List Nd), vs = [wv, .ref la] ∧ NamesW H wv ds ls ∧ H la = some (.lst us) ∧ Paired (NdAt H) ns us ∧ (∀ n ∈ ns, n.Fine) ∧ ns.length ≤ 1000 ∧
 (Bad ns → ∀ H', Same H H' → E (.ref CP) none H') ∧ (¬ Bad ns → (∃ n ∈ ns, ¬ n.Known ds ls) → ∀ H', Same H H' → E (.ref CN) none H') ∧
 (¬ Bad ns → (∀ n ∈ ns, n.Known ds ls) → ∀ (l : Addr) (H' : Hp), H l = none → Same H H' → H' l = some (.lst us) → Q (.ref l) H')
theorem dx_plan {CP CN : Addr} (F : Fd K mg "plan_of" (top 15) ["world", "nodes"]) (B : Bl mg) (O_NoPlan : PyProof.Rows.OwnCls "NoPlan" CP bmV "ValueError.__new__" mg base) (X_refuse_followers : Dx P w K mg base "refuse_followers" 3 ["node", "size"] (spRefF CP))
  (X_refuse_forks : Dx P w K mg base "refuse_forks" 1 ["node"] (spRefK CP)) (X_refuse_name : Dx P w K mg base "refuse_name" 3 ["world", "node"] (spRefN CN)) : Dx P w K mg base "plan_of" 4 ["world", "nodes"] (spPlan CP CN) := by
 refine F.okx kX (fun vs H Q E h => ?_) (fun f cdv A outer s H vs Q E hr h => ?_)
 ·obtain ⟨_, _, _, _, _, _, rfl, _⟩ := h
  rfl
 obtain ⟨wv, ds, ls, la, us, ns, rfl, hw, ela, pn, fine, l1000, q1, q2, q3⟩ := h
 have ln := pn.length
 refine ⟨_, (qZ (zJ (qS zD (xJ (xS (K := K)) rfl B.len' zH (qQ (pv 1) qX)) qF (xE _)) (qJ (kN O_NoPlan (qQ qG qX))) qY)
  (qZ (zT PassesOwn.leaving rfl (xQ (K := K) (pv 1)) (qH (i := 2) kX.nd rfl (by wtm_at "zo")) (qZ (qR (qE X_refuse_followers hr (qQ (pv 2) (qQ (xJ (xS (K := K)) rfl B.len' zH (qQ (pv 1) qX)) qX))))
  (qJ (qR (qE X_refuse_forks hr (qQ (pv 2) qX))))))
  (qZ (zT PassesOwn.leaving rfl (xQ (K := K) (pv 1)) (qH (i := 2) kX.nd rfl (by wtm_at "zo")) (qJ (qR (qE X_refuse_name hr (qQ (pv 0) (qQ (pv 2) qX))))))
  (qJ (qO (xZ (yX (K := K)) rfl B.list' vU (qQ (pv 1) qX))))))), ?_⟩
 wtm_at "zw"
 by_cases e0 : ns = []
 ·have l0 : us.length = 0 := by rw [← ln, e0]; rfl
  rw [l0]
  refine iteT ?_
  exact ⟨xF (show 1 ≤ 1000000 by decide), q1 (.inl e0) _ (.refl _)⟩
 have l1 : us.length ≠ 0 := fun z => e0 (List.length_eq_zero_iff.mp (ln.trans z))
 rw [decide_eq_false (show ¬ (V.int (us.length : Int) = V.int 0) from fun z => by have := V.int.inj z; omega)]
 refine iteF ?_
 wtm_at "zf"
 refine ⟨la, rfl, ⟨us, SqL.of ela⟩, ?_⟩
 refine jE (xs := us) (fun i σ' H' => ∃ z : Option V, σ' = [some wv, some (.ref la), z] ∧ Same H H' ∧ ∀ n ∈ ns.take i, Leads n ns.length ∧ n.Once) ⟨none, rfl, .refl _, fun n h => nomatch h⟩ (fun i σ' H' _ hP => ?_) (fun i v σ' H' ex hP => ?_) (fun σ' H' hP => ?_)
 ·obtain ⟨_, rfl, S2, _⟩ := hP
  exact SqL.of (S2 _ _ ela)
 ·obtain ⟨z, rfl, S2, hi⟩ := hP
  obtain ⟨n, en⟩ : ∃ b, ns[i]? = some b := ⟨_, List.getElem?_eq_getElem (by rw [ln]; exact (List.getElem?_eq_some_iff.mp ex).1)⟩
  have hn := xV pn en ex
  have mn := List.mem_of_getElem? en
  have ela2 := S2 _ _ ela
  have ex' : us.length = ns.length := ln.symm
  wtm_at "zw"
  refine ⟨n, v, us.length, rfl, hn.same S2, fine n mn, fun g1 H3 S3 => ?_, fun g1 H3 S3 => q1 (.inr ⟨n, mn, .inl (by rw [← ex']; exact g1)⟩) _ (S2.trans S3)⟩
  rw [ex'] at g1
  refine ⟨_, rfl, n, v, rfl, (hn.same S2).same S3, fine n mn, fun g2 H4 S4 => ⟨_, rfl, (S2.trans S3).trans S4, fun n' h => ?_⟩, fun g2 H4 S4 => q1 (.inr ⟨n, mn, .inr g2⟩) _ ((S2.trans S3).trans S4)⟩
  rw [List.take_add_one, en] at h
  rcases List.mem_append.mp h with r | r
  ·exact hi n' r
  ·rw [List.mem_singleton.mp r]; exact ⟨g1, g2⟩
 ·obtain ⟨z, rfl, S2, hi⟩ := hP
  rw [← ln, List.take_length] at hi
  have nb : ¬ Bad ns := fun b => b.elim e0 fun ⟨n, h1, h2⟩ => h2.elim (fun z => z (hi n h1).1) fun z => z (hi n h1).2
  have ela2 := S2 _ _ ela
  have hw2 := hw.same S2
  wtm_at "zf"
  refine ⟨la, rfl, ⟨us, SqL.of ela2⟩, ?_⟩
  refine jE (xs := us) (fun i σ' H'' => ∃ z : Option V, σ' = [some wv, some (.ref la), z] ∧ H'' = H' ∧ ∀ n ∈ ns.take i, n.Known ds ls) ⟨z, rfl, rfl, fun n h => nomatch h⟩ (fun i σ' H'' _ hP => ?_) (fun i v σ' H'' ex hP => ?_) (fun σ' H'' hP => ?_)
  ·obtain ⟨_, rfl, rfl, _⟩ := hP
   exact SqL.of ela2
  ·obtain ⟨z, rfl, rfl, hk⟩ := hP
   obtain ⟨n, en⟩ : ∃ b, ns[i]? = some b := ⟨_, List.getElem?_eq_getElem (by rw [ln]; exact (List.getElem?_eq_some_iff.mp ex).1)⟩
   have hn := xV pn en ex
   have mn := List.mem_of_getElem? en
   refine ⟨_, rfl, _, rfl, n, v, wv, ds, ls, rfl, hn.same S2, fine n mn, hw2, fun g => ⟨_, rfl, rfl, fun n' h => ?_⟩, fun g => q2 nb ⟨n, mn, g⟩ _ S2⟩
   rw [List.take_add_one, en] at h
   rcases List.mem_append.mp h with r | r
   ·exact hk n' r
   ·rw [List.mem_singleton.mp r]; exact g
  ·obtain ⟨z, rfl, rfl, hk⟩ := hP
   rw [← ln, List.take_length] at hk
   wtm_at "zw"
   exact ⟨la, us, rfl, .inl (SqL.of ela2), fun l hl => q3 nb hk l _ (S2.free hl) (S2.trans (qV hl _)) qW⟩

theorem zM : FnScope ["world", "nodes", "caught", "found", "e"] ["world", "nodes"] (xB (top 41)) := ⟨rfl, rfl, rfl, by decide +kernel, rfl, by decide +kernel, by decide +kernel⟩
structure Refs (K : PySem.W.Frag) (mg : Str → Option Value) (CF CP CN : Addr) (oth : List Addr) : Prop where
 F : Ref K mg "ForkError" CF bmV
 P : Ref K mg "NoPlan" CP (.ref CF :: bmV)
 N : Ref K mg "NoName" CN (.ref CF :: bmV)
 others : ∀ C, C = CP ∨ C = CN → PySem.W.kitAny K (.ref C) (oth.map Value.ref) = some false
 value : ∀ C, C = CP ∨ C = CN → PySem.W.kitOne K (.ref C) (.type "ValueError") = some true
 pp : PySem.W.kitOne K (.ref CP) (.ref CP) = some true
 pn : PySem.W.kitOne K (.ref CP) (.ref CN) = some false
 np : PySem.W.kitOne K (.ref CN) (.ref CP) = some false
 nn : PySem.W.kitOne K (.ref CN) (.ref CN) = some true
theorem NdAt.ref {H : Hp} {n : Nd} {u : V} (h : NdAt H n u) : ∃ a, u = .ref a := by
 cases n with
 | fin => obtain ⟨a, e, _⟩ := h; exact ⟨a, e⟩
 | act x to => obtain ⟨a, e, _⟩ := h; exact ⟨a, e⟩
 | see x fs => obtain ⟨a, _, _, e, _⟩ := h; exact ⟨a, e⟩
noncomputable def spTold : Sp := fun vs H Q _ => ∃ (wv : V) (ds ls : List Str) (la : Addr) (us : List V) (ns : List Nd), vs = [wv, .ref la] ∧ NamesW H wv ds ls ∧ H la = some (.lst us) ∧ Paired (NdAt H) ns us ∧ (∀ n ∈ ns, n.Fine) ∧ ns.length ≤ 1000 ∧
 (Bad ns → ∀ H', Same H H' → Q (.str "NoPlan") H') ∧ (¬ Bad ns → (∃ n ∈ ns, ¬ n.Known ds ls) → ∀ H', Same H H' → Q (.str "NoName") H') ∧ (¬ Bad ns → (∀ n ∈ ns, n.Known ds ls) → ∀ H', Same H H' → Q (.str "good") H')
theorem dn_told {CF CP CN C1 C2 C3 C4 C5 C6 C7 : Addr} (YK : K.In base) (F : Fd K mg "_law_told" (top 41) ["world", "nodes"]) (B : Bl mg) (B_ValueError : mg "ValueError" = none) (R : Refs K mg CF CP CN [C1, C2, C3, C4, C5, C6, C7])
  {b1 b2 b3 b4 b5 b6 b7 : List Value} (R_NoOrder : Ref K mg "NoOrder" C1 b1) (R_NoText : Ref K mg "NoText" C2 b2) (R_NotPlain : Ref K mg "NotPlain" C3 b3) (R_NotSure : Ref K mg "NotSure" C4 b4) (R_NoWeights : Ref K mg "NoWeights" C5 b5) (R_NoWorld : Ref K mg "NoWorld" C6 b6) (R_TooMany : Ref K mg "TooMany" C7 b7)
  (X_plan_of : Dx P w K mg base "plan_of" 4 ["world", "nodes"] (spPlan CP CN)) : Dn P w K mg base "_law_told" 5 ["world", "nodes"] spTold := by
 refine F.ok zM (fun vs H Q E h => ?_) (fun f cdv A outer s H vs Q E hr h => ?_)
 ·obtain ⟨_, _, _, _, _, _, rfl, _⟩ := h
  rfl
 obtain ⟨wv, ds, ls, la, us, ns, rfl, hw, ela, pn, fine, l1000, q1, q2, q3⟩ := h
 have R_ForkError := R.F
 have R_NoPlan := R.P
 have R_NoName := R.N
 refine ⟨_, (qZ (qN (i := 2) zM.nd rfl (by wtm_at "zo") pe_non)
  (qZ (qN (i := 3) zM.nd rfl (by wtm_at "zo") pe_non)
  (qZ (ps_try1 (i := 4) rfl rfl rfl zM.nd rfl rfl rfl R_ForkError.bd (R_ForkError.asks.at' _ YK) (pxs_one (px_set (i := 3) zM.nd rfl (by wtm_at "zo") (pxe_callX X_plan_of hr (qQ (pv 0) (qQ (pv 1) qX))))) (fun x => (qJ (qN (i := 2) zM.nd rfl (by wtm_at "zo") (pv 4)))))
  (qZ (zJ (qS op_isNK (pv 2) pe_non (xE _)) (qJ (qO (xG (qU (K := K)) (xP (qQ qG (qQ qG qX))) (xZ jA rfl B.int' wQ (qQ (pe_or (pe_not (xJ (jR (K := K)) rfl B.isinstance' xT (qQ (pv 3) (qQ (pe_ty rfl B.list' vU) qX)))) (pe_one (jC (op_neLK (K := K) hr.units) (pv 3) (pv 1) (xE _)))) qX)) (fun _ _ => rfl)))) qY)
  (qZ (zJ (wA (xJ (call_isiUK (K := K)) rfl B.isinstance' xT (qQ (pv 2) (qQ (xN (qQ (jN R_NoOrder) (qQ (jN R_NoText) (qQ (jN R_NotPlain) (qQ (jN R_NotSure) (qQ (jN R_NoWeights) (qQ (jN R_NoWorld) (qQ (jN R_TooMany) qX)))))))) qX)))) (qJ (qO qG)) qY)
  (qZ (zJ (pt_not (wA (xJ (call_isiTK (K := K)) rfl B.isinstance' xT (qQ (pv 2) (qQ (pe_ty rfl B_ValueError bt_ValueError) qX))))) (qJ (qO qG)) qY)
  (qZ (zJ (PW.pt (pw_and (wA (xJ (yZ (K := K)) rfl B.isinstance' xT (qQ (pv 2) (qQ (jN R_NoPlan) qX)))) (pw_and1 (wA (xJ (yZ (K := K)) rfl B.isinstance' xT (qQ (pv 2) (qQ (jN R_NoName) qX))))))) (qJ (qO qG)) qY)
  (qJ (qO (xG (qU (K := K)) (xP (qQ qG (qQ qG (qQ qG qX)))) (xX zV (xZ jA rfl B.int' wQ (qQ (xJ (yZ (K := K)) rfl B.isinstance' xT (qQ (pv 2) (qQ (jN R_NoPlan) qX))) qX)) (xX yD qF (xZ jA rfl B.int' wQ (qQ (xJ (yZ (K := K)) rfl B.isinstance' xT (qQ (pv 2) (qQ (jN R_NoName) qX))) qX)))) (fun _ _ => rfl))))))))))), ?_⟩
 wtm_at "zw"
 refine ⟨_, rfl, _, rfl, wv, ds, ls, la, us, ns, rfl, hw, ela, pn, fine, l1000, fun b H' S' => ?_, fun nb k H' S' => ?_, fun nb k l H' nl S' el => ?_⟩
 ·refine ⟨CP, _, rfl, R.P.asks.at' _ YK, (by rw [List.contains_cons, List.contains_cons, beq_self_eq_true, Bool.true_or, Bool.or_true]), fun x T hx hT ne => ?_⟩
  have ex : held H' x T (.ref CP) x = some (.ext (IsExc x T (.ref CP))) := qW
  have S2 : Same H' (held H' x T (.ref CP)) := (qV hT _).trans (qV (by rw [qA ne.symm]; exact hx) _)
  generalize held H' x T (.ref CP) = H1 at ex S2 ⊢
  wtm_at "zw"
  refine drop_nx ?_
  wtm_at "zw"
  refine ⟨rfl, ?_⟩
  wtm_at "zw"
  rw [decide_eq_false (show ¬ (V.ref x = V.non) from fun z => nomatch z)]
  refine iteF ?_
  wtm_at "zw"
  refine ⟨xF (show 7 ≤ 1000000 by decide), fun p hp => ?_⟩
  have S3 := qV hp (.tup [V.ref C1, V.ref C2, V.ref C3, V.ref C4, V.ref C5, V.ref C6, V.ref C7])
  have ep : upd H1 p (.tup [V.ref C1, V.ref C2, V.ref C3, V.ref C4, V.ref C5, V.ref C6, V.ref C7]) p = some _ := qW
  generalize upd H1 p (.tup [V.ref C1, V.ref C2, V.ref C3, V.ref C4, V.ref C5, V.ref C6, V.ref C7]) = H2 at S3 ep ⊢
  have ex2 := S3 _ _ ex
  wtm_at "zw"
  refine ⟨x, T, CP, _, p, [C1, C2, C3, C4, C5, C6, C7], false, rfl, ex2, ep, R.P.asks, R.others CP (.inl rfl), _, rfl, iteF ?_⟩
  wtm_at "zw"
  refine ⟨x, T, CP, _, "ValueError", true, rfl, ex2, R.P.asks, R.value CP (.inl rfl), ?_⟩
  wtm_at "zw"
  refine ⟨x, T, CP, _, CP, true, rfl, ex2, R.P.asks, R.pp, _, rfl, iteT ?_⟩
  wtm_at "zw"
  refine ⟨x, T, CP, _, CN, false, rfl, ex2, R.P.asks, R.pn, ?_⟩
  wtm_at "zw"
  refine ⟨xF (show 3 ≤ 1000000 by decide), fun p' hp' => ?_⟩
  have S4 := qV hp' (.lst [V.str "other", V.str "NoPlan", V.str "NoName"])
  have ep' : upd H2 p' (.lst [V.str "other", V.str "NoPlan", V.str "NoName"]) p' = some _ := qW
  generalize upd H2 p' (.lst [V.str "other", V.str "NoPlan", V.str "NoName"]) = H3 at S4 ep' ⊢
  have ex3 := S4 _ _ ex2
  wtm_at "zw"
  refine ⟨x, T, CP, _, CP, true, rfl, ex3, R.P.asks, R.pp, ?_⟩
  wtm_at "zw"
  refine .inr ⟨true, rfl, ?_⟩
  wtm_at "zw"
  refine ⟨x, T, CP, _, CN, false, rfl, ex3, R.P.asks, R.pn, ?_⟩
  wtm_at "zw"
  refine .inr ⟨false, rfl, ?_⟩
  exact ⟨2, 0, rfl, rfl, ⟨by decide, by decide⟩, 1, 0, rfl, rfl, p', _, 1, .str "NoPlan", rfl, rfl, SqL.of ep', rfl, q1 b _ (((S'.trans S2).trans S3).trans S4)⟩
 ·refine ⟨CN, _, rfl, R.N.asks.at' _ YK, (by rw [List.contains_cons, List.contains_cons, beq_self_eq_true, Bool.true_or, Bool.or_true]), fun x T hx hT ne => ?_⟩
  have ex : held H' x T (.ref CN) x = some (.ext (IsExc x T (.ref CN))) := qW
  have S2 : Same H' (held H' x T (.ref CN)) := (qV hT _).trans (qV (by rw [qA ne.symm]; exact hx) _)
  generalize held H' x T (.ref CN) = H1 at ex S2 ⊢
  wtm_at "zw"
  refine drop_nx ?_
  wtm_at "zw"
  refine ⟨rfl, ?_⟩
  wtm_at "zw"
  rw [decide_eq_false (show ¬ (V.ref x = V.non) from fun z => nomatch z)]
  refine iteF ?_
  wtm_at "zw"
  refine ⟨xF (show 7 ≤ 1000000 by decide), fun p hp => ?_⟩
  have S3 := qV hp (.tup [V.ref C1, V.ref C2, V.ref C3, V.ref C4, V.ref C5, V.ref C6, V.ref C7])
  have ep : upd H1 p (.tup [V.ref C1, V.ref C2, V.ref C3, V.ref C4, V.ref C5, V.ref C6, V.ref C7]) p = some _ := qW
  generalize upd H1 p (.tup [V.ref C1, V.ref C2, V.ref C3, V.ref C4, V.ref C5, V.ref C6, V.ref C7]) = H2 at S3 ep ⊢
  have ex2 := S3 _ _ ex
  wtm_at "zw"
  refine ⟨x, T, CN, _, p, [C1, C2, C3, C4, C5, C6, C7], false, rfl, ex2, ep, R.N.asks, R.others CN (.inr rfl), _, rfl, iteF ?_⟩
  wtm_at "zw"
  refine ⟨x, T, CN, _, "ValueError", true, rfl, ex2, R.N.asks, R.value CN (.inr rfl), ?_⟩
  wtm_at "zw"
  refine ⟨x, T, CN, _, CP, false, rfl, ex2, R.N.asks, R.np, _, rfl, iteF ?_⟩
  wtm_at "zw"
  refine ⟨xF (show 3 ≤ 1000000 by decide), fun p' hp' => ?_⟩
  have S4 := qV hp' (.lst [V.str "other", V.str "NoPlan", V.str "NoName"])
  have ep' : upd H2 p' (.lst [V.str "other", V.str "NoPlan", V.str "NoName"]) p' = some _ := qW
  generalize upd H2 p' (.lst [V.str "other", V.str "NoPlan", V.str "NoName"]) = H3 at S4 ep' ⊢
  have ex3 := S4 _ _ ex2
  wtm_at "zw"
  refine ⟨x, T, CN, _, CP, false, rfl, ex3, R.N.asks, R.np, ?_⟩
  wtm_at "zw"
  refine .inr ⟨false, rfl, ?_⟩
  wtm_at "zw"
  refine ⟨x, T, CN, _, CN, true, rfl, ex3, R.N.asks, R.nn, ?_⟩
  wtm_at "zw"
  refine .inr ⟨true, rfl, ?_⟩
  exact ⟨2, 1, rfl, rfl, ⟨by decide, by decide⟩, 0, 2, rfl, rfl, p', _, 2, .str "NoName", rfl, rfl, SqL.of ep', rfl, q2 nb k _ (((S'.trans S2).trans S3).trans S4)⟩
 ·wtm_at "zw"
  refine ⟨rfl, ?_⟩
  refine ⟨_, rfl, iteT ?_⟩
  wtm_at "zw"
  refine ⟨xF (show 2 ≤ 1000000 by decide), fun p hp => ?_⟩
  have S3 := qV hp (.lst [V.str "good", V.str "other"])
  have ep : upd H' p (.lst [V.str "good", V.str "other"]) p = some _ := qW
  generalize upd H' p (.lst [V.str "good", V.str "other"]) = H2 at S3 ep ⊢
  have el2 := S3 _ _ el
  have ela2 := S3 _ _ (S' _ _ ela)
  wtm_at "zw"
  refine ⟨.ref l, "list", _, true, rfl, .lst el2, kit_of, _, rfl, _, rfl, iteF ?_⟩
  wtm_at "zw"
  refine ⟨1, l, la, us, us, by omega, rfl, rfl, SqL.of el2, SqL.of ela2, rfl, fun j x y e1 e2 => ?_, .inr ⟨false, rfl, ?_⟩⟩
  ·rw [e1] at e2
   cases e2
   obtain ⟨n, en⟩ : ∃ b, ns[j]? = some b := ⟨_, List.getElem?_eq_getElem (by rw [pn.length]; exact (List.getElem?_eq_some_iff.mp e1).1)⟩
   obtain ⟨a, rfl⟩ := (xV pn en e1).ref
   exact .same a
  wtm_at "zw"
  exact q3 nb k _ (S'.trans S3)

theorem sc_law_cell : FnScope ["script", "k"] ["script", "k"] (xB (top 23)) := ⟨rfl, rfl, rfl, by decide +kernel, rfl, by decide +kernel, by decide +kernel⟩
noncomputable def cellM (ns : List Int) (k : Nat) : Int := if h : k < ns.length then ns[k] else k
noncomputable def spCell (K : PySem.W.Frag) : Sp := fun vs H Q _ => ∃ (a : Addr) (ns : List Int) (k : Nat), vs = [.ref a, .int k] ∧ SqL K H a (intsV ns) ∧ Q (.int (cellM ns k)) H
theorem dn_cell (F : Fd K mg "_law_cell" (top 23) ["script", "k"]) (B : Bl mg) : Dn P w K mg base "_law_cell" 1 ["script", "k"] (spCell K) := by
 refine F.ok sc_law_cell (fun vs H Q E h => ?_) (fun f cdv A outer s H vs Q E hr h => ?_)
 ·obtain ⟨_, _, _, rfl, _⟩ := h
  rfl
 obtain ⟨a, ns, k, rfl, ea, q⟩ := h
 refine ⟨_, (qZ (zJ (pt_chain op_le op_lt qF (pv 1) (xJ (xS (K := K)) rfl B.len' zH (qQ (pv 0) qX))) (qJ (qO (xG (qU (K := K)) (pv 0) (pv 1) (fun _ _ => rfl)))) qY)
  (qJ (qO (pv 1)))), ?_⟩
 wtm_at "zw"
 refine ⟨_, rfl, 0, k, rfl, rfl, true, (by show V.bl (decide ((0 : Int) ≤ (k : Int))) = V.bl true; rw [decide_eq_true (Int.natCast_nonneg k)]), iteT ?_⟩
 wtm_at "zw"
 have el : (intsV ns).length = ns.length := List.length_map ..
 unfold cellM at q
 by_cases h : k < ns.length
 ·rw [dif_pos h] at q
  rw [decide_eq_true (show (k : Int) < ((intsV ns).length : Int) by rw [el]; omega)]
  refine iteT ?_
  refine ⟨_, rfl, _, rfl, a, _, k, .int ns[k], rfl, rfl, ea, ?_, q⟩
  exact zI (by rw [List.getElem?_map, List.getElem?_eq_getElem h]; rfl)
 ·rw [dif_neg h] at q
  rw [decide_eq_false (show ¬ ((k : Int) < ((intsV ns).length : Int)) by rw [el]; omega)]
  refine iteF ?_
  wtm_at "zw"
  exact q
theorem jB : FnScope ["cell", "k", "number"] ["cell", "k"] (xB (top 24)) := ⟨rfl, rfl, rfl, by decide +kernel, rfl, by decide +kernel, by decide +kernel⟩
noncomputable abbrev bigM : Int := 170141183460469231731687303715884105727
noncomputable def stir1 (c k : Int) : Int := (c % 10 ^ 60 + 7919 * k + 1) * 27182818284590452353602874713527
noncomputable def stir2 (c k : Int) : Int := stir1 c k % bigM
noncomputable def stir3 (c k : Int) : Int := (stir2 c k * stir2 c k + 104729 * k + 1) % bigM
noncomputable def stirM (c k : Int) : Int := stir3 c k * stir3 c k % bigM / 5
theorem mod_big (n : Int) : (n % bigM).natAbs < 2 ^ 1000 := big _ (Int.emod_nonneg _ (by decide)) (Int.lt_trans (Int.emod_lt_of_pos n (show 0 < bigM by decide)) (by decide +kernel))
noncomputable def spStir : Sp := fun vs H Q _ => ∃ c k : Int, vs = [.int c, .int k] ∧ 0 ≤ k ∧ k ≤ 1000000 ∧ Q (.int (stirM c k)) H
theorem dn_stir (F : Fd K mg "_law_stir" (top 24) ["cell", "k"]) : Dn P w K mg base "_law_stir" 1 ["cell", "k"] spStir := by
 refine F.ok jB (fun vs H Q E h => ?_) (fun f cdv A outer s H vs Q E hr h => ?_)
 ·obtain ⟨c, k, rfl, _⟩ := h
  rfl
 obtain ⟨c, k, rfl, h0, h1, q⟩ := h
 have a1 : 0 ≤ c % 10 ^ 60 := Int.emod_nonneg _ (by decide +kernel)
 have a2 : c % 10 ^ 60 < 10 ^ 60 := Int.emod_lt_of_pos _ (by decide +kernel)
 have pw : ∀ i j : Int, 0 ≤ j → j ≤ 1000 → i.natAbs < 2 ^ 64 → CPow i j := fun i j x y z => ⟨x, by omega, z⟩
 refine ⟨_, (qZ (qN (i := 2) jB.nd rfl (by wtm_at "zo") (xX yD (xX zV (xX zV (xX yW (pv 0) (xX op_pow qF qF)) (xX yD qF (pv 1))) qF) qF))
  (qZ (qN (i := 2) jB.nd rfl (by wtm_at "zo") (xX yW (pv 2) qF))
  (qZ (qN (i := 2) jB.nd rfl (by wtm_at "zo") (xX yW (xX zV (xX zV (xX yD (pv 2) (pv 2)) (xX yD qF (pv 1))) qF) qF))
  (qJ (qO (xX op_fdivB (xX yW (xX yD (pv 2) (pv 2)) qF) qF)))))), ?_⟩
 have b1 := mul_bd (a := 7919) (b := k) (c := 7919) (d := 1000000) (by decide) h0 (Int.le_refl _) h1
 have b2 := mul_bd (a := 104729) (b := k) (c := 104729) (d := 1000000) (by decide) h0 (Int.le_refl _) h1
 have kb : k.natAbs < 2 ^ 1000 := big _ h0 (Int.lt_of_le_of_lt h1 (by decide +kernel))
 wtm_at "zw"
 refine w_I (pw 10 60 (by decide) (by decide) (by decide)) ?_
 refine w_I (show (0 : Int) < 10 ^ 60 by decide +kernel) ?_
 wtm_at "zw"
 refine w_I ⟨by decide +kernel, kb⟩ ?_
 wtm_at "zw"
 refine w_I ⟨big _ (by show 0 ≤ c % 10 ^ 60 + 7919 * k + 1; omega) ?_, by decide +kernel⟩ ?_
 ·show c % 10 ^ 60 + 7919 * k + 1 < 10 ^ 200
  have e : (10 : Int) ^ 60 + 7919 * 1000000 + 1 < 10 ^ 200 := by decide +kernel
  generalize (10 : Int) ^ 60 = u at *
  generalize (10 : Int) ^ 200 = v at *
  omega
 wtm_at "zw"
 refine w_I (show (0 : Int) < bigM by decide) ?_
 wtm_at "zw"
 have m2 := mod_big (stir1 c k)
 refine w_I ⟨m2, m2⟩ ?_
 wtm_at "zw"
 refine w_I ⟨by decide +kernel, kb⟩ ?_
 wtm_at "zw"
 refine w_I (show (0 : Int) < bigM by decide) ?_
 wtm_at "zw"
 have m3 := mod_big (stir2 c k * stir2 c k + 104729 * k + 1)
 refine w_I ⟨m3, m3⟩ ?_
 wtm_at "zw"
 refine w_I (show (0 : Int) < bigM by decide) ?_
 wtm_at "zw"
 refine w_I ⟨by decide, by decide +kernel⟩ ?_
 exact q
theorem sc_law_state : FnScope ["cell"] ["cell"] (xB (top 25)) := ⟨rfl, rfl, rfl, by decide +kernel, rfl, by decide +kernel, by decide +kernel⟩
structure S3 where
 a : Int
 c : Int
 n : Nat
noncomputable def St3 (H : Hp) (p : Addr) (s : S3) : Prop := H p = some (.lst [.int s.a, .int s.c, .int s.n])
noncomputable def stateM (c : Int) : S3 := ⟨c - 10 ^ 18, c, 0⟩
noncomputable def spState : Sp := fun vs H Q _ => ∃ c : Int, vs = [.int c] ∧ ∀ (p : Addr) (H' : Hp), H p = none → Same H H' → St3 H' p (stateM c) → Q (.ref p) H'
theorem dn_state (F : Fd K mg "_law_state" (top 25) ["cell"]) : Dn P w K mg base "_law_state" 1 ["cell"] spState := by
 refine F.ok sc_law_state (fun vs H Q E h => ?_) (fun f cdv A outer s H vs Q E hr h => ?_)
 ·obtain ⟨c, rfl, _⟩ := h
  rfl
 obtain ⟨c, rfl, q⟩ := h
 refine ⟨_, (qJ (qO (xP (qQ (xX jI (pv 0) (xX op_pow qF qF)) (qQ (pv 0) (qQ qF qX)))))), ?_⟩
 have pw : ∀ i j : Int, 0 ≤ j → j ≤ 1000 → i.natAbs < 2 ^ 64 → CPow i j := fun i j x y z => ⟨x, by omega, z⟩
 wtm_at "zw"
 refine w_I (pw 10 18 (by decide) (by decide) (by decide)) ?_
 wtm_at "zw"
 exact ⟨xF (show 3 ≤ 1000000 by decide), fun p hp => q p _ hp (qV hp _) qW⟩
theorem vX : FnScope ["state", "many", "found"] ["state", "many"] (xB (top 26)) := ⟨rfl, rfl, rfl, by decide +kernel, rfl, by decide +kernel, by decide +kernel⟩
noncomputable def takeV (s : S3) (m : Int) : Int := if 0 ≤ s.a then s.a % m else stirM s.c (s.n + 1 : Nat) % m
noncomputable def takeS (s : S3) (m : Int) : S3 := ⟨if 0 ≤ s.a then s.a / m else s.a, s.c, s.n + 1⟩
theorem xH (s : S3) {m : Int} (h : 0 < m) : 0 ≤ takeV s m ∧ takeV s m < m := by
 unfold takeV
 split
 ·exact ⟨Int.emod_nonneg _ (by omega), Int.emod_lt_of_pos _ h⟩
 ·exact ⟨Int.emod_nonneg _ (by omega), Int.emod_lt_of_pos _ h⟩
noncomputable def But1 (p : Addr) (H H' : Hp) : Prop := ∀ b o, b ≠ p → H b = some o → H' b = some o
noncomputable def spTake : Sp := fun vs H Q _ => ∃ (p : Addr) (s : S3) (m : Int), vs = [.ref p, .int m] ∧ St3 H p s ∧ 0 < m ∧ m.natAbs < 2 ^ 1000 ∧ s.n ≤ 999999 ∧ ∀ H' : Hp, But1 p H H' → St3 H' p (takeS s m) → Q (.int (takeV s m)) H'
theorem dn_take (F : Fd K mg "_law_take" (top 26) ["state", "many"]) (D_law_stir : Dn P w K mg base "_law_stir" 1 ["cell", "k"] spStir) : Dn P w K mg base "_law_take" 2 ["state", "many"] spTake := by
 refine F.ok vX (fun vs H Q E h => ?_) (fun f cdv A outer s H vs Q E hr h => ?_)
 ·obtain ⟨_, _, _, rfl, _⟩ := h
  rfl
 obtain ⟨p, s, m, rfl, es, m0, m1, ns, q⟩ := h
 unfold St3 at es
 refine ⟨_, (qZ (qP (xX zV (xG (qU (K := K)) (pv 0) qF (fun _ _ => rfl)) qF) (pg_sub (pv 0) qF set_list))
  (qZ (zJ (qS op_ge (xG (qU (K := K)) (pv 0) qF (fun _ _ => rfl)) qF (xE _)) (qZ (qN (i := 2) vX.nd rfl (by wtm_at "zo") (xX yW (xG (qU (K := K)) (pv 0) qF (fun _ _ => rfl)) (pv 1)))
  (qZ (qP (xX op_fdivB (xG (qU (K := K)) (pv 0) qF (fun _ _ => rfl)) (pv 1)) (pg_sub (pv 0) qF set_list))
  (qJ (qO (pv 2))))) qY)
  (qJ (qO (xX yW (qD D_law_stir hr (qQ (xG (qU (K := K)) (pv 0) qF (fun _ _ => rfl)) (qQ (xG (qU (K := K)) (pv 0) qF (fun _ _ => rfl)) qX))) (pv 1)))))), ?_⟩
 wtm_at "zw"
 refine ⟨_, rfl, p, _, 2, 2, rfl, rfl, es, rfl, ?_⟩
 have e1 : upd H p (.lst ([V.int s.a, .int s.c, .int s.n].set 2 (.int (s.n + 1)))) p = some (.lst [.int s.a, .int s.c, .int (s.n + 1)]) := qW
 have S1 : But1 p H (upd H p (.lst ([V.int s.a, .int s.c, .int s.n].set 2 (.int (s.n + 1))))) := fun b o n e => by rw [qA n]; exact e
 generalize upd H p (.lst ([V.int s.a, .int s.c, .int s.n].set 2 (.int (s.n + 1)))) = H1 at e1 S1 ⊢
 unfold takeV takeS at q
 wtm_at "zw"
 by_cases h : 0 ≤ s.a
 ·rw [if_pos h, if_pos h] at q
  rw [decide_eq_true h]
  refine iteT ?_
  wtm_at "zw"
  refine w_I m0 ?_
  wtm_at "zw"
  refine w_I ⟨m0, m1⟩ ?_
  refine ⟨_, rfl, p, _, 0, 0, rfl, rfl, e1, rfl, ?_⟩
  wtm_at "zw"
  exact q _ (fun b o n e => by rw [qA n]; exact S1 b o n e) qW
 ·rw [if_neg h, if_neg h] at q
  rw [decide_eq_false h]
  refine iteF ?_
  wtm_at "zw"
  refine ⟨s.c, s.n + 1, rfl, by omega, by omega, ?_⟩
  wtm_at "zw"
  refine w_I m0 ?_
  exact q _ S1 e1

noncomputable def BoxIn (H : Hp) (b : Str × Int) (u : V) : Prop := ∃ a, u = .ref a ∧ H a = some (.tup [.str b.1, .int b.2])
theorem BoxIn.mono {H H' : Hp} (h : Tups H H') {b : Str × Int} {u : V} (x : BoxIn H b u) : BoxIn H' b u := let ⟨a, e, q⟩ := x; ⟨a, e, h _ _ q⟩
theorem xK {H H' : Hp} (h : Tups H H') {bs : List (Str × Int)} {us : List V} (p : Paired (BoxIn H) bs us) : Paired (BoxIn H') bs us := Paired.mapP p fun _ _ x => x.mono h
structure Bx (H : Hp) (bx : Addr) (bs : List (Str × Int)) : Prop where
 ex : ∃ us, H bx = some (.lst us) ∧ Paired (BoxIn H) bs us
 ne : bs ≠ []
 le : bs.length ≤ 3
theorem xR {p : Addr} {H H' : Hp} {s : S3} (B : But1 p H H') (e : St3 H p s) : Tups H H' := fun b xs q => B b _ (yI q e (by intro z; cases z)) q
theorem But1.trans {p : Addr} {H H1 H2 : Hp} (a : But1 p H H1) (b : But1 p H1 H2) : But1 p H H2 := fun c o n h => b c o n (a c o n h)
theorem But1.of {p : Addr} {H H' : Hp} (s : Same H H') : But1 p H H' := fun c o _ h => s c o h
theorem Bx.apart {H : Hp} {bx p : Addr} {bs : List (Str × Int)} {s : S3} (h : Bx H bx bs) (e : St3 H p s) : bx ≠ p := by
 obtain ⟨us, eu, pu⟩ := h.ex
 refine yI eu e fun z => ?_
 have e2 := HO.lst.inj z
 subst e2
 cases pu with
 | cons r _ => obtain ⟨a, e3, _⟩ := r; cases e3
theorem Bx.but1 {H H' : Hp} {bx p : Addr} {bs : List (Str × Int)} {s : S3} (h : Bx H bx bs) (e : St3 H p s) (B : But1 p H H') : Bx H' bx bs := by
 have n := h.apart e
 have t := xR B e
 obtain ⟨⟨us, eu, pu⟩, h2, h3⟩ := h
 exact ⟨⟨us, B _ _ n eu, Paired.mapP pu fun _ _ ⟨a, e1, e2⟩ => ⟨a, e1, t _ _ e2⟩⟩, h2, h3⟩
theorem Bx.same {H H' : Hp} {bx : Addr} {bs : List (Str × Int)} (h : Bx H bx bs) (S : Same H H') : Bx H' bx bs := by
 obtain ⟨⟨us, eu, pu⟩, h2, h3⟩ := h
 exact ⟨⟨us, S _ _ eu, Paired.mapP pu fun _ _ ⟨a, e1, e2⟩ => ⟨a, e1, S _ _ e2⟩⟩, h2, h3⟩
noncomputable def nameAt (bs : List (Str × Int)) (i : Int) : Str := (bs.getD i.toNat ("", 0)).1
theorem Bx.at {H : Hp} {bx : Addr} {bs : List (Str × Int)} (h : Bx H bx bs) {i : Int} (h0 : 0 ≤ i) (h1 : i < bs.length) : ∃ us a z, H bx = some (.lst us) ∧ us.length = bs.length ∧ atI us i = some (.ref a) ∧ H a = some (.tup [.str (nameAt bs i), .int z]) := by
 obtain ⟨⟨us, eu, pu⟩, _, _⟩ := h
 have hk : i.toNat < bs.length := by omega
 have hu : i.toNat < us.length := by rw [← pu.length]; exact hk
 obtain ⟨a, e1, e2⟩ := xV pu (List.getElem?_eq_getElem hk) (List.getElem?_eq_getElem hu)
 refine ⟨us, a, bs[i.toNat].2, eu, pu.length.symm, ?_, ?_⟩
 ·have z : atI us ((i.toNat : Nat) : Int) = some (.ref a) := zI (by rw [List.getElem?_eq_getElem hu, e1])
  rwa [show ((i.toNat : Nat) : Int) = i by omega] at z
 ·unfold nameAt
  rw [show bs.getD i.toNat ("", 0) = bs[i.toNat] by rw [List.getD_eq_getElem?_getD, List.getElem?_eq_getElem hk]; rfl]
  exact e2
theorem zN : FnScope ["state", "boxes", "deep", "kind", "one"] ["state", "boxes", "deep"] (xB (top 27)) := ⟨rfl, rfl, rfl, by decide +kernel, rfl, by decide +kernel, by decide +kernel⟩
noncomputable def opM (k : Int) : Str := if k = 3 then "plus" else "less"
theorem op_at {k : Int} (h : k < 5) (h3 : ¬ k < 3) : atI [V.str "plus", V.str "less"] (k - 3) = some (.str (opM k)) := by
 have c : k = 3 ∨ k = 4 := by omega
 rcases c with c | c
 ·subst c; rfl
 ·subst c; rfl
noncomputable def exprM (bs : List (Str × Int)) : Nat → S3 → Th × S3
 | 0, s => if takeV s 5 = 0 then (.num (takeV (takeS s 5) 10), takeS (takeS s 5) 10) else (.box (nameAt bs (takeV (takeS s 5) bs.length)), takeS (takeS s 5) bs.length)
 | d + 1, s => if takeV s 5 = 0 then (.num (takeV (takeS s 5) 10), takeS (takeS s 5) 10) else if takeV s 5 < 3 then (.box (nameAt bs (takeV (takeS s 5) bs.length)), takeS (takeS s 5) bs.length)
  else (.bin (opM (takeV s 5)) (exprM bs d (takeS s 5)).1 (exprM bs d (exprM bs d (takeS s 5)).2).1, (exprM bs d (exprM bs d (takeS s 5)).2).2)
theorem vM (bs : List (Str × Int)) (d : Nat) : ∀ s : S3, (exprM bs d s).2.n + 1 ≤ s.n + 3 * 2 ^ d := by
 induction d with
 | zero =>
  intro s
  unfold exprM
  split
  ·show s.n + 1 + 1 + 1 ≤ _; omega
  ·show s.n + 1 + 1 + 1 ≤ _; omega
 | succ d ih =>
  intro s
  have h1 := ih (takeS s 5)
  have h2 := ih (exprM bs d (takeS s 5)).2
  have e : (takeS s 5).n = s.n + 1 := rfl
  have p2 : 1 ≤ 2 ^ d := Nat.one_le_two_pow
  unfold exprM
  rw [Nat.pow_succ]
  split
  ·show s.n + 1 + 1 + 1 ≤ _; omega
  ·split
   ·show s.n + 1 + 1 + 1 ≤ _; omega
   ·show (exprM bs d (exprM bs d (takeS s 5)).2).2.n + 1 ≤ _; omega
noncomputable def spExprM (n : Nat) : Sp := fun vs H Q _ => ∃ (p bx : Addr) (bs : List (Str × Int)) (s : S3) (d : Nat), vs = [.ref p, .ref bx, .int d] ∧ St3 H p s ∧ Bx H bx bs ∧ d < n ∧ s.n + 3 * 2 ^ d ≤ 900000 ∧
 ∀ (v : V) (H' : Hp), But1 p H H' → St3 H' p (exprM bs d s).2 → (exprM bs d s).1.At H' v → Q v H'
theorem dn_expr0 (F : Fd K mg "_law_expression" (top 27) ["state", "boxes", "deep"]) : Dn P w K mg base "_law_expression" 3 ["state", "boxes", "deep"] (spExprM 0) := by
 have no : ∀ vs H Q E, ¬ spExprM 0 vs H Q E := fun vs H Q E h => by
  obtain ⟨_, _, _, _, d, _, _, _, h1, _⟩ := h
  omega
 obtain ⟨f, fd, F, a, b, c⟩ := F.ex
 exact ⟨f, fd, ⟨fun vs H Q E h => absurd h (no vs H Q E), fun A outer s H args us vs Q E _ _ _ _ h => absurd h (no vs H Q E)⟩, a, b, c⟩
theorem dn_expr1 {n : Nat} (F : Fd K mg "_law_expression" (top 27) ["state", "boxes", "deep"]) (B : Bl mg) (D_law_take : Dn P w K mg base "_law_take" 2 ["state", "many"] spTake)
  (D_law_expression : Dn P w K mg base "_law_expression" (n + 3) ["state", "boxes", "deep"] (spExprM n)) : Dn P w K mg base "_law_expression" (n + 4) ["state", "boxes", "deep"] (spExprM (n + 1)) := by
 refine F.ok (k := n + 3) zN (fun vs H Q E h => ?_) (fun f cdv A outer s H vs Q E hr h => ?_)
 ·obtain ⟨_, _, _, _, _, rfl, _⟩ := h
  rfl
 obtain ⟨p, bx, bs, s, d, rfl, es, hb, hd, hn, q⟩ := h
 have pd : 1 ≤ 2 ^ d := Nat.one_le_two_pow
 have b3 := hb.le
 have bl : 0 < bs.length := List.length_pos_iff.mpr hb.ne
 have lbig : ((bs.length : Nat) : Int).natAbs < 2 ^ 1000 := big _ (by omega) (Int.lt_of_le_of_lt (b := 3) (by omega) (by decide +kernel))
 refine ⟨_, (qZ (qN (i := 3) zN.nd rfl (by wtm_at "zo") (qD D_law_take hr (qQ (pv 0) (qQ qF qX))))
  (qZ (zJ (qS zD (pv 3) qF (xE _)) (qJ (qO (xN (qQ qG (qQ (qD D_law_take hr (qQ (pv 0) (qQ qF qX))) qX))))) qY)
  (qZ (zJ (PW.pt (pw_or (qS zD (pv 2) qF (xE _)) (pw_or1 (qS op_lt (pv 3) qF (xE _))))) (qJ (qO (xN (qQ qG (qQ (xG (qT (K := K)) (xG (qU (K := K)) (pv 1) (qD D_law_take hr (qQ (pv 0) (qQ (xJ (xS (K := K)) rfl B.len' zH (qQ (pv 1) qX)) qX))) (fun _ _ => rfl)) qF (fun _ _ => rfl)) qX))))) qY)
  (qZ (qN (i := 4) zN.nd rfl (by wtm_at "zo") (qD D_law_expression hr (qQ (pv 0) (qQ (pv 1) (qQ (xX jI (pv 2) qF) qX)))))
  (qJ (qO (xN (qQ (xG (qU (K := K)) (xP (qQ qG (qQ qG qX))) (xX jI (pv 3) qF) (fun _ _ => rfl)) (qQ (pv 4) (qQ (qD D_law_expression hr (qQ (pv 0) (qQ (pv 1) (qQ (xX jI (pv 2) qF) qX)))) qX)))))))))), ?_⟩
 wtm_at "zw"
 refine ⟨p, s, 5, rfl, es, by decide, by decide +kernel, by omega, fun H1 B1 e1 => ?_⟩
 have hb1 := hb.but1 es B1
 have kb := xH s (m := 5) (by decide)
 wtm_at "zw"
 by_cases k0 : takeV s 5 = 0
 ·rw [decide_eq_true (show V.int (takeV s 5) = V.int 0 by rw [k0])]
  refine iteT ?_
  wtm_at "zw"
  refine ⟨p, takeS s 5, 10, rfl, e1, by decide, by decide +kernel, by show s.n + 1 ≤ _; omega, fun H2 B2 e2 => ?_⟩
  wtm_at "zw"
  refine ⟨xF (show 2 ≤ 1000000 by decide), fun t ht => ?_⟩
  have em : exprM bs d s = (.num (takeV (takeS s 5) 10), takeS (takeS s 5) 10) := by
   cases d <;> (unfold exprM; rw [if_pos k0])
  rw [em] at q
  exact q _ _ ((B1.trans B2).trans (.of (qV ht _))) (qV ht _ _ _ e2) ⟨t, rfl, qW⟩
 rw [decide_eq_false (show ¬ (V.int (takeV s 5) = V.int 0) from fun z => k0 (V.int.inj z))]
 refine iteF ?_
 obtain ⟨us1, eu1, pu1⟩ := hb1.ex
 have lu1 : us1.length = bs.length := pu1.length.symm
 wtm_at "zw"
 refine ite2 (fun c => ?_) (fun c => ?_)
 ·have d0 : d = 0 := by have := V.int.inj (of_decide_eq_true c); omega
  subst d0
  refine iteT ?_
  have em : exprM bs 0 s = (.box (nameAt bs (takeV (takeS s 5) bs.length)), takeS (takeS s 5) bs.length) := by unfold exprM; rw [if_neg k0]
  rw [em] at q
  wtm_at "zw"
  rw [lu1]
  refine ⟨p, takeS s 5, bs.length, rfl, e1, by omega, lbig, by show s.n + 1 ≤ _; omega, fun H2 B2 e2 => ?_⟩
  have tb := xH (takeS s 5) (m := bs.length) (by omega)
  obtain ⟨us2, a, z, eu2, lu2, ea, et⟩ := (hb1.but1 e1 B2).at tb.1 tb.2
  wtm_at "zw"
  refine ⟨xF (show 2 ≤ 1000000 by decide), fun t ht => ?_⟩
  exact q _ _ ((B1.trans B2).trans (.of (qV ht _))) (qV ht _ _ _ e2) ⟨t, rfl, qW⟩
 have d0 : d ≠ 0 := fun z => c (decide_eq_true (by rw [z]; rfl))
 obtain ⟨d, rfl⟩ := Nat.exists_eq_succ_of_ne_zero d0
 wtm_at "zw"
 refine ite2 (fun c => ?_) (fun c => ?_)
 ·have k3 := of_decide_eq_true c
  have em : exprM bs (d + 1) s = (.box (nameAt bs (takeV (takeS s 5) bs.length)), takeS (takeS s 5) bs.length) := by unfold exprM; rw [if_neg k0, if_pos k3]
  rw [em] at q
  wtm_at "zw"
  rw [lu1]
  refine ⟨p, takeS s 5, bs.length, rfl, e1, by omega, lbig, by show s.n + 1 ≤ _; omega, fun H2 B2 e2 => ?_⟩
  have tb := xH (takeS s 5) (m := bs.length) (by omega)
  obtain ⟨us2, a, z, eu2, lu2, ea, et⟩ := (hb1.but1 e1 B2).at tb.1 tb.2
  wtm_at "zw"
  refine ⟨xF (show 2 ≤ 1000000 by decide), fun t ht => ?_⟩
  exact q _ _ ((B1.trans B2).trans (.of (qV ht _))) (qV ht _ _ _ e2) ⟨t, rfl, qW⟩
 have k3 : ¬ (takeV s 5 < 3) := fun z => c (decide_eq_true z)
 have em : exprM bs (d + 1) s = (.bin (opM (takeV s 5)) (exprM bs d (takeS s 5)).1 (exprM bs d (exprM bs d (takeS s 5)).2).1, (exprM bs d (exprM bs d (takeS s 5)).2).2) := by
  conv => lhs; unfold exprM
  rw [if_neg k0, if_neg k3]
 rw [em] at q
 have c1 := vM bs d (takeS s 5)
 have ts : (takeS s 5).n = s.n + 1 := rfl
 have hn' : s.n + 3 * (2 ^ d * 2) ≤ 900000 := by rw [← Nat.pow_succ]; exact hn
 have dd : ((d + 1 : Nat) : Int) - 1 = (d : Int) := by omega
 wtm_at "zw"
 refine ⟨p, bx, bs, takeS s 5, d, by show [V.ref p, .ref bx, .int (((d + 1 : Nat) : Int) - 1)] = _; rw [dd], e1, hb1, by omega, by omega, fun v1 H2 B2 e2 a1 => ?_⟩
 have hb2 := hb1.but1 e1 B2
 wtm_at "zw"
 refine ⟨xF (show 2 ≤ 1000000 by decide), fun l hl => ?_⟩
 have S3' := qV hl (.lst [V.str "plus", V.str "less"])
 have el : upd H2 l (.lst [V.str "plus", V.str "less"]) l = some _ := qW
 generalize upd H2 l (.lst [V.str "plus", V.str "less"]) = H3 at S3' el ⊢
 have e3 := S3' _ _ e2
 have hb3 := hb2.same S3'
 have a3 := Th.At.mono (qC S3') a1
 wtm_at "zw"
 refine ⟨l, _, _, .str (opM (takeV s 5)), rfl, rfl, SqL.of el, op_at kb.2 k3, ?_⟩
 wtm_at "zw"
 refine ⟨p, bx, bs, (exprM bs d (takeS s 5)).2, d, by show [V.ref p, .ref bx, .int (((d + 1 : Nat) : Int) - 1)] = _; rw [dd], e3, hb3, by omega, by omega, fun v2 H4 B4 e4 a4 => ?_⟩
 wtm_at "zw"
 refine ⟨xF (show 3 ≤ 1000000 by decide), fun t ht => ?_⟩
 have S5 := qV ht (.tup [V.str (opM (takeV s 5)), v1, v2])
 have T4 := xR B4 e3
 exact q _ _ ((((B1.trans B2).trans (.of S3')).trans B4).trans (.of S5)) (S5 _ _ e4) ⟨t, v1, v2, rfl, qW, Th.At.mono (qC S5) (Th.At.mono T4 a3), Th.At.mono (qC S5) a4⟩
theorem dn_expr (F : Fd K mg "_law_expression" (top 27) ["state", "boxes", "deep"]) (B : Bl mg) (D : Dn P w K mg base "_law_take" 2 ["state", "many"] spTake) (n : Nat) : Dn P w K mg base "_law_expression" (n + 3) ["state", "boxes", "deep"] (spExprM n) := by
 induction n with
 | zero => exact dn_expr0 F
 | succ n ih => exact dn_expr1 F B D ih

theorem zG : FnScope ["state", "boxes", "deep", "kind", "one"] ["state", "boxes", "deep"] (xB (top 28)) := ⟨rfl, rfl, rfl, by decide +kernel, rfl, by decide +kernel, by decide +kernel⟩
noncomputable def relM (k : Int) : Str := if k % 2 = 0 then "same" else "under"
noncomputable def condL (bs : List (Str × Int)) (s : S3) : Th × S3 :=
 (.bin (relM (takeV s 8)) (exprM bs 1 (takeS s 8)).1 (exprM bs 1 (exprM bs 1 (takeS s 8)).2).1, (exprM bs 1 (exprM bs 1 (takeS s 8)).2).2)
noncomputable def condM (bs : List (Str × Int)) : Nat → S3 → Th × S3
 | 0, s => if takeV s 8 = 4 then (.nul "yes", takeS s 8) else condL bs s
 | d + 1, s => if takeV s 8 = 4 then (.nul "yes", takeS s 8) else if takeV s 8 < 5 then condL bs s
  else if takeV s 8 = 5 then (.un "not" (condM bs d (takeS s 8)).1, (condM bs d (takeS s 8)).2)
  else (.bin "both" (condM bs d (takeS s 8)).1 (condM bs d (condM bs d (takeS s 8)).2).1, (condM bs d (condM bs d (takeS s 8)).2).2)
theorem condL_n (bs : List (Str × Int)) (s : S3) : (condL bs s).2.n + 1 ≤ s.n + 12 := by
 have h1 := vM bs 1 (takeS s 8)
 have h2 := vM bs 1 (exprM bs 1 (takeS s 8)).2
 have e : (takeS s 8).n = s.n + 1 := rfl
 show (exprM bs 1 (exprM bs 1 (takeS s 8)).2).2.n + 1 ≤ _
 omega
theorem condM_n (bs : List (Str × Int)) (d : Nat) : ∀ s : S3, (condM bs d s).2.n + 1 ≤ s.n + 12 * 2 ^ d := by
 induction d with
 | zero =>
  intro s
  have := condL_n bs s
  unfold condM
  split
  ·show s.n + 1 + 1 ≤ _; omega
  ·omega
 | succ d ih =>
  intro s
  have h1 := ih (takeS s 8)
  have h2 := ih (condM bs d (takeS s 8)).2
  have e : (takeS s 8).n = s.n + 1 := rfl
  have p2 : 1 ≤ 2 ^ d := Nat.one_le_two_pow
  have := condL_n bs s
  unfold condM
  rw [Nat.pow_succ]
  split
  ·show s.n + 1 + 1 ≤ _; omega
  ·split
   ·omega
   ·split
    ·show (condM bs d (takeS s 8)).2.n + 1 ≤ _; omega
    ·show (condM bs d (condM bs d (takeS s 8)).2).2.n + 1 ≤ _; omega
theorem rel_at {k : Int} : atI [V.str "same", V.str "under"] (k % 2) = some (.str (relM k)) := by
 unfold relM
 have c : k % 2 = 0 ∨ k % 2 = 1 := by omega
 rcases c with c | c
 ·rw [c]; rfl
 ·rw [c]; rfl
noncomputable def spCondM (n : Nat) : Sp := fun vs H Q _ => ∃ (p bx : Addr) (bs : List (Str × Int)) (s : S3) (d : Nat), vs = [.ref p, .ref bx, .int d] ∧ St3 H p s ∧ Bx H bx bs ∧ d < n ∧ s.n + 12 * 2 ^ d ≤ 900000 ∧
 ∀ (v : V) (H' : Hp), But1 p H H' → St3 H' p (condM bs d s).2 → (condM bs d s).1.At H' v → Q v H'
theorem dn_cond0 (F : Fd K mg "_law_condition" (top 28) ["state", "boxes", "deep"]) : Dn P w K mg base "_law_condition" 6 ["state", "boxes", "deep"] (spCondM 0) := by
 have no : ∀ vs H Q E, ¬ spCondM 0 vs H Q E := fun vs H Q E h => by
  obtain ⟨_, _, _, _, d, _, _, _, h1, _⟩ := h
  omega
 obtain ⟨f, fd, F, a, b, c⟩ := F.ex
 exact ⟨f, fd, ⟨fun vs H Q E h => absurd h (no vs H Q E), fun A outer s H args us vs Q E _ _ _ _ h => absurd h (no vs H Q E)⟩, a, b, c⟩
theorem dn_cond1 {n : Nat} (F : Fd K mg "_law_condition" (top 28) ["state", "boxes", "deep"]) (B : Bl mg) (D_law_take : Dn P w K mg base "_law_take" 2 ["state", "many"] spTake)
  (D_law_expression : Dn P w K mg base "_law_expression" 6 ["state", "boxes", "deep"] (spExprM 3)) (D_law_condition : Dn P w K mg base "_law_condition" (n + 6) ["state", "boxes", "deep"] (spCondM n)) : Dn P w K mg base "_law_condition" (n + 7) ["state", "boxes", "deep"] (spCondM (n + 1)) := by
 refine F.ok (k := n + 6) zG (fun vs H Q E h => ?_) (fun f cdv A outer s H vs Q E hr h => ?_)
 ·obtain ⟨_, _, _, _, _, rfl, _⟩ := h
  rfl
 obtain ⟨p, bx, bs, s, d, rfl, es, hb, hd, hn, q⟩ := h
 have pd : 1 ≤ 2 ^ d := Nat.one_le_two_pow
 refine ⟨_, (qZ (qN (i := 3) zG.nd rfl (by wtm_at "zo") (qD D_law_take hr (qQ (pv 0) (qQ qF qX))))
  (qZ (zJ (qS zD (pv 3) qF (xE _)) (qJ (qO (xN (qQ qG qX)))) qY)
  (qZ (zJ (PW.pt (pw_or (qS zD (pv 2) qF (xE _)) (pw_or1 (qS op_lt (pv 3) qF (xE _))))) (qZ (qN (i := 4) zG.nd rfl (by wtm_at "zo") (qD D_law_expression hr (qQ (pv 0) (qQ (pv 1) (qQ qF qX)))))
  (qJ (qO (xN (qQ (xG (qU (K := K)) (xP (qQ qG (qQ qG qX))) (xX yW (pv 3) qF) (fun _ _ => rfl)) (qQ (pv 4) (qQ (qD D_law_expression hr (qQ (pv 0) (qQ (pv 1) (qQ qF qX)))) qX))))))) qY)
  (qZ (qN (i := 4) zG.nd rfl (by wtm_at "zo") (qD D_law_condition hr (qQ (pv 0) (qQ (pv 1) (qQ (xX jI (pv 2) qF) qX)))))
  (qZ (zJ (qS zD (pv 3) qF (xE _)) (qJ (qO (xN (qQ qG (qQ (pv 4) qX))))) qY)
  (qJ (qO (xN (qQ qG (qQ (pv 4) (qQ (qD D_law_condition hr (qQ (pv 0) (qQ (pv 1) (qQ (xX jI (pv 2) qF) qX)))) qX))))))))))), ?_⟩
 wtm_at "zw"
 refine ⟨p, s, 8, rfl, es, by decide, by decide +kernel, by omega, fun H1 B1 e1 => ?_⟩
 have hb1 := hb.but1 es B1
 have kb := xH s (m := 8) (by decide)
 have ts : (takeS s 8).n = s.n + 1 := rfl
 wtm_at "zw"
 by_cases k4 : takeV s 8 = 4
 ·rw [decide_eq_true (show V.int (takeV s 8) = V.int 4 by rw [k4])]
  refine iteT ?_
  wtm_at "zw"
  refine ⟨xF (show 1 ≤ 1000000 by decide), fun t ht => ?_⟩
  have em : condM bs d s = (.nul "yes", takeS s 8) := by
   cases d <;> (unfold condM; rw [if_pos k4])
  rw [em] at q
  exact q _ _ (B1.trans (.of (qV ht _))) (qV ht _ _ _ e1) ⟨t, rfl, qW⟩
 rw [decide_eq_false (show ¬ (V.int (takeV s 8) = V.int 4) from fun z => k4 (V.int.inj z))]
 refine iteF ?_
 wtm_at "zw"
 have c1 := vM bs 1 (takeS s 8)
 refine ite2 (fun c => ?_) (fun c => ?_)
 ·have d0 : d = 0 := by have := V.int.inj (of_decide_eq_true c); omega
  subst d0
  refine iteT ?_
  have em : condM bs 0 s = condL bs s := by unfold condM; rw [if_neg k4]
  rw [em] at q
  wtm_at "zw"
  refine ⟨p, bx, bs, takeS s 8, 1, rfl, e1, hb1, by omega, by omega, fun v1 H2 B2 e2 a1 => ?_⟩
  have hb2 := hb1.but1 e1 B2
  wtm_at "zw"
  refine ⟨xF (show 2 ≤ 1000000 by decide), fun l hl => ?_⟩
  have S3' := qV hl (.lst [V.str "same", V.str "under"])
  have el : upd H2 l (.lst [V.str "same", V.str "under"]) l = some _ := qW
  generalize upd H2 l (.lst [V.str "same", V.str "under"]) = H3 at S3' el ⊢
  have e3 := S3' _ _ e2
  have hb3 := hb2.same S3'
  have a3 := Th.At.mono (qC S3') a1
  wtm_at "zw"
  refine w_I (show (0 : Int) < 2 by decide) ?_
  refine ⟨l, _, _, .str (relM (takeV s 8)), rfl, rfl, SqL.of el, rel_at, ?_⟩
  wtm_at "zw"
  refine ⟨p, bx, bs, (exprM bs 1 (takeS s 8)).2, 1, rfl, e3, hb3, by omega, by omega, fun v2 H4 B4 e4 a4 => ?_⟩
  wtm_at "zw"
  refine ⟨xF (show 3 ≤ 1000000 by decide), fun t ht => ?_⟩
  have S5 := qV ht (.tup [V.str (relM (takeV s 8)), v1, v2])
  have T4 := xR B4 e3
  exact q _ _ ((((B1.trans B2).trans (.of S3')).trans B4).trans (.of S5)) (S5 _ _ e4) ⟨t, v1, v2, rfl, qW, Th.At.mono (qC S5) (Th.At.mono T4 a3), Th.At.mono (qC S5) a4⟩
 have d0 : d ≠ 0 := fun z => c (decide_eq_true (by rw [z]; rfl))
 obtain ⟨d, rfl⟩ := Nat.exists_eq_succ_of_ne_zero d0
 wtm_at "zw"
 refine ite2 (fun c => ?_) (fun c => ?_)
 ·have k5 := of_decide_eq_true c
  have em : condM bs (d + 1) s = condL bs s := by unfold condM; rw [if_neg k4, if_pos k5]
  rw [em] at q
  wtm_at "zw"
  refine ⟨p, bx, bs, takeS s 8, 1, rfl, e1, hb1, by omega, by omega, fun v1 H2 B2 e2 a1 => ?_⟩
  have hb2 := hb1.but1 e1 B2
  wtm_at "zw"
  refine ⟨xF (show 2 ≤ 1000000 by decide), fun l hl => ?_⟩
  have S3' := qV hl (.lst [V.str "same", V.str "under"])
  have el : upd H2 l (.lst [V.str "same", V.str "under"]) l = some _ := qW
  generalize upd H2 l (.lst [V.str "same", V.str "under"]) = H3 at S3' el ⊢
  have e3 := S3' _ _ e2
  have hb3 := hb2.same S3'
  have a3 := Th.At.mono (qC S3') a1
  wtm_at "zw"
  refine w_I (show (0 : Int) < 2 by decide) ?_
  refine ⟨l, _, _, .str (relM (takeV s 8)), rfl, rfl, SqL.of el, rel_at, ?_⟩
  wtm_at "zw"
  refine ⟨p, bx, bs, (exprM bs 1 (takeS s 8)).2, 1, rfl, e3, hb3, by omega, by omega, fun v2 H4 B4 e4 a4 => ?_⟩
  wtm_at "zw"
  refine ⟨xF (show 3 ≤ 1000000 by decide), fun t ht => ?_⟩
  have S5 := qV ht (.tup [V.str (relM (takeV s 8)), v1, v2])
  have T4 := xR B4 e3
  exact q _ _ ((((B1.trans B2).trans (.of S3')).trans B4).trans (.of S5)) (S5 _ _ e4) ⟨t, v1, v2, rfl, qW, Th.At.mono (qC S5) (Th.At.mono T4 a3), Th.At.mono (qC S5) a4⟩
 have k5 : ¬ (takeV s 8 < 5) := fun z => c (decide_eq_true z)
 have c2 := condM_n bs d (takeS s 8)
 have hn' : s.n + 12 * (2 ^ d * 2) ≤ 900000 := by rw [← Nat.pow_succ]; exact hn
 have dd : ((d + 1 : Nat) : Int) - 1 = (d : Int) := by omega
 wtm_at "zw"
 refine ⟨p, bx, bs, takeS s 8, d, by show [V.ref p, .ref bx, .int (((d + 1 : Nat) : Int) - 1)] = _; rw [dd], e1, hb1, by omega, by omega, fun v1 H2 B2 e2 a1 => ?_⟩
 have hb2 := hb1.but1 e1 B2
 wtm_at "zw"
 by_cases k6 : takeV s 8 = 5
 ·rw [decide_eq_true (show V.int (takeV s 8) = V.int 5 by rw [k6])]
  refine iteT ?_
  have em : condM bs (d + 1) s = (.un "not" (condM bs d (takeS s 8)).1, (condM bs d (takeS s 8)).2) := by
   conv => lhs; unfold condM
   rw [if_neg k4, if_neg k5, if_pos k6]
  rw [em] at q
  wtm_at "zw"
  refine ⟨xF (show 2 ≤ 1000000 by decide), fun t ht => ?_⟩
  have S5 := qV ht (.tup [V.str "not", v1])
  exact q _ _ ((B1.trans B2).trans (.of S5)) (S5 _ _ e2) ⟨t, v1, rfl, qW, Th.At.mono (qC S5) a1⟩
 ·rw [decide_eq_false (show ¬ (V.int (takeV s 8) = V.int 5) from fun z => k6 (V.int.inj z))]
  refine iteF ?_
  have em : condM bs (d + 1) s = (.bin "both" (condM bs d (takeS s 8)).1 (condM bs d (condM bs d (takeS s 8)).2).1, (condM bs d (condM bs d (takeS s 8)).2).2) := by
   conv => lhs; unfold condM
   rw [if_neg k4, if_neg k5, if_neg k6]
  rw [em] at q
  wtm_at "zw"
  refine ⟨p, bx, bs, (condM bs d (takeS s 8)).2, d, by show [V.ref p, .ref bx, .int (((d + 1 : Nat) : Int) - 1)] = _; rw [dd], e2, hb2, by omega, by omega, fun v2 H4 B4 e4 a4 => ?_⟩
  wtm_at "zw"
  refine ⟨xF (show 3 ≤ 1000000 by decide), fun t ht => ?_⟩
  have S5 := qV ht (.tup [V.str "both", v1, v2])
  have T4 := xR B4 e2
  exact q _ _ (((B1.trans B2).trans B4).trans (.of S5)) (S5 _ _ e4) ⟨t, v1, v2, rfl, qW, Th.At.mono (qC S5) (Th.At.mono T4 a1), Th.At.mono (qC S5) a4⟩
theorem dn_cond (F : Fd K mg "_law_condition" (top 28) ["state", "boxes", "deep"]) (B : Bl mg) (D : Dn P w K mg base "_law_take" 2 ["state", "many"] spTake) (DE : Dn P w K mg base "_law_expression" 6 ["state", "boxes", "deep"] (spExprM 3)) (n : Nat) : Dn P w K mg base "_law_condition" (n + 6) ["state", "boxes", "deep"] (spCondM n) := by
 induction n with
 | zero => exact dn_cond0 F
 | succ n ih => exact dn_cond1 F B D DE ih

noncomputable def abc : List Nat := ("abcdefghijklmnopqrstuvwxyz" : Str).cps.toList
noncomputable def letter (i : Int) : Nat := abc.getD i.toNat 0
theorem abc_len : abc.length = 26 := by decide +kernel
theorem wI {i : Int} (h0 : 0 ≤ i) (h1 : i < 26) : atI ("abcdefghijklmnopqrstuvwxyz" : Str).cps.toList i = some (letter i) := by
 have e : i = ((i.toNat : Nat) : Int) := by omega
 have hk : i.toNat < abc.length := by rw [abc_len]; omega
 have z : atI abc ((i.toNat : Nat) : Int) = some (letter i) := zI (by unfold letter; rw [List.getD_eq_getElem?_getD, List.getElem?_eq_getElem hk]; rfl)
 rw [← e] at z
 exact z
noncomputable def wordOf (c : Nat) (a r : Int) (k : Nat) : Str := Txt.mul ⟨#[c]⟩ a ++ ⟨#[k]⟩ ++ Txt.mul ⟨#[c]⟩ r
theorem wN (c : Nat) : ∀ (k : Nat) (acc : Array Nat), ((List.replicate k #[c]).foldl (· ++ ·) acc).toList = acc.toList ++ List.replicate k c
 | 0, acc => by simp
 | k + 1, acc => by
  rw [List.replicate_succ, List.foldl_cons, wN c k, Array.toList_append, List.append_assoc, List.replicate_succ]
  rfl
theorem mul_codes (c : Nat) (n : Int) : (Txt.mul ⟨#[c]⟩ n).cps.toList = List.replicate n.toNat c := by
 unfold Txt.mul
 split
 ·have : n.toNat = 0 := by omega
  rw [this]; rfl
 ·split
  ·rename_i h1 h2
   have h3 : (n == 1) = true := by
    rw [Bool.or_eq_true] at h2
    rcases h2 with h | h
    ·exact h
    ·exact absurd (show ((1 : Nat) == 0) = true from h) (by decide)
   have : n = 1 := eq_of_beq h3
   subst this; rfl
  ·rw [wN]; rfl
theorem wV (c : Nat) (a r : Int) (k : Nat) : (wordOf c a r k).cps.toList = List.replicate a.toNat c ++ k :: List.replicate r.toNat c := by
 show ((Txt.mul ⟨#[c]⟩ a).cps ++ #[k] ++ (Txt.mul ⟨#[c]⟩ r).cps).toList = _
 rw [Array.toList_append, Array.toList_append, mul_codes, mul_codes]
 simp
theorem vA : ("abcdefghijklmnopqrstuvwxyz" : Str).length ≤ sizeLine := by decide +kernel
theorem len_app (x y : Str) : (x ++ y).length = x.length + y.length := by
 show (x.cps ++ y.cps).size = _
 rw [Array.size_append]; rfl
noncomputable def Low (c : Nat) : Prop := (Builtin.Str.reprChar 34 c).length ≤ 1 ∧ (Builtin.Str.reprChar 39 c).length ≤ 1
theorem low_all : ∀ i : Fin 26, (Builtin.Str.reprChar 34 (abc.getD i.val 0)).length ≤ 1 ∧ (Builtin.Str.reprChar 39 (abc.getD i.val 0)).length ≤ 1 := by decide +kernel
theorem wH {i : Int} (h0 : 0 ≤ i) (h1 : i < 26) : Low (letter i) := low_all ⟨i.toNat, by omega⟩
theorem fold_low {q : Nat} : ∀ (l : List Nat) (n : Nat), (∀ c ∈ l, (Builtin.Str.reprChar q c).length ≤ 1) → l.foldl (fun n c => n + (Builtin.Str.reprChar q c).length) n ≤ n + l.length
 | [], n, _ => by simp
 | c :: l, n, h => by
  have h1 := h c (List.mem_cons_self ..)
  have ih := fold_low l (n + (Builtin.Str.reprChar q c).length) fun d hd => h d (List.mem_cons_of_mem _ hd)
  rw [List.foldl_cons, List.length_cons]
  omega
theorem kM {x : Str} (h : ∀ c ∈ x.cps.toList, Low c) (hl : x.length ≤ 1000) : Short x := by
 refine ⟨hl, ?_⟩
 rw [← reprLen_eq, ← Array.foldl_toList]
 have hq : ∀ c ∈ x.cps.toList, (Builtin.Str.reprChar (reprQuote x) c).length ≤ 1 := fun c hc => by
  unfold reprQuote
  split
  ·exact (h c hc).1
  ·exact (h c hc).2
 have := fold_low x.cps.toList 2 hq
 have e : x.cps.toList.length = x.length := rfl
 omega
theorem zX : FnScope ["state", "many", "letters", "size", "at", "pad", "first", "found", "k", "sign"] ["state", "many"] (xB (top 30)) := ⟨rfl, rfl, rfl, by decide +kernel, rfl, by decide +kernel, by decide +kernel⟩
noncomputable def wordM (s : S3) (j : Nat) : Str :=
 wordOf (letter (takeV (takeS (takeS s 8) (1 + takeV s 8)) 26)) (takeV (takeS s 8) (1 + takeV s 8)) (1 + takeV s 8 - takeV (takeS s 8) (1 + takeV s 8) - 1)
  (letter ((takeV (takeS (takeS (takeS s 8) (1 + takeV s 8)) 26) 26 + 3 * (0 + (j : Int))) % 26))
noncomputable def wordsM (s : S3) (m : Nat) : List Str := (List.range m).map (wordM s)
noncomputable def wordsS (s : S3) : S3 := takeS (takeS (takeS (takeS s 8) (1 + takeV s 8)) 26) 26
theorem kT (s : S3) (j : Nat) : Short (wordM s j) := by
 have a := xH s (m := 8) (by decide)
 have b := xH (takeS s 8) (m := 1 + takeV s 8) (by omega)
 have c := xH (takeS (takeS s 8) (1 + takeV s 8)) (m := 26) (by decide)
 have lc := wH c.1 c.2
 have lk := wH (Int.emod_nonneg (takeV (takeS (takeS (takeS s 8) (1 + takeV s 8)) 26) 26 + 3 * (0 + (j : Int))) (b := 26) (by decide)) (Int.emod_lt_of_pos _ (by decide))
 refine kM (fun d hd => ?_) ?_
 ·unfold wordM at hd
  rw [wV] at hd
  rcases List.mem_append.mp hd with h | h
  ·rw [(List.mem_replicate.mp h).2]; exact lc
  ·rcases List.mem_cons.mp h with h | h
   ·rw [h]; exact lk
   ·rw [(List.mem_replicate.mp h).2]; exact lc
 ·show (wordM s j).cps.toList.length ≤ 1000
  unfold wordM
  rw [wV]
  simp only [List.length_append, List.length_cons, List.length_replicate]
  omega
noncomputable def spWords : Sp := fun vs H Q _ => ∃ (p : Addr) (s : S3) (m : Nat), vs = [.ref p, .int m] ∧ St3 H p s ∧ s.n ≤ 900000 ∧ m ≤ 26 ∧
 ∀ (r : Addr) (H' : Hp), H r = none → But1 p H H' → St3 H' p (wordsS s) → H' r = some (.lst (strsV (wordsM s m))) → Q (.ref r) H'
theorem dn_words (F : Fd K mg "_law_words" (top 30) ["state", "many"]) (B : Bl mg) (D_law_take : Dn P w K mg base "_law_take" 2 ["state", "many"] spTake) : Dn P w K mg base "_law_words" 3 ["state", "many"] spWords := by
 refine F.ok zX (fun vs H Q E h => ?_) (fun f cdv A outer s H vs Q E hr h => ?_)
 ·obtain ⟨_, _, _, rfl, _⟩ := h
  rfl
 obtain ⟨p, s, m, rfl, es, hn, hm, q⟩ := h
 have a := xH s (m := 8) (by decide)
 have b := xH (takeS s 8) (m := 1 + takeV s 8) (by omega)
 have c := xH (takeS (takeS s 8) (1 + takeV s 8)) (m := 26) (by decide)
 have c' := xH (takeS (takeS (takeS s 8) (1 + takeV s 8)) 26) (m := 26) (by decide)
 refine ⟨_, (qZ (qN (i := 2) zX.nd rfl (by wtm_at "zo") qG)
  (qZ (qN (i := 3) zX.nd rfl (by wtm_at "zo") (xX zV qF (qD D_law_take hr (qQ (pv 0) (qQ qF qX)))))
  (qZ (qN (i := 4) zX.nd rfl (by wtm_at "zo") (qD D_law_take hr (qQ (pv 0) (qQ (pv 3) qX))))
  (qZ (qN (i := 5) zX.nd rfl (by wtm_at "zo") (xG ix_str (pv 2) (qD D_law_take hr (qQ (pv 0) (qQ qF qX))) (fun _ _ => rfl)))
  (qZ (qN (i := 6) zX.nd rfl (by wtm_at "zo") (qD D_law_take hr (qQ (pv 0) (qQ qF qX))))
  (qZ (qN (i := 7) zX.nd rfl (by wtm_at "zo") (xP qX))
  (qZ (zT PassesOwn.never rfl (zC rfl B.range' (qQ (pv 1) qX)) (qH (i := 8) zX.nd rfl (by wtm_at "zo")) (qZ (qN (i := 9) zX.nd rfl (by wtm_at "zo") (xG ix_str (pv 2) (xX yW (xX zV (pv 6) (xX yD qF (pv 8))) qF) (fun _ _ => rfl)))
  (qJ (qR (yV (K := K) PySem.F.plainAttrs_list PySem.F.slot_list_append PySem.F.type_list_append zF (pv 7) (qQ (xX wD (xX wD (xX op_repS (pv 5) (pv 4)) (pv 9)) (xX op_repS (pv 5) (xX jI (xX jI (pv 3) (pv 4)) qF))) qX))))))
  (qJ (qO (pv 7)))))))))), ?_⟩
 wtm_at "zw"
 refine ⟨p, s, 8, rfl, es, by decide, by decide +kernel, by omega, fun H1 B1 e1 => ?_⟩
 wtm_at "zw"
 refine ⟨p, takeS s 8, 1 + takeV s 8, rfl, e1, by omega, big _ (by omega) (Int.lt_of_le_of_lt (b := 10) (by omega) (by decide +kernel)), by show s.n + 1 ≤ _; omega, fun H2 B2 e2 => ?_⟩
 wtm_at "zw"
 refine ⟨p, _, 26, rfl, e2, by decide, by decide +kernel, by show s.n + 1 + 1 ≤ _; omega, fun H3 B3 e3 => ?_⟩
 wtm_at "zw"
 refine ⟨_, _, letter (takeV (takeS (takeS s 8) (1 + takeV s 8)) 26), rfl, rfl, vA, wI c.1 c.2, ?_⟩
 wtm_at "zw"
 refine ⟨p, _, 26, rfl, e3, by decide, by decide +kernel, by show s.n + 1 + 1 + 1 ≤ _; omega, fun H4 B4 e4 => ?_⟩
 have BB := ((B1.trans B2).trans B3).trans B4
 have q' := fun r H' => q r H'
 unfold wordsM wordsS at q'
 wtm_at "zw"
 refine ⟨xF (show 0 ≤ 1000000 by decide), fun r hr' => ?_⟩
 have np : p ≠ r := qB e4 hr'
 have nr : H r = none := by
  cases h : H r with
  | none => rfl
  | some o => rw [BB r o (Ne.symm np) h] at hr'; cases hr'
 wtm_at "zf"
 refine ⟨m, rfl, by omega, by omega, ?_⟩
 refine zP (fun i σ' H' => ∃ (z1 z2 : Option V), σ' = [some (.ref p), some (.int m), some (.str "abcdefghijklmnopqrstuvwxyz"), some (.int (1 + takeV s 8)), some (.int (takeV (takeS s 8) (1 + takeV s 8))), some (.str ⟨#[letter (takeV (takeS (takeS s 8) (1 + takeV s 8)) 26)]⟩), some (.int (takeV (takeS (takeS (takeS s 8) (1 + takeV s 8)) 26) 26)), some (.ref r), z1, z2] ∧
   H' = upd H4 r (.lst (strsV ((List.range i).map (wordM s))))) ⟨none, none, rfl, rfl⟩ ?_ ?_
 ·rintro N rt bk i σ' H' hi ⟨z1, z2, rfl, rfl⟩ hN
  have z26 : (0 : Int) < 26 := by decide
  have ec2 := wI (Int.emod_nonneg (takeV (takeS (takeS (takeS s 8) (1 + takeV s 8)) 26) 26 + 3 * (0 + (i : Int))) (b := 26) (by decide)) (Int.emod_lt_of_pos _ z26)
  refine ⟨_, rfl, _, rfl, _, rfl, 3, _, rfl, rfl, ⟨by decide +kernel, big _ (by omega) (Int.lt_of_le_of_lt (b := 100) (by omega) (by decide +kernel))⟩, _, _, rfl, rfl, _, 26, rfl, rfl, z26, _, _, _, rfl, rfl, vA, ec2, ?_⟩
  have l1 : ∀ c : Nat, (⟨#[c]⟩ : Str).length = 1 := fun _ => rfl
  have m1 := mul_len ⟨#[letter (takeV (takeS (takeS s 8) (1 + takeV s 8)) 26)]⟩ (takeV (takeS s 8) (1 + takeV s 8))
  have m2 := mul_len ⟨#[letter (takeV (takeS (takeS s 8) (1 + takeV s 8)) 26)]⟩ (1 + takeV s 8 - takeV (takeS s 8) (1 + takeV s 8) - 1)
  rw [l1] at m1 m2
  refine ⟨_, rfl, .inl ⟨rfl, _, SqL.of qW⟩, _, rfl, _, rfl, _, _, rfl, rfl, by omega, by omega, by rw [l1]; decide, _, rfl, _, _, rfl, rfl, by rw [l1]; exact smallE (by omega), _, rfl, _, rfl, _, rfl, _, _, rfl, rfl, _, 1, rfl, rfl, _, _, rfl, rfl, by omega, by omega, by rw [l1]; decide, _, _, rfl, rfl, ?_, ?_⟩
  ·rw [len_app, l1]; exact smallE (by omega)
  ·refine ⟨r, _, _, rfl, rfl, qW, by rw [xA, List.length_map, List.length_range]; exact small (by omega), ?_⟩
   refine hN _ _ ⟨_, _, rfl, ?_⟩
   rw [upd_upd, List.range_succ, List.map_append, kU]
   rfl
 ·rintro σ' H' ⟨z1, z2, rfl, rfl⟩
  refine ⟨_, rfl, ?_⟩
  refine q' r _ nr (fun b o n e => ?_) ?_ ?_
  ·rw [qA (qB (BB b o n e) hr')]; exact BB b o n e
  ·show upd _ _ _ _ = _
   rw [qA np]; exact e4
  ·rw [qW]; rfl

noncomputable def ChangeIn (H : Hp) (c : Str × Th) (u : V) : Prop := ∃ a v, u = .ref a ∧ H a = some (.tup [.str c.1, v]) ∧ c.2.At H v
noncomputable def WayIn (H : Hp) (wy : List (Str × Th)) (u : V) : Prop := ∃ a us, u = .ref a ∧ H a = some (.lst us) ∧ Paired (ChangeIn H) wy us
structure Deed where
 name : Str
 price : Int
 need : Th
 ways : List (List (Str × Th))
noncomputable def DeedIn (H : Hp) (d : Deed) (u : V) : Prop := ∃ a nv wa us, u = .ref a ∧ H a = some (.tup [.str d.name, .int d.price, nv, .ref wa]) ∧ d.need.At H nv ∧ H wa = some (.lst us) ∧ Paired (WayIn H) d.ways us
theorem ChangeIn.tups {H H' : Hp} (t : Tups H H') {c : Str × Th} {u : V} (x : ChangeIn H c u) : ChangeIn H' c u := let ⟨a, v, e, q, r⟩ := x; ⟨a, v, e, t _ _ q, r.mono t⟩
theorem WayIn.same {H H' : Hp} (s : Same H H') {c : List (Str × Th)} {u : V} (x : WayIn H c u) : WayIn H' c u := let ⟨a, us, e, q, r⟩ := x; ⟨a, us, e, s _ _ q, Paired.mapP r fun _ _ y => y.tups (qC s)⟩
theorem wW {H : Hp} {a p : Addr} {us : List V} {s : S3} (hu : H a = some (.lst us)) (hr : ∀ u ∈ us, ∃ b, u = .ref b) (e : St3 H p s) : a ≠ p := by
 refine yI hu e fun z => ?_
 have e2 := HO.lst.inj z
 subst e2
 obtain ⟨b, hb⟩ := hr (.int s.a) (List.mem_cons_self ..)
 cases hb
theorem kI {H : Hp} {wy : List (Str × Th)} {us : List V} (h : Paired (ChangeIn H) wy us) : ∀ u ∈ us, ∃ b, u = .ref b := by
 induction h with
 | nil => exact fun u hu => nomatch hu
 | cons f _ ih =>
  intro u hu
  rcases List.mem_cons.mp hu with r | r
  ·obtain ⟨a, v, e, _⟩ := f; exact ⟨a, r.trans e⟩
  ·exact ih u r
theorem WayIn.but1 {H H' : Hp} {p : Addr} {s : S3} (B : But1 p H H') (e : St3 H p s) {wy : List (Str × Th)} {u : V} (x : WayIn H wy u) : WayIn H' wy u := by
 obtain ⟨a, us, e1, q, r⟩ := x
 exact ⟨a, us, e1, B _ _ (wW q (kI r) e) q, Paired.mapP r fun _ _ y => y.tups (xR B e)⟩
theorem zE {H : Hp} {y : Addr} {us vs : List V} (hy : H y = some (.lst us)) : Tups H (upd H y (.lst vs)) := fun b xs e => by rw [qA (yI e hy (by intro z; cases z))]; exact e
theorem Bx.upd {H : Hp} {bx y : Addr} {bs : List (Str × Int)} {us vs : List V} (h : Bx H bx bs) (n : bx ≠ y) (hy : H y = some (.lst us)) : Bx (L2.upd H y (.lst vs)) bx bs := by
 obtain ⟨⟨ws, eu, pu⟩, h2, h3⟩ := h
 exact ⟨⟨ws, by rw [qA n]; exact eu, Paired.mapP pu fun _ _ ⟨a, e1, e2⟩ => ⟨a, e1, zE hy _ _ e2⟩⟩, h2, h3⟩
theorem WayIn.upd {H : Hp} {y : Addr} {us vs : List V} {wy : List (Str × Th)} {u : V} (h : WayIn H wy u) (n : u ≠ .ref y) (hy : H y = some (.lst us)) : WayIn (L2.upd H y (.lst vs)) wy u := by
 obtain ⟨a, ws, e1, q, r⟩ := h
 have na : a ≠ y := fun z => n (by rw [e1, z])
 exact ⟨a, ws, e1, by rw [qA na]; exact q, Paired.mapP r fun _ _ c => c.tups (zE hy)⟩
theorem WayIn.step {H H' : Hp} {p y : Addr} {s : S3} {wy : List (Str × Th)} {u : V} (h : WayIn H wy u) (e : St3 H p s) (hy : H y = none) (B : ∀ b o, b ≠ p → b ≠ y → H b = some o → H' b = some o) : WayIn H' wy u := by
 obtain ⟨a, ws, e1, q, r⟩ := h
 have t : Tups H H' := fun b xs z => B b _ (yI z e (by intro z; cases z)) (qB z hy) z
 exact ⟨a, ws, e1, B _ _ (wW q (kI r) e) (qB q hy) q, Paired.mapP r fun _ _ c => c.tups t⟩
theorem Bx.there {H : Hp} {bx y : Addr} {bs : List (Str × Int)} (h : Bx H bx bs) (hy : H y = none) : bx ≠ y := let ⟨_, eu, _⟩ := h.ex; qB eu hy
noncomputable def chM (bs : List (Str × Int)) (at' : Int) : Nat → S3 → List (Str × Th) × S3
 | 0, s => ([], s)
 | j + 1, s => ((chM bs at' j s).1 ++ [(nameAt bs ((at' + (0 + (j : Int))) % bs.length), (exprM bs 1 (chM bs at' j s).2).1)], (exprM bs 1 (chM bs at' j s).2).2)
noncomputable def cntM (bs : List (Str × Int)) (k : Int) : Int := if (bs.length : Int) < k then bs.length else k
theorem cntM_bd (bs : List (Str × Int)) {k : Int} (h0 : 0 ≤ k) (h1 : k < 3) : 0 ≤ cntM bs k ∧ cntM bs k ≤ 2 := by
 unfold cntM
 split <;> omega
noncomputable def wayM (bs : List (Str × Int)) (s : S3) : List (Str × Th) × S3 :=
 chM bs (takeV s bs.length) (cntM bs (takeV (takeS s bs.length) 3)).toNat (takeS (takeS s bs.length) 3)
noncomputable def waysM (bs : List (Str × Int)) : Nat → S3 → List (List (Str × Th)) × S3
 | 0, s => ([], s)
 | i + 1, s => ((waysM bs i s).1 ++ [(wayM bs (waysM bs i s).2).1], (wayM bs (waysM bs i s).2).2)
theorem chM_n (bs : List (Str × Int)) (a : Int) (j : Nat) (s : S3) : (chM bs a j s).2.n ≤ s.n + 6 * j := by
 induction j with
 | zero => exact Nat.le_refl _
 | succ j ih =>
  have := vM bs 1 (chM bs a j s).2
  show (exprM bs 1 (chM bs a j s).2).2.n ≤ _
  omega
theorem chM_len (bs : List (Str × Int)) (a : Int) (j : Nat) (s : S3) : (chM bs a j s).1.length = j := by
 induction j with
 | zero => rfl
 | succ j ih =>
  show ((chM bs a j s).1 ++ [_]).length = _
  rw [List.length_append, ih]; rfl
theorem waysM_len (bs : List (Str × Int)) (i : Nat) (s : S3) : (waysM bs i s).1.length = i := by
 induction i with
 | zero => rfl
 | succ i ih =>
  show ((waysM bs i s).1 ++ [_]).length = _
  rw [List.length_append, ih]; rfl
theorem Paired.mapP' {α : Type} {F G : α → V → Prop} {l : List α} {us : List V} (r : Paired F l us) (f : ∀ a u, u ∈ us → F a u → G a u) : Paired G l us := by
 induction r with
 | nil => exact .nil
 | cons h _ ih => exact .cons (f _ _ (List.mem_cons_self ..) h) (ih fun a u hu => f a u (List.mem_cons_of_mem _ hu))
theorem wayM_n (bs : List (Str × Int)) (s : S3) : (wayM bs s).2.n ≤ s.n + 20 := by
 have h := chM_n bs (takeV s bs.length) (cntM bs (takeV (takeS s bs.length) 3)).toNat (takeS (takeS s bs.length) 3)
 have b0 := xH (takeS s bs.length) (m := 3) (by decide)
 have b := cntM_bd bs b0.1 b0.2
 have e : (takeS (takeS s bs.length) 3).n = s.n + 2 := rfl
 show (chM _ _ _ _).2.n ≤ _
 omega
theorem waysM_n (bs : List (Str × Int)) (i : Nat) (s : S3) : (waysM bs i s).2.n ≤ s.n + 20 * i := by
 induction i with
 | zero => exact Nat.le_refl _
 | succ i ih =>
  have := wayM_n bs (waysM bs i s).2
  show (wayM bs (waysM bs i s).2).2.n ≤ _
  omega
noncomputable def pickM (k : Int) : Int := if k = 2 then 10 ^ 6 else 3
noncomputable def needM (bs : List (Str × Int)) (s2 : S3) : Th × S3 := if takeV s2 3 = 1 then condM bs 1 (takeS s2 3) else (.nul "yes", takeS s2 3)
noncomputable def deedS (c : Int) : S3 := takeS (takeS (stateM c) 3) (pickM (takeV (stateM c) 3))
noncomputable def deedM (bs : List (Str × Int)) (c : Int) (name : Str) : Deed :=
 ⟨name, 1 + takeV (takeS (stateM c) 3) (pickM (takeV (stateM c) 3)), (needM bs (deedS c)).1, (waysM bs (1 + takeV (needM bs (deedS c)).2 3).toNat (takeS (needM bs (deedS c)).2 3)).1⟩
theorem zK : FnScope ["cell", "name", "boxes", "state", "price", "need", "ways", "k", "at", "way", "j"] ["cell", "name", "boxes"] (xB (top 29)) := ⟨rfl, rfl, rfl, by decide +kernel, rfl, by decide +kernel, by decide +kernel⟩
noncomputable def spDeedM : Sp := fun vs H Q _ => ∃ (c : Int) (name : Str) (bx : Addr) (bs : List (Str × Int)), vs = [.int c, .str name, .ref bx] ∧ Bx H bx bs ∧ ∀ (t wa : Addr) (nv : V) (us : List V) (H' : Hp), Same H H' → H' t = some (.tup [.str (deedM bs c name).name, .int (deedM bs c name).price, nv, .ref wa]) → (deedM bs c name).need.At H' nv → H wa = none → H' wa = some (.lst us) → (∀ b, V.ref b ∈ us → H b = none) → Paired (WayIn H') (deedM bs c name).ways us → Q (.ref t) H'
theorem pick_at {k : Int} (h0 : 0 ≤ k) (h1 : k < 3) : atI [V.int 3, V.int 3, V.int (10 ^ (6 : Int).toNat)] k = some (.int (pickM k)) := by
 have c : k = 0 ∨ k = 1 ∨ k = 2 := by omega
 rcases c with c | c | c <;> (subst c; rfl)
theorem pick_bd (k : Int) : 0 < pickM k ∧ (pickM k).natAbs < 2 ^ 1000 := by
 unfold pickM
 split
 ·exact ⟨by decide, by decide +kernel⟩
 ·exact ⟨by decide, by decide +kernel⟩
theorem zZ {H H1 H' : Hp} {p : Addr} (S : Same H H1) (n : H p = none) (B : But1 p H1 H') : Same H H' := fun b o e => B b o (qB e n) (S b o e)
theorem dn_deed (F : Fd K mg "_law_deed" (top 29) ["cell", "name", "boxes"]) (B : Bl mg) (D_law_state : Dn P w K mg base "_law_state" 1 ["cell"] spState) (D_law_take : Dn P w K mg base "_law_take" 2 ["state", "many"] spTake)
  (D_law_expression : Dn P w K mg base "_law_expression" 6 ["state", "boxes", "deep"] (spExprM 3)) (D_law_condition : Dn P w K mg base "_law_condition" 9 ["state", "boxes", "deep"] (spCondM 3)) : Dn P w K mg base "_law_deed" 10 ["cell", "name", "boxes"] spDeedM := by
 refine F.ok zK (fun vs H Q E h => ?_) (fun f cdv A outer s H vs Q E hr h => ?_)
 ·obtain ⟨_, _, _, _, rfl, _⟩ := h
  rfl
 obtain ⟨c, name, bx, bs, rfl, hb, q⟩ := h
 have b3 := hb.le
 have bl : 0 < bs.length := List.length_pos_iff.mpr hb.ne
 have lbig : ((bs.length : Nat) : Int).natAbs < 2 ^ 1000 := big _ (by omega) (Int.lt_of_le_of_lt (b := 3) (by omega) (by decide +kernel))
 unfold deedM at q
 refine ⟨_, (qZ (qN (i := 3) zK.nd rfl (by wtm_at "zo") (qD D_law_state hr (qQ (pv 0) qX)))
  (qZ (qN (i := 4) zK.nd rfl (by wtm_at "zo") (xX zV qF (qD D_law_take hr (qQ (pv 3) (qQ (xG (qU (K := K)) (xP (qQ qF (qQ qF (qQ (xX op_pow qF qF) qX)))) (qD D_law_take hr (qQ (pv 3) (qQ qF qX))) (fun _ _ => rfl)) qX)))))
  (qZ (qN (i := 5) zK.nd rfl (by wtm_at "zo") (xN (qQ qG qX)))
  (qK (zJ (qS zD (qD D_law_take hr (qQ (pv 3) (qQ qF qX))) qF (xE _)) (qJ (qN (i := 5) zK.nd rfl (by wtm_at "zo") (qD D_law_condition hr (qQ (pv 3) (qQ (pv 2) (qQ qF qX)))))) qY)
  (qZ (qN (i := 6) zK.nd rfl (by wtm_at "zo") (xP qX))
  (qZ (zT PassesOwn.never rfl (zC rfl B.range' (qQ (xX zV qF (qD D_law_take hr (qQ (pv 3) (qQ qF qX)))) qX)) (qH (i := 7) zK.nd rfl (by wtm_at "zo")) (qZ (qN (i := 8) zK.nd rfl (by wtm_at "zo") (qD D_law_take hr (qQ (pv 3) (qQ (xJ (xS (K := K)) rfl B.len' zH (qQ (pv 2) qX)) qX))))
  (qZ (qN (i := 9) zK.nd rfl (by wtm_at "zo") (xP qX))
  (qZ (zT PassesOwn.never rfl (zC rfl B.range' (qQ (xJ (call_min2 rfl) rfl B.min' bt_min (qQ (qD D_law_take hr (qQ (pv 3) (qQ qF qX))) (qQ (xJ (xS (K := K)) rfl B.len' zH (qQ (pv 2) qX)) qX))) qX)) (qH (i := 10) zK.nd rfl (by wtm_at "zo")) (qJ (qR (yV (K := K) PySem.F.plainAttrs_list PySem.F.slot_list_append PySem.F.type_list_append zF (pv 9) (qQ (xN (qQ (xG (qT (K := K)) (xG (qU (K := K)) (pv 2) (xX yW (xX zV (pv 8) (pv 10)) (xJ (xS (K := K)) rfl B.len' zH (qQ (pv 2) qX))) (fun _ _ => rfl)) qF (fun _ _ => rfl)) (qQ (qD D_law_expression hr (qQ (pv 3) (qQ (pv 2) (qQ qF qX)))) qX))) qX)))))
  (qJ (qR (yV (K := K) PySem.F.plainAttrs_list PySem.F.slot_list_append PySem.F.type_list_append zF (pv 6) (qQ (pv 9) qX))))))))
  (qJ (qO (xN (qQ (pv 1) (qQ (pv 4) (qQ (pv 5) (qQ (pv 6) qX))))))))))))), ?_⟩
 wtm_at "zw"
 refine ⟨c, rfl, fun p H1 np S1 e1 => ?_⟩
 have hb1 := hb.same S1
 wtm_at "zw"
 refine w_I ⟨by decide, by decide, by decide⟩ ?_
 wtm_at "zw"
 refine ⟨xF (show 3 ≤ 1000000 by decide), fun l hl => ?_⟩
 have S2 := qV hl (.lst [V.int 3, V.int 3, V.int (10 ^ (6 : Int).toNat)])
 have el : upd H1 l (.lst [V.int 3, V.int 3, V.int (10 ^ (6 : Int).toNat)]) l = some (.lst [V.int 3, V.int 3, V.int (10 ^ (6 : Int).toNat)]) := qW
 generalize upd H1 l (.lst [V.int 3, V.int 3, V.int (10 ^ (6 : Int).toNat)]) = H2 at S2 el ⊢
 have nl : l ≠ p := (qB (show H1 p = some _ from e1) hl).symm
 have e2 : St3 H2 p (stateM c) := S2 _ _ e1
 have hb2 := hb1.same S2
 wtm_at "zw"
 refine ⟨p, stateM c, 3, rfl, e2, by decide, by decide +kernel, (show (0 : Nat) ≤ 999999 by decide), fun H3 B3 e3 => ?_⟩
 have k0 := xH (stateM c) (m := 3) (by decide)
 have el3 := B3 _ _ nl el
 have hb3 := hb2.but1 e2 B3
 refine ⟨l, _, _, .int (pickM (takeV (stateM c) 3)), rfl, rfl, SqL.of el3, pick_at k0.1 k0.2, ?_⟩
 have pb := pick_bd (takeV (stateM c) 3)
 refine ⟨p, takeS (stateM c) 3, _, rfl, e3, pb.1, pb.2, (show (0 + 1 : Nat) ≤ 999999 by decide), fun H4 B4 e4 => ?_⟩
 have hb4 := hb3.but1 e3 B4
 have B14 : But1 p H1 H4 := (But1.of S2).trans (B3.trans B4)
 clear el3 hb2 hb3 e2 e3 el S2 B3 B4 hl
 have e4' : St3 H4 p (deedS c) := e4
 have n2 : (deedS c).n = 2 := rfl
 clear e4
 generalize deedS c = s2 at e4' q n2
 have e4 := e4'
 generalize takeV (takeS (stateM c) 3) (pickM (takeV (stateM c) 3)) = pr at q ⊢
 wtm_at "zw"
 refine ⟨xF (show 1 ≤ 1000000 by decide), fun t ht => ?_⟩
 have S5 := qV ht (.tup [V.str "yes"])
 have et : upd H4 t (.tup [V.str "yes"]) t = some (.tup [V.str "yes"]) := qW
 generalize upd H4 t (.tup [V.str "yes"]) = H5 at S5 et ⊢
 have e5 : St3 H5 p s2 := S5 _ _ e4
 have hb5 := hb4.same S5
 have B15 : But1 p H1 H5 := B14.trans (.of S5)
 clear S5 e4 e4' hb4 B14 ht
 refine ⟨fun σ' H' => ∃ nv, σ' = [some (.int c), some (.str name), some (.ref bx), some (.ref p), some (.int (1 + pr)), some nv, none, none, none, none, none] ∧ But1 p H1 H' ∧ St3 H' p (needM bs s2).2 ∧ (needM bs s2).1.At H' nv ∧ Bx H' bx bs, ?_, ?_⟩
 ·unfold needM
  wtm_at "zw"
  refine ⟨p, s2, 3, rfl, e5, by decide, by decide +kernel, by omega, fun H6 B6 e6 => ?_⟩
  have hb6 := hb5.but1 e5 B6
  wtm_at "zw"
  by_cases k1 : takeV s2 3 = 1
  ·rw [if_pos k1, decide_eq_true (show V.int (takeV s2 3) = V.int 1 by rw [k1])]
   refine iteT ?_
   wtm_at "zw"
   refine ⟨p, bx, bs, takeS s2 3, 1, rfl, e6, hb6, by decide, by show s2.n + 1 + 12 * 2 ^ 1 ≤ _; omega, fun v H7 B7 e7 a7 => ?_⟩
   exact ⟨v, rfl, (B15.trans B6).trans B7, e7, a7, hb6.but1 e6 B7⟩
  ·rw [if_neg k1, decide_eq_false (show ¬ (V.int (takeV s2 3) = V.int 1) from fun z => k1 (V.int.inj z))]
   refine iteF ?_
   exact ⟨_, rfl, B15.trans B6, e6, ⟨t, rfl, xR B6 e5 _ _ et⟩, hb6⟩
 ·rintro σ' H' ⟨nv, rfl, B16, e6, a6, hb6⟩
  have nn : (needM bs s2).2.n ≤ 26 := by
   have h := condM_n bs 1 (takeS s2 3)
   have e : (takeS s2 3).n = s2.n + 1 := rfl
   unfold needM
   split
   ·omega
   ·show s2.n + 1 ≤ _; omega
  generalize (needM bs s2).2 = s3 at e6 nn q
  wtm_at "zw"
  refine ⟨xF (show 0 ≤ 1000000 by decide), fun wl hwl => ?_⟩
  have nw : wl ≠ p := (qB (show H' p = some _ from e6) hwl).symm
  have w1 : H1 wl = none := by
   cases h : H1 wl with
   | none => rfl
   | some o => rw [B16 wl o nw h] at hwl; cases hwl
  have nbw := hb6.there hwl
  have S7 := qV hwl (.lst [])
  have ew : upd H' wl (.lst []) wl = some (.lst []) := qW
  generalize upd H' wl (.lst []) = H7 at S7 ew ⊢
  have e7 : St3 H7 p s3 := S7 _ _ e6
  have hb7 := hb6.same S7
  have a7 := Th.At.mono (qC S7) a6
  have B17 : But1 p H1 H7 := B16.trans (.of S7)
  wtm_at "zf"
  refine ⟨p, s3, 3, rfl, e7, by decide, by decide +kernel, by omega, fun H8 B8 e8 => ?_⟩
  have kb := xH s3 (m := 3) (by decide)
  have n4 : (takeS s3 3).n ≤ 27 := by show s3.n + 1 ≤ _; omega
  wtm_at "zw"
  refine ⟨1 + takeV s3 3, rfl, by omega, by omega, ?_⟩
  refine zP (fun i σ' H' => ∃ (z1 z2 z3 z4 : Option V) (us : List V), σ' = [some (.int c), some (.str name), some (.ref bx), some (.ref p), some (.int (1 + pr)), some nv, some (.ref wl), z1, z2, z3, z4] ∧ But1 p H1 H' ∧ St3 H' p (waysM bs i (takeS s3 3)).2 ∧ (needM bs s2).1.At H' nv ∧ Bx H' bx bs ∧
    H' wl = some (.lst us) ∧ (∀ u ∈ us, u ≠ .ref wl) ∧ (∀ b, V.ref b ∈ us → H b = none) ∧ Paired (WayIn H') (waysM bs i (takeS s3 3)).1 us) ⟨none, none, none, none, [], rfl, B17.trans B8, e8, Th.At.mono (xR B8 e7) a7, hb7.but1 e7 B8, B8 _ _ nw ew, (fun u h => nomatch h), (fun b h => nomatch h), .nil⟩ ?_ ?_
  ·rintro N rt bk i σ' H9 hi ⟨z1, z2, z3, z4, us, rfl, B9, e9, a9, hb9, ew9, nu9, fr9, pw9⟩ hN
   have n9 := waysM_n bs i (takeS s3 3)
   have i3 : i < 3 := by omega
   obtain ⟨us1, eu1, pu1⟩ := hb9.ex
   have lu1 : us1.length = bs.length := pu1.length.symm
   wtm_at "zw"
   rw [lu1]
   generalize hS : (waysM bs i (takeS s3 3)).2 = S at e9 n9
   refine ⟨p, S, bs.length, rfl, e9, by omega, lbig, by omega, fun H10 B10 e10 => ?_⟩
   have tb := xH S (m := bs.length) (by omega)
   have ew10 := B10 _ _ nw ew9
   have hb10 := hb9.but1 e9 B10
   have pw10 := Paired.mapP pw9 fun _ _ y => WayIn.but1 B10 e9 y
   have a10 := Th.At.mono (xR B10 e9) a9
   have B110 := B9.trans B10
   clear ew9 hb9 pw9 a9 e9 B10 eu1 pu1
   wtm_at "zw"
   refine ⟨xF (show 0 ≤ 1000000 by decide), fun yl hyl => ?_⟩
   have ny : yl ≠ p := (qB (show H10 p = some _ from e10) hyl).symm
   have nyw : yl ≠ wl := (qB ew10 hyl).symm
   have nby := hb10.there hyl
   have S11 := qV hyl (.lst [])
   have ey : upd H10 yl (.lst []) yl = some (.lst []) := qW
   have y1 : H1 yl = none := by
    cases h : H1 yl with
    | none => rfl
    | some o => rw [B110 yl o ny h] at hyl; cases hyl
   generalize upd H10 yl (.lst []) = H11 at S11 ey ⊢
   have e11 : St3 H11 p (takeS S bs.length) := S11 _ _ e10
   have hb11 := hb10.same S11
   have a11 := Th.At.mono (qC S11) a10
   have B111 : But1 p H1 H11 := B110.trans (.of S11)
   have ew11 := S11 _ _ ew10
   have pw11 := Paired.mapP pw10 fun _ _ y => WayIn.same S11 y
   wtm_at "zf"
   refine ⟨p, takeS S bs.length, 3, rfl, e11, by decide, by decide +kernel, by show S.n + 1 ≤ _; omega, fun H12 B12 e12 => ?_⟩
   have cb := xH (takeS S bs.length) (m := 3) (by decide)
   have cc := cntM_bd bs cb.1 cb.2
   have hb12 := hb11.but1 e11 B12
   obtain ⟨us2, eu2, pu2⟩ := hb12.ex
   have lu2 : us2.length = bs.length := pu2.length.symm
   wtm_at "zw"
   refine ⟨_, _, rfl, ?_⟩
   wtm_at "zw"
   rw [lu2]
   refine ⟨cntM bs (takeV (takeS S bs.length) 3), rfl, by omega, by omega, ?_⟩
   refine zP (fun j σ' H' => ∃ (z4 : Option V) (cs : List V), σ' = [some (.int c), some (.str name), some (.ref bx), some (.ref p), some (.int (1 + pr)), some nv, some (.ref wl), some (.int (0 + (i : Int))), some (.int (takeV S bs.length)), some (.ref yl), z4] ∧
     (∀ b o, b ≠ p → b ≠ yl → H12 b = some o → H' b = some o) ∧ St3 H' p (chM bs (takeV S bs.length) j (takeS (takeS S bs.length) 3)).2 ∧ Bx H' bx bs ∧ H' yl = some (.lst cs) ∧ Paired (ChangeIn H') (chM bs (takeV S bs.length) j (takeS (takeS S bs.length) 3)).1 cs)
    ⟨z4, [], rfl, fun _ _ _ _ e => e, e12, hb12, B12 _ _ ny ey, .nil⟩ ?_ ?_
   ·rintro N2 rt2 bk2 j σ' H13 hj ⟨z5, cs, rfl, B13, e13, hb13, ey13, pc13⟩ hN2
    have n13 := chM_n bs (takeV S bs.length) j (takeS (takeS S bs.length) 3)
    have en : (takeS (takeS S bs.length) 3).n = S.n + 2 := rfl
    obtain ⟨us3, eu3, pu3⟩ := hb13.ex
    have lu3 : us3.length = bs.length := pu3.length.symm
    have lc := pc13.length
    wtm_at "zw"
    refine ⟨.inl ⟨rfl, _, SqL.of ey13⟩, ?_⟩
    wtm_at "zw"
    rw [lu3]
    refine w_I (show (0 : Int) < bs.length by omega) ?_
    have i0 := Int.emod_nonneg (takeV S bs.length + (0 + (j : Int))) (b := bs.length) (by omega)
    have i1 := Int.emod_lt_of_pos (takeV S bs.length + (0 + (j : Int))) (b := bs.length) (by omega)
    obtain ⟨us4, a, z, eu4, lu4, ea, et⟩ := hb13.at i0 i1
    refine ⟨bx, _, _, .ref a, rfl, rfl, SqL.of eu4, ea, ?_⟩
    wtm_at "zw"
    refine ⟨p, bx, bs, _, 1, rfl, e13, hb13, by decide, by omega, fun v H14 B14 e14 a14 => ?_⟩
    have ey14 := B14 _ _ ny ey13
    have hb14 := hb13.but1 e13 B14
    have T14 := xR B14 e13
    wtm_at "zw"
    refine ⟨xF (show 2 ≤ 1000000 by decide), fun t ht => ?_⟩
    have S15 := qV ht (.tup [V.str (nameAt bs ((takeV S bs.length + (0 + (j : Int))) % bs.length)), v])
    have et15 : upd H14 t (.tup [V.str (nameAt bs ((takeV S bs.length + (0 + (j : Int))) % bs.length)), v]) t = some _ := qW
    generalize upd H14 t (.tup [V.str (nameAt bs ((takeV S bs.length + (0 + (j : Int))) % bs.length)), v]) = H15 at S15 et15 ⊢
    have ey15 := S15 _ _ ey14
    have T16 : Tups H15 (upd H15 yl (.lst (cs ++ [.ref t]))) := zE ey15
    have T15 := qC S15
    refine ⟨yl, cs, .ref t, rfl, rfl, ey15, ?_, ?_⟩
    ·have lcc : cs.length = (chM bs (takeV S bs.length) j (takeS (takeS S bs.length) 3)).1.length := lc.symm
     rw [lcc, chM_len]; exact small (by omega)
    refine hN2 _ _ ⟨_, cs ++ [.ref t], rfl, fun b o n1 n2 e => ?_, ?_, (hb14.same S15).upd nby ey15, qW, ?_⟩
    ·rw [qA n2]; exact S15 _ _ (B14 _ _ n1 (B13 _ _ n1 n2 e))
    ·show upd _ _ _ _ = _
     rw [qA (Ne.symm ny)]; exact S15 _ _ e14
    ·exact Paired.snoc (Paired.mapP pc13 fun _ _ y => ((y.tups T14).tups T15).tups T16) ⟨t, v, rfl, T16 _ _ et15, (a14.mono T15).mono T16⟩
   ·rintro σ' H13 ⟨z5, cs, rfl, B13, e13, hb13, ey13, pc13⟩
    have B1013 : ∀ b o, b ≠ p → b ≠ yl → H10 b = some o → H13 b = some o := fun b o n1 n2 e => B13 b o n1 n2 (B12 b o n1 (S11 b o e))
    have ew13 := B1013 _ _ nw (Ne.symm nyw) ew10
    have T13 : Tups H10 H13 := fun b xs z => B1013 b _ (yI z e10 (by intro z; cases z)) (qB z hyl) z
    have T14 : Tups H13 (upd H13 wl (.lst (us ++ [.ref yl]))) := zE ew13
    have lus := pw10.length
    wtm_at "zw"
    refine ⟨.inl ⟨rfl, _, SqL.of ew13⟩, ?_⟩
    wtm_at "zw"
    refine ⟨wl, us, .ref yl, rfl, rfl, ew13, ?_, ?_⟩
    ·rw [← lus, waysM_len]; exact small (by omega)
    refine hN _ _ ⟨_, _, _, _, us ++ [.ref yl], rfl, fun b o n e => ?_, ?_, (a10.mono T13).mono T14, hb13.upd nbw ew13, qW, fun u hu => ?_, fun b hb => ?_, ?_⟩
    ·have n1 : b ≠ wl := fun z => by rw [z, w1] at e; cases e
     have n2 : b ≠ yl := fun z => by rw [z, y1] at e; cases e
     rw [qA n1]
     exact B1013 b o n n2 (B110 b o n e)
    ·show upd _ _ _ _ = _
     rw [qA (Ne.symm nw)]
     have e13' : H13 p = some _ := e13
     show H13 p = some (.lst [.int (wayM bs (waysM bs i (takeS s3 3)).2).2.a, .int (wayM bs (waysM bs i (takeS s3 3)).2).2.c, .int (wayM bs (waysM bs i (takeS s3 3)).2).2.n])
     rw [hS]
     exact e13'
    ·rcases List.mem_append.mp hu with h | h
     ·exact nu9 u h
     ·rw [List.mem_singleton.mp h]
      exact fun z => nyw (V.ref.inj z)
    ·rcases List.mem_append.mp hb with h | h
     ·exact fr9 b h
     ·rw [V.ref.inj (List.mem_singleton.mp h)]
      exact S1.free y1
    ·refine Paired.snoc (FP.Paired.mapP' pw10 fun wy u hu y => (y.step e10 hyl B1013).upd (nu9 u hu) ew13) ?_
     rw [hS]
     exact (WayIn.upd ⟨yl, cs, rfl, ey13, pc13⟩ (fun z => nyw (V.ref.inj z)) ew13)
  ·rintro σ' H9 ⟨z1, z2, z3, z4, us, rfl, B9, e9, a9, hb9, ew9, nu9, fr9, pw9⟩
   wtm_at "zw"
   refine ⟨xF (show 4 ≤ 1000000 by decide), fun t ht => ?_⟩
   have S10 := qV ht (.tup [V.str name, .int (1 + pr), nv, .ref wl])
   exact q t wl nv us _ (zZ S1 np (B9.trans (.of S10))) qW (Th.At.mono (qC S10) a9) (S1.free w1) (S10 _ _ ew9) fr9 (Paired.mapP pw9 fun _ _ y => WayIn.same S10 y)

noncomputable def Fits (bs : List (Str × Int)) (vals : List Int) : Prop := vals.length = bs.length ∧ ∀ (i : Nat) b v, bs[i]? = some b → vals[i]? = some v → 0 ≤ v ∧ v < b.2

theorem small2 {n : Nat} (h : n ≤ 100000) : n < sizeLine := Nat.lt_of_le_of_lt h (by decide)
theorem small2E {n : Nat} (h : n ≤ 100000) : n ≤ sizeLine := Nat.le_of_lt (small2 h)
noncomputable def rowsBy (acc : List (List Int)) (n : Nat) : List (List Int) := acc.flatMap fun r => (List.range n).map fun v => r ++ [((v : Nat) : Int)]
noncomputable def allV (bs : List (Str × Int)) : List (List Int) := (bs.map fun b => b.2.toNat).foldl rowsBy [[]]
theorem yU {bs : List (Str × Int)} {i : Nat} {b : Str × Int} (h : bs[i]? = some b) : allV (bs.take (i + 1)) = rowsBy (allV (bs.take i)) b.2.toNat := by
 unfold allV
 rw [List.take_add_one, h, List.map_append, List.foldl_append]
 rfl
theorem rowsBy_take {acc : List (List Int)} {n j : Nat} {r : List Int} (h : acc[j]? = some r) : rowsBy (acc.take (j + 1)) n = rowsBy (acc.take j) n ++ (List.range n).map fun v => r ++ [((v : Nat) : Int)] := by
 unfold rowsBy
 rw [List.take_add_one, h, List.flatMap_append]
 simp
theorem jS (n : Nat) : ∀ acc : List (List Int), (rowsBy acc n).length = acc.length * n
 | [] => by simp [rowsBy]
 | r :: acc => by
  have := jS n acc
  unfold rowsBy at this ⊢
  rw [List.flatMap_cons, List.length_append, this, List.length_map, List.length_range, List.length_cons, Nat.succ_mul]
  omega
theorem vY (acc : List (List Int)) (n j : Nat) : (rowsBy (acc.take j) n).length ≤ acc.length * n := by
 rw [jS, List.length_take]
 exact Nat.mul_le_mul_right _ (Nat.min_le_right _ _)
theorem kS {bs : List (Str × Int)} (h : ∀ b ∈ bs, 2 ≤ b.2 ∧ b.2 ≤ 5) : ∀ i : Nat, i ≤ bs.length → (allV (bs.take i)).length ≤ 5 ^ i
 | 0, _ => by simp [allV]
 | i + 1, hi => by
  have hb : bs[i]? = some (bs[i]'(by omega)) := List.getElem?_eq_getElem (by omega)
  rw [yU hb, jS, Nat.pow_succ]
  have := h _ (List.getElem_mem (h := (by omega : i < bs.length)))
  exact Nat.mul_le_mul (kS h i (by omega)) (by omega)
theorem rowsBy_row {n k : Nat} {acc : List (List Int)} (h : ∀ r ∈ acc, r.length = k) : ∀ r ∈ rowsBy acc n, r.length = k + 1 := fun r hr => by
 obtain ⟨x, hx, hr⟩ := List.mem_flatMap.mp hr
 obtain ⟨v, _, rfl⟩ := List.mem_map.mp hr
 rw [List.length_append, h x hx]; rfl
theorem allV_row (bs : List (Str × Int)) : ∀ i : Nat, i ≤ bs.length → ∀ r ∈ allV (bs.take i), r.length = i
 | 0, _ => fun r hr => by simp [allV] at hr; subst hr; rfl
 | i + 1, hi => by
  have hb : bs[i]? = some (bs[i]'(by omega)) := List.getElem?_eq_getElem (by omega)
  rw [yU hb]
  exact rowsBy_row (allV_row bs i (by omega))
theorem pow56 {i : Nat} (h : i ≤ 6) : 5 ^ i ≤ 15625 := Nat.le_trans (Nat.pow_le_pow_right (by decide) h) (by decide)
theorem fits_snoc {bs : List (Str × Int)} {i : Nat} {b : Str × Int} {r : List Int} {v : Nat} (hb : bs[i]? = some b) (h : Fits (bs.take i) r) (hv : (v : Int) < b.2) : Fits (bs.take (i + 1)) (r ++ [((v : Nat) : Int)]) := by
 have hl := h.1
 have hib : i < bs.length := (List.getElem?_eq_some_iff.mp hb).1
 have lt : (bs.take i).length = i := by rw [List.length_take]; omega
 refine ⟨by rw [List.take_add_one, hb, List.length_append, List.length_append, hl]; rfl, fun j c x ec ex => ?_⟩
 rw [List.take_add_one, hb] at ec
 by_cases hj : j < i
 ·rw [List.getElem?_append_left (by omega)] at ec ex
  exact h.2 j c x ec ex
 ·have hj' : j = i := by
   have := (List.getElem?_eq_some_iff.mp ex).1
   rw [List.length_append, List.length_singleton] at this
   omega
  subst hj'
  rw [List.getElem?_append_right (by omega)] at ec ex
  have e1 : j - (bs.take j).length = 0 := by omega
  have e2 : j - r.length = 0 := by omega
  rw [e1] at ec
  rw [e2] at ex
  cases ec; cases ex
  exact ⟨by omega, hv⟩
theorem allV_fits {bs : List (Str × Int)} : ∀ i : Nat, i ≤ bs.length → ∀ r ∈ allV (bs.take i), Fits (bs.take i) r
 | 0, _ => fun r hr => by
  simp [allV] at hr
  subst hr
  exact ⟨rfl, fun j b v e => by simp at e⟩
 | i + 1, hi => fun r hr => by
  have hb : bs[i]? = some (bs[i]'(by omega)) := List.getElem?_eq_getElem (by omega)
  rw [yU hb] at hr
  obtain ⟨x, hx, hr⟩ := List.mem_flatMap.mp hr
  obtain ⟨v, hv, rfl⟩ := List.mem_map.mp hr
  have hv := List.mem_range.mp hv
  exact fits_snoc hb (allV_fits i (by omega) x hx) (by omega)
theorem allV_ok {bs : List (Str × Int)} {r : List Int} (h : r ∈ allV bs) : Fits bs r := by
 have := allV_fits (bs := bs) bs.length (Nat.le_refl _) r
 rw [List.take_length] at this
 exact this h
noncomputable def TupIn (H : Hp) (vals : List Int) (u : V) : Prop := ∃ a, u = .ref a ∧ H a = some (.tup (intsV vals))
theorem xY {H H' : Hp} (h : Tups H H') {rs : List (List Int)} {us : List V} (p : Paired (TupIn H) rs us) : Paired (TupIn H') rs us := Paired.mapP p fun _ _ x => let ⟨a, e, q⟩ := x; ⟨a, e, h _ _ q⟩
theorem row_read {σ : St} {H : Hp} {Q : VK} {j : Nat} {ra : Addr} {r : List Int} {n : Nat} (era : H ra = some (.tup (intsV r))) (hj : σ.getD j none = some (.ref ra)) (hr : r.length ≤ 100) (hn : n ≤ 1000)
  (q : ∀ (D : Addr) (us : List V) (H' : Hp), H D = none → Same H H' → H' D = some (.lst us) → Paired (TupIn H') ((List.range n).map fun v => r ++ [((v : Nat) : Int)]) us → Q (.ref D) H') :
  rdC 1 [j] (gName 0) tYes (tOp (rCatN K) (tVar 1) (tTup (tCons (tVar 0) tNil))) (Itr 0 n) σ H Q := by
 have fr : frees [j] σ = [some (.ref ra)] := by show [σ.getD j none] = _; rw [hj]
 refine kJ (fun D i ys H' => Paired (TupIn H') ((List.range i).map fun v => r ++ [((v : Nat) : Int)]) ys ∧ Same H H') (fun D hD => ⟨.nil, qV hD _⟩) (fun D i ys H' N hD hDy hi hP hN => ?_) (fun D ys H2 hD hDy hP => ?_)
 ·obtain ⟨hp, hk⟩ := hP
  have lp := hp.length
  rw [List.length_map, List.length_range] at lp
  have e0 : (0 : Int) + (i : Int) = (i : Int) := Int.zero_add _
  rw [e0]
  refine ⟨⟨[some (.int (i : Int))], rfl, rfl⟩, ?_⟩
  refine ⟨.ref ra, (by show (([some (V.int (i : Int))] : St) ++ frees [j] σ)[1]? = _; rw [fr]; rfl), _, rfl, (by show 1 ≤ sizeLine; decide), fun t ht => ?_⟩
  have Dt : D ≠ t := qB hDy ht
  have fin : ∀ (a : Addr) (H3 : Hp), Same H' H3 → H3 a = some (.tup (intsV (r ++ [((i : Nat) : Int)]))) → H3 D = some (.lst ys) ∧ ys.length < sizeLine ∧ N (ys ++ [.ref a]) (upd H3 D (.lst (ys ++ [.ref a]))) := fun a H3 S3 ea => by
   have eD := S3 _ _ hDy
   refine ⟨eD, small (by omega), hN _ _ qW ⟨?_, fun b o e => ?_⟩⟩
   ·have T1 : Tups H' (upd H3 D (.lst (ys ++ [.ref a]))) := fun b xs e => by rw [qA (yI e hDy (by intro z; cases z))]; exact S3 _ _ e
    rw [List.range_succ, List.map_append]
    exact Paired.snoc (xY T1 hp) ⟨a, rfl, by rw [qA (yI ea eD (by intro z; cases z))]; exact ea⟩
   ·rw [qA (qB e hD)]; exact S3 _ _ (hk _ _ e)
  refine ⟨ra, t, _, _, rfl, rfl, SqT.of (qV ht _ _ _ (hk _ _ era)), SqT.of qW, by simp, ?_, fun z => ?_, fun z p hp' => ?_⟩
  ·rw [intsV_len]; exact smallE (by show r.length + 1 ≤ _; omega)
  ·have z' : r = [] := List.map_eq_nil_iff.mp z
   subst z'
   exact fin t _ (qV ht _) qW
  ·refine fin p _ ((qV ht _).trans (qV hp' _)) ?_
   rw [intsV_snoc]; exact qW
 ·exact q D ys H2 hD hP.2 hDy hP.1
noncomputable def spStands : Sp := fun vs H Q _ => ∃ (bx : Addr) (bs : List (Str × Int)) (us : List V), vs = [.ref bx] ∧ H bx = some (.lst us) ∧ Paired (BoxIn H) bs us ∧ bs.length ≤ 6 ∧ (∀ b ∈ bs, 2 ≤ b.2 ∧ b.2 ≤ 5) ∧
 ∀ (r : Addr) (ss : List V) (H' : Hp), H r = none → Same H H' → H' r = some (.lst ss) → Paired (TupIn H') (allV bs) ss → Q (.ref r) H'

theorem xO : FnScope ["boxes", "rows", "name", "size", "longer", "row"] ["boxes"] (xB (top 32)) := ⟨rfl, rfl, rfl, by decide +kernel, rfl, by decide +kernel, by decide +kernel⟩
theorem jW : CompOk (xB (top 32)) ["boxes", "rows", "name", "size", "longer", "row"] (scAt (xC (top 32)) [1, 1, 0] [1]) ["fig", "row"] 1 [5] :=
 ⟨by decide +kernel, by decide +kernel, by decide +kernel, by decide +kernel, by decide +kernel, by decide +kernel, by decide +kernel, by decide +kernel⟩
theorem dn_lstand (F : Fd K mg "_law_standings" (top 32) ["boxes"]) (B : Bl mg) : Dn P w K mg base "_law_standings" 1 ["boxes"] spStands := by
 refine F.ok xO (fun vs H Q E h => ?_) (fun f cdv A outer s H vs Q E hr h => ?_)
 ·obtain ⟨_, _, _, rfl, _⟩ := h
  rfl
 obtain ⟨bx, bs, us, rfl, ebx, pb, h6, h25, q⟩ := h
 have lb : us.length = bs.length := pb.length.symm
 refine ⟨_, (qZ (qN (i := 1) xO.nd rfl (by wtm_at "zo") (xP (qQ (xN qX) qX)))
  (qZ (zT PassesOwn.never rfl (xQ (K := K) (pv 0)) (vK (K := K) (n := 2) rfl (qI (qH (i := 2) xO.nd rfl (by wtm_at "zo")) (qI (qH (i := 3) xO.nd rfl (by wtm_at "zo")) qM))) (qZ (qN (i := 4) xO.nd rfl (by wtm_at "zo") (xP qX))
  (qZ (zT PassesOwn.never rfl (xQ (K := K) (pv 1)) (qH (i := 5) xO.nd rfl (by wtm_at "zo")) (qJ (qN (i := 4) xO.nd rfl (by wtm_at "zo") (xX kB (pv 4) (jZ rfl jW (zC rfl B.range' (qQ (pv 3) qX)) (fun cl fp s H => (qH (i := 0) jW.nd rfl (Or.inl rfl) (.inr rfl))) (fun cl fp s H => jQ) (fun cl fp s H => (xX (op_catTK (K := K)) (pv 1) (xN (qQ (pv 0) qX)))))))))
  (qJ (qN (i := 1) xO.nd rfl (by wtm_at "zo") (pv 4))))))
  (qJ (qO (pv 1))))), ?_⟩
 wtm_at "zw"
 refine ⟨(by show 0 ≤ sizeLine; decide), fun t0 ht0 => ?_⟩
 wtm_at "zw"
 refine ⟨(by show 1 ≤ sizeLine; decide), fun r0 hr0 => ?_⟩
 wtm_at "zw"
 have S0 : Same H (upd (upd H t0 (.tup [])) r0 (.lst [.ref t0])) := (qV ht0 _).trans (qV hr0 _)
 refine ⟨_, rfl, bx, rfl, ⟨us, SqL.of (S0 _ _ ebx)⟩, ?_⟩
 refine vG (xs := us) (fun i σ' H' => ∃ (ro : Addr) (ss : List V) (z2 z3 z4 z5 : Option V), σ' = [some (.ref bx), some (.ref ro), z2, z3, z4, z5] ∧ Same H H' ∧ H ro = none ∧ H' ro = some (.lst ss) ∧ Paired (TupIn H') (allV (bs.take i)) ss)
  ⟨r0, [.ref t0], none, none, none, none, rfl, S0, (qV ht0 _).free hr0, qW, .cons ⟨t0, rfl, qV hr0 _ _ _ qW⟩ .nil⟩
  (fun i σ' H' _ hP => ?_) (fun N rt bk i x σ' H' ex hP hN => ?_) (fun σ' H' hP => ?_)
 ·obtain ⟨ro, ss, z2, z3, z4, z5, rfl, S1, _⟩ := hP
  exact SqL.of (S1 _ _ ebx)
 ·obtain ⟨ro, ss, z2, z3, z4, z5, rfl, S1, nro, ero, prs⟩ := hP
  have hi : i < bs.length := by rw [← lb]; exact (List.getElem?_eq_some_iff.mp ex).1
  obtain ⟨b, eb⟩ : ∃ b, bs[i]? = some b := ⟨_, List.getElem?_eq_getElem hi⟩
  obtain ⟨ba, rfl, hba⟩ := xV pb eb ex
  have hb25 := h25 b (List.mem_of_getElem? eb)
  have rl := kS h25 i (by omega)
  have p5 := pow56 (i := i) (by omega)
  refine ⟨ba, _, rfl, SqT.of (S1 _ _ hba), rfl, _, _, rfl, _, _, rfl, rfl, ?_⟩
  wtm_at "zw"
  refine ⟨(by show 0 ≤ sizeLine; decide), fun lo0 hlo0 => ?_⟩
  wtm_at "zw"
  have lr := prs.length
  refine ⟨_, rfl, ro, rfl, ⟨ss, SqL.of (qV hlo0 _ _ _ ero)⟩, ?_⟩
  refine vG (xs := ss) (fun j σ'' H'' => ∃ (lo : Addr) (ls : List V) (z5 : Option V), σ'' = [some (.ref bx), some (.ref ro), some (.str b.1), some (.int b.2), some (.ref lo), z5] ∧ Same H' H'' ∧ H' lo = none ∧ H'' lo = some (.lst ls) ∧ Paired (TupIn H'') (rowsBy ((allV (bs.take i)).take j) b.2.toNat) ls)
   ⟨lo0, [], z5, rfl, qV hlo0 _, hlo0, qW, .nil⟩ (fun j σ'' H'' _ hP => ?_) (fun N2 rt2 bk2 j x σ'' H'' ex2 hP hN2 => ?_) (fun σ'' H'' hP => ?_)
  ·obtain ⟨lo, ls, z5, rfl, k2, _⟩ := hP
   exact SqL.of (k2 _ _ ero)
  ·obtain ⟨lo, ls, z5, rfl, k2, nlo, elo, pls⟩ := hP
   have hj : j < (allV (bs.take i)).length := by rw [lr]; exact (List.getElem?_eq_some_iff.mp ex2).1
   obtain ⟨row, erow⟩ : ∃ row, (allV (bs.take i))[j]? = some row := ⟨_, List.getElem?_eq_getElem hj⟩
   obtain ⟨ra, rfl, hra⟩ := xV prs erow ex2
   have hrl := allV_row bs i (by omega) row (List.mem_of_getElem? erow)
   have ll := pls.length
   have lm := vY (allV (bs.take i)) b.2.toNat j
   have l5 : (allV (bs.take i)).length * b.2.toNat ≤ 15625 * 5 := Nat.mul_le_mul (by omega) (by omega)
   wtm_at "zw"
   refine ⟨_, rfl, b.2, rfl, by omega, by omega, row_read (k2 _ _ hra) rfl (by omega) (by omega) fun D zs H3 nD S3 eD pz => ?_⟩
   have lz := pz.length
   rw [List.length_map, List.length_range] at lz
   refine ⟨lo, D, ls, zs, rfl, rfl, S3 _ _ elo, eD, by rw [← ll, ← lz]; exact small2E (by omega), fun p hp => ?_⟩
   have S4 : Same H3 (upd H3 p (.lst (ls ++ zs))) := qV hp _
   refine hN2 _ _ ⟨p, ls ++ zs, _, rfl, k2.trans (S3.trans S4), k2.free (S3.free hp), qW, ?_⟩
   rw [rowsBy_take erow]
   exact wC (xY (qC (S3.trans S4)) pls) (xY (qC S4) pz)
  ·obtain ⟨lo, ls, z5, rfl, k2, nlo, elo, pls⟩ := hP
   rw [← lr, List.take_length, ← yU eb] at pls
   wtm_at "zw"
   exact hN _ _ ⟨lo, ls, _, _, _, _, rfl, S1.trans k2, S1.free nlo, elo, pls⟩
 ·obtain ⟨ro, ss, z2, z3, z4, z5, rfl, S1, nro, ero, prs⟩ := hP
  rw [lb, List.take_length] at prs
  wtm_at "zw"
  exact q ro ss H' nro S1 ero prs

noncomputable def ExprT (ws : List Str) : Th → Prop
 | .num _ => True
 | .box x => x ∈ ws
 | .bin k a b => (k = "plus" ∨ k = "less") ∧ ExprT ws a ∧ ExprT ws b
 | _ => False
theorem wF {bs : List (Str × Int)} {i : Int} (h0 : 0 ≤ i) (h1 : i < bs.length) : nameAt bs i ∈ bs.map (·.1) := by
 have hk : i.toNat < bs.length := by omega
 unfold nameAt
 rw [show bs.getD i.toNat ("", 0) = bs[i.toNat] by rw [List.getD_eq_getElem?_getD, List.getElem?_eq_getElem hk]; rfl]
 exact List.mem_map_of_mem (List.getElem_mem hk)
theorem kO {bs : List (Str × Int)} (hb : bs ≠ []) (d : Nat) : ∀ s : S3, ExprT (bs.map (·.1)) (exprM bs d s).1 ∧ (exprM bs d s).1.dep ≤ d + 1 := by
 have bl : 0 < bs.length := List.length_pos_iff.mpr hb
 induction d with
 | zero =>
  intro s
  have t := xH (takeS s 5) (m := bs.length) (by omega)
  unfold exprM
  split
  ·exact ⟨trivial, Nat.le_refl _⟩
  ·exact ⟨wF t.1 t.2, Nat.le_refl _⟩
 | succ d ih =>
  intro s
  have t := xH (takeS s 5) (m := bs.length) (by omega)
  unfold exprM
  split
  ·exact ⟨trivial, by show 1 ≤ _; omega⟩
  ·split
   ·exact ⟨wF t.1 t.2, by show 1 ≤ _; omega⟩
   ·have h1 := ih (takeS s 5)
    have h2 := ih (exprM bs d (takeS s 5)).2
    refine ⟨⟨?_, h1.1, h2.1⟩, ?_⟩
    ·unfold opM; split
     ·exact .inl rfl
     ·exact .inr rfl
    ·show max _ _ + 1 ≤ _; omega
noncomputable def worthM (ws : List Str) (vals : List Int) : Th → Int
 | .num n => n
 | .box x => vals.getD (ws.idxOf x) 0
 | .bin k a b => worthM ws vals a + (if k = "less" then 0 - worthM ws vals b else worthM ws vals b)
 | _ => 0
structure Here (H : Hp) (bx st : Addr) (bs : List (Str × Int)) (vals : List Int) : Prop where
 boxes : ∃ us, H bx = some (.lst us) ∧ Paired (BoxIn H) bs us
 st : H st = some (.tup (intsV vals))
 len : vals.length = bs.length
 le : bs.length ≤ 6
theorem Here.same {H H' : Hp} {bx st : Addr} {bs : List (Str × Int)} {vals : List Int} (h : Here H bx st bs vals) (S : Same H H') : Here H' bx st bs vals :=
 ⟨let ⟨us, e, p⟩ := h.boxes; ⟨us, S _ _ e, xK (qC S) p⟩, S _ _ h.st, h.len, h.le⟩
theorem kY : FnScope ["e", "boxes", "standing", "other"] ["e", "boxes", "standing"] (xB (top 33)) := ⟨rfl, rfl, rfl, by decide +kernel, rfl, by decide +kernel, by decide +kernel⟩
theorem jG : CompOk (xB (top 33)) ["e", "boxes", "standing", "other"] (scAt (xC (top 33)) [1, 0] [1, 0, 0]) ["name", "size"] 2 [] :=
 ⟨by decide +kernel, by decide +kernel, by decide +kernel, by decide +kernel, by decide +kernel, by decide +kernel, by decide +kernel, by decide +kernel⟩
noncomputable def spWorthM (n : Nat) : Sp := fun vs H Q _ => ∃ (t : Th) (v : V) (bx st : Addr) (bs : List (Str × Int)) (vals : List Int), vs = [v, .ref bx, .ref st] ∧ t.At H v ∧ ExprT (bs.map (·.1)) t ∧ t.dep ≤ n ∧ Here H bx st bs vals ∧
 ∀ H', Same H H' → Q (.int (worthM (bs.map (·.1)) vals t)) H'
theorem dn_worth0 (F : Fd K mg "_law_worth" (top 33) ["e", "boxes", "standing"]) : Dn P w K mg base "_law_worth" 1 ["e", "boxes", "standing"] (spWorthM 0) := by
 have no : ∀ vs H Q E, ¬ spWorthM 0 vs H Q E := fun vs H Q E h => by
  obtain ⟨t, _, _, _, _, _, _, _, _, h1, _⟩ := h
  have := Th.dep_pos t
  omega
 obtain ⟨f, fd, F, a, b, c⟩ := F.ex
 exact ⟨f, fd, ⟨fun vs H Q E h => absurd h (no vs H Q E), fun A outer s H args us vs Q E _ _ _ _ h => absurd h (no vs H Q E)⟩, a, b, c⟩
theorem names_read {σ : St} {H : Hp} {Q : VK} {bx : Addr} {us : List V} {bs : List (Str × Int)} (e1 : H bx = some (.lst us)) (p1 : Paired (BoxIn H) bs us) (hl : bs.length ≤ 1000)
  (q : ∀ (D : Addr) (H' : Hp), Same H H' → H' D = some (.lst (strsV (bs.map (·.1)))) → Q (.ref D) H') :
  rdC 2 [] (gTup K 2 (gCons (gName 0) (gCons (gName 1) gNil))) tYes (tVar 0) (Itl K bx) σ H Q := by
 have lb : us.length = bs.length := p1.length.symm
 refine jP (xs := us) (fun D i ys H' => ys = strsV ((bs.take i).map (·.1)) ∧ ∀ b o, H b = some o → H' b = some o) (fun D hD => ⟨rfl, qV hD _⟩)
  (fun D i ys H' _ hP => (show Same H H' from hP.2).seq (SqL.of e1)) (fun D i x ys H' N hD hDy ex hP hN => ?_) (fun wd ys H2 hD hDy hP => ?_)
 ·obtain ⟨rfl, hk⟩ := hP
  obtain ⟨b, eb⟩ : ∃ b, bs[i]? = some b := ⟨_, List.getElem?_eq_getElem (by rw [← lb]; exact (List.getElem?_eq_some_iff.mp ex).1)⟩
  obtain ⟨ba, rfl, hba⟩ := xV p1 eb ex
  refine ⟨ba, _, rfl, SqT.of (hk _ _ hba), rfl, _, _, rfl, _, _, rfl, rfl, ⟨[some (.str b.1), some (.int b.2)], rfl, rfl⟩, ?_⟩
  refine ⟨_, rfl, hDy, ?_, hN _ _ qW ⟨?_, fun b o e => ?_⟩⟩
  ·rw [xA, List.length_map, List.length_take]; exact small (by omega)
  ·rw [List.take_add_one, eb, List.map_append, kU]; rfl
  ·rw [qA (qB e hD)]; exact hk _ _ e
 obtain ⟨rfl, hk2⟩ := hP
 rw [lb, List.take_length] at hDy
 exact q wd H2 hk2 hDy
theorem dn_worth1 {n : Nat} (F : Fd K mg "_law_worth" (top 33) ["e", "boxes", "standing"]) (B : Bl mg) (D_law_worth : Dn P w K mg base "_law_worth" (n + 1) ["e", "boxes", "standing"] (spWorthM n)) : Dn P w K mg base "_law_worth" (n + 2) ["e", "boxes", "standing"] (spWorthM (n + 1)) := by
 refine F.ok (k := n + 1) kY (fun vs H Q E h => ?_) (fun f cdv A outer s H vs Q E hr h => ?_)
 ·obtain ⟨_, _, _, _, _, _, rfl, _⟩ := h
  rfl
 obtain ⟨t, v, bx, st, bs, vals, rfl, ht, ok, hd, hh, q⟩ := h
 refine ⟨_, (qZ (zJ (qS zD (xG (qT (K := K)) (pv 0) qF (fun _ _ => rfl)) qG (xE _)) (qJ (qO (xG (qT (K := K)) (pv 0) qF (fun _ _ => rfl)))) qY)
  (qZ (zJ (qS zD (xG (qT (K := K)) (pv 0) qF (fun _ _ => rfl)) qG (xE _)) (qJ (qO (xG (qT (K := K)) (pv 2) (yV (K := K) PySem.F.plainAttrs_list PySem.F.slot_list_index PySem.F.type_list_index mt_index (jZ rfl jG (xQ (K := K) (pv 1)) (fun cl fp s H => (vK (K := K) (n := 2) rfl (qI (qH (i := 0) jG.nd rfl (Or.inl rfl) (.inr rfl)) (qI (qH (i := 1) jG.nd rfl (Or.inl rfl) (.inr rfl)) qM)))) (fun cl fp s H => jQ) (fun cl fp s H => (pv 0))) (qQ (xG (qT (K := K)) (pv 0) qF (fun _ _ => rfl)) qX)) (fun _ _ => rfl)))) qY)
  (qZ (qN (i := 3) kY.nd rfl (by wtm_at "zo") (qD D_law_worth hr (qQ (xG (qT (K := K)) (pv 0) qF (fun _ _ => rfl)) (qQ (pv 1) (qQ (pv 2) qX)))))
  (qJ (qO (xX zV (qD D_law_worth hr (qQ (xG (qT (K := K)) (pv 0) qF (fun _ _ => rfl)) (qQ (pv 1) (qQ (pv 2) qX)))) (xG (qU (K := K)) (xP (qQ (pv 3) (qQ (xX jI qF (pv 3)) qX))) (xZ jA rfl B.int' wQ (qQ (jC zD (xG (qT (K := K)) (pv 0) qF (fun _ _ => rfl)) qG (xE _)) qX)) (fun _ _ => rfl)))))))), ?_⟩
 cases t with
 | nul k => exact ok.elim
 | un k a => exact ok.elim
 | num m =>
  obtain ⟨a, rfl, ea⟩ := ht
  wtm_at "zw"
  exact q _ (.refl _)
 | box x =>
  obtain ⟨a, rfl, ea⟩ := ht
  obtain ⟨us, eu, pu⟩ := hh.boxes
  have h6 := hh.le
  have hl := hh.len
  have ok : x ∈ bs.map (fun b : Str × Int => b.1) := ok
  have q : ∀ H', Same H H' → Q (.int (vals.getD ((bs.map (fun b : Str × Int => b.1)).idxOf x) 0)) H' := q
  have hx : (bs.map (·.1)).idxOf x < (bs.map (·.1)).length := List.idxOf_lt_length_iff.mpr ok
  rw [List.length_map] at hx
  wtm_at "zf"
  refine ⟨bx, rfl, ⟨us, SqL.of eu⟩, names_read eu pu (by omega) fun D H1 S1 eD => ?_⟩
  refine ⟨.inl ⟨rfl, _, SqL.of eD⟩, ?_⟩
  have ea1 := S1 _ _ ea
  have est1 := S1 _ _ hh.st
  wtm_at "zw"
  refine ⟨D, bs.map (fun b : Str × Int => b.1), x, rfl, rfl, eD, ok, by rw [List.length_map]; omega, ?_⟩
  refine ⟨st, _, _, .int (vals.getD ((bs.map (fun b : Str × Int => b.1)).idxOf x) 0), rfl, rfl, SqT.of est1, ?_, q _ S1⟩
  refine zI ?_
  rw [List.getElem?_map, List.getD_eq_getElem?_getD, List.getElem?_eq_getElem (by omega)]
  rfl
 | bin k x y =>
  obtain ⟨a, u1, u2, rfl, ea, h1, h2⟩ := ht
  obtain ⟨hk, ok1, ok2⟩ := ok
  have d0 : max x.dep y.dep + 1 ≤ n + 1 := hd
  have k1 : k ≠ "number" := by rcases hk with r | r <;> (rw [r]; decide)
  have k2 : k ≠ "box" := by rcases hk with r | r <;> (rw [r]; decide)
  wtm_at "zw"
  refine ⟨y, u2, bx, st, bs, vals, rfl, h2, ok2, by omega, hh, fun H1 S1 => ?_⟩
  have ea1 := S1 _ _ ea
  wtm_at "zw"
  refine ⟨x, u1, bx, st, bs, vals, rfl, Th.At.mono (qC S1) h1, ok1, by omega, hh.same S1, fun H2 S2 => ?_⟩
  have ea2 := S2 _ _ ea1
  wtm_at "zw"
  refine ⟨xF (show 2 ≤ 1000000 by decide), fun l hl => ?_⟩
  have S3' := qV hl (.lst [V.int (worthM (bs.map (·.1)) vals y), V.int (0 - worthM (bs.map (·.1)) vals y)])
  have el : upd H2 l (.lst [V.int (worthM (bs.map (·.1)) vals y), V.int (0 - worthM (bs.map (·.1)) vals y)]) l = some _ := qW
  generalize upd H2 l (.lst [V.int (worthM (bs.map (·.1)) vals y), V.int (0 - worthM (bs.map (·.1)) vals y)]) = H3 at S3' el ⊢
  have ea3 := S3' _ _ ea2
  have qq := q _ ((S1.trans S2).trans S3')
  unfold worthM at qq
  rcases hk with r | r
  ·subst r
   wtm_at "zw"
   refine .inr ⟨false, rfl, ?_⟩
   refine ⟨l, _, 0, .int (worthM (bs.map (·.1)) vals y), rfl, rfl, SqL.of el, rfl, ?_⟩
   rw [if_neg (by decide)] at qq
   exact ⟨_, _, rfl, rfl, qq⟩
  ·subst r
   wtm_at "zw"
   refine .inr ⟨true, rfl, ?_⟩
   refine ⟨l, _, 1, .int (0 - worthM (bs.map (·.1)) vals y), rfl, rfl, SqL.of el, rfl, ?_⟩
   rw [if_pos rfl] at qq
   exact ⟨_, _, rfl, rfl, qq⟩
theorem dn_worth (F : Fd K mg "_law_worth" (top 33) ["e", "boxes", "standing"]) (B : Bl mg) (n : Nat) : Dn P w K mg base "_law_worth" (n + 1) ["e", "boxes", "standing"] (spWorthM n) := by
 induction n with
 | zero => exact dn_worth0 F
 | succ n ih => exact dn_worth1 F B ih

noncomputable def CondT (ws : List Str) : Th → Prop
 | .nul k => k = "yes"
 | .un k a => k = "not" ∧ CondT ws a
 | .bin k a b => (k = "both" ∧ CondT ws a ∧ CondT ws b) ∨ ((k = "same" ∨ k = "under") ∧ ExprT ws a ∧ ExprT ws b)
 | _ => False
noncomputable def holdsM (ws : List Str) (vals : List Int) : Th → Bool
 | .nul _ => true
 | .un _ a => !holdsM ws vals a
 | .bin k a b => if k = "both" then holdsM ws vals a && holdsM ws vals b else if k = "same" then decide (worthM ws vals a = worthM ws vals b) else decide (worthM ws vals a < worthM ws vals b)
 | _ => false
theorem condL_ok {bs : List (Str × Int)} (hb : bs ≠ []) (s : S3) : CondT (bs.map (·.1)) (condL bs s).1 ∧ (condL bs s).1.dep ≤ 3 := by
 have h1 := kO hb 1 (takeS s 8)
 have h2 := kO hb 1 (exprM bs 1 (takeS s 8)).2
 refine ⟨.inr ⟨?_, h1.1, h2.1⟩, ?_⟩
 ·unfold relM; split
  ·exact .inl rfl
  ·exact .inr rfl
 ·show max _ _ + 1 ≤ _; omega
theorem kR {bs : List (Str × Int)} (hb : bs ≠ []) (d : Nat) : ∀ s : S3, CondT (bs.map (·.1)) (condM bs d s).1 ∧ (condM bs d s).1.dep ≤ d + 3 := by
 induction d with
 | zero =>
  intro s
  unfold condM
  split
  ·exact ⟨rfl, by show 1 ≤ _; omega⟩
  ·exact condL_ok hb s
 | succ d ih =>
  intro s
  have h0 := condL_ok hb s
  have h1 := ih (takeS s 8)
  have h2 := ih (condM bs d (takeS s 8)).2
  unfold condM
  split
  ·exact ⟨rfl, by show 1 ≤ _; omega⟩
  ·split
   ·exact ⟨h0.1, by omega⟩
   ·split
    ·exact ⟨⟨rfl, h1.1⟩, by show _ + 1 ≤ _; omega⟩
    ·exact ⟨.inl ⟨rfl, h1.1, h2.1⟩, by show max _ _ + 1 ≤ _; omega⟩
theorem jM : FnScope ["c", "boxes", "standing", "one", "other"] ["c", "boxes", "standing"] (xB (top 34)) := ⟨rfl, rfl, rfl, by decide +kernel, rfl, by decide +kernel, by decide +kernel⟩
noncomputable def spHoldsM (n : Nat) : Sp := fun vs H Q _ => ∃ (t : Th) (v : V) (bx st : Addr) (bs : List (Str × Int)) (vals : List Int), vs = [v, .ref bx, .ref st] ∧ t.At H v ∧ CondT (bs.map (·.1)) t ∧ t.dep ≤ n ∧ t.dep ≤ 8 ∧ Here H bx st bs vals ∧
 ∀ H', Same H H' → Q (.bl (holdsM (bs.map (·.1)) vals t)) H'
theorem dn_holds0 (F : Fd K mg "_law_holds" (top 34) ["c", "boxes", "standing"]) : Dn P w K mg base "_law_holds" 9 ["c", "boxes", "standing"] (spHoldsM 0) := by
 have no : ∀ vs H Q E, ¬ spHoldsM 0 vs H Q E := fun vs H Q E h => by
  obtain ⟨t, _, _, _, _, _, _, _, _, h1, _⟩ := h
  have := Th.dep_pos t
  omega
 obtain ⟨f, fd, F, a, b, c⟩ := F.ex
 exact ⟨f, fd, ⟨fun vs H Q E h => absurd h (no vs H Q E), fun A outer s H args us vs Q E _ _ _ _ h => absurd h (no vs H Q E)⟩, a, b, c⟩
theorem dn_holds1 {n : Nat} (F : Fd K mg "_law_holds" (top 34) ["c", "boxes", "standing"]) (B : Bl mg) (D_law_worth : Dn P w K mg base "_law_worth" 9 ["e", "boxes", "standing"] (spWorthM 8)) (D_law_holds : Dn P w K mg base "_law_holds" (n + 9) ["c", "boxes", "standing"] (spHoldsM n)) :
  Dn P w K mg base "_law_holds" (n + 10) ["c", "boxes", "standing"] (spHoldsM (n + 1)) := by
 refine F.ok (k := n + 9) jM (fun vs H Q E h => ?_) (fun f cdv A outer s H vs Q E hr h => ?_)
 ·obtain ⟨_, _, _, _, _, _, rfl, _⟩ := h
  rfl
 obtain ⟨t, v, bx, st, bs, vals, rfl, ht, ok, hd, h8, hh, q⟩ := h
 refine ⟨_, (qZ (zJ (qS zD (xG (qT (K := K)) (pv 0) qF (fun _ _ => rfl)) qG (xE _)) (qJ (qO pe_bl)) qY)
  (qZ (zJ (qS zD (xG (qT (K := K)) (pv 0) qF (fun _ _ => rfl)) qG (xE _)) (qJ (qO (pe_not (qD D_law_holds hr (qQ (xG (qT (K := K)) (pv 0) qF (fun _ _ => rfl)) (qQ (pv 1) (qQ (pv 2) qX))))))) qY)
  (qZ (zJ (qS zD (xG (qT (K := K)) (pv 0) qF (fun _ _ => rfl)) qG (xE _)) (qJ (qO (pe_and (qD D_law_holds hr (qQ (xG (qT (K := K)) (pv 0) qF (fun _ _ => rfl)) (qQ (pv 1) (qQ (pv 2) qX)))) (pe_one (qD D_law_holds hr (qQ (xG (qT (K := K)) (pv 0) qF (fun _ _ => rfl)) (qQ (pv 1) (qQ (pv 2) qX)))))))) qY)
  (qZ (qN (i := 3) jM.nd rfl (by wtm_at "zo") (qD D_law_worth hr (qQ (xG (qT (K := K)) (pv 0) qF (fun _ _ => rfl)) (qQ (pv 1) (qQ (pv 2) qX)))))
  (qZ (qN (i := 4) jM.nd rfl (by wtm_at "zo") (qD D_law_worth hr (qQ (xG (qT (K := K)) (pv 0) qF (fun _ _ => rfl)) (qQ (pv 1) (qQ (pv 2) qX)))))
  (qJ (qO (xG (qU (K := K)) (xP (qQ (jC op_lt (pv 3) (pv 4) (xE _)) (qQ (jC zD (pv 3) (pv 4) (xE _)) qX))) (xZ jA rfl B.int' wQ (qQ (jC zD (xG (qT (K := K)) (pv 0) qF (fun _ _ => rfl)) qG (xE _)) qX)) (fun _ _ => rfl))))))))), ?_⟩
 cases t with
 | num m => exact ok.elim
 | box x => exact ok.elim
 | nul k =>
  obtain ⟨a, rfl, ea⟩ := ht
  have ok : k = "yes" := ok
  subst ok
  wtm_at "zw"
  exact q _ (.refl _)
 | un k x =>
  obtain ⟨a, u1, rfl, ea, h1⟩ := ht
  obtain ⟨hk, ok1⟩ := ok
  subst hk
  have d0 : x.dep + 1 ≤ n + 1 := hd
  have d8 : x.dep + 1 ≤ 8 := h8
  wtm_at "zw"
  refine ⟨x, u1, bx, st, bs, vals, rfl, h1, ok1, by omega, by omega, hh, fun H1 S1 => ?_⟩
  wtm_at "zw"
  exact q _ S1
 | bin k x y =>
  obtain ⟨a, u1, u2, rfl, ea, h1, h2⟩ := ht
  have d0 : max x.dep y.dep + 1 ≤ n + 1 := hd
  have d8 : max x.dep y.dep + 1 ≤ 8 := h8
  rcases ok with ⟨hk, ok1, ok2⟩ | ⟨hk, ok1, ok2⟩
  ·subst hk
   have q : ∀ H', Same H H' → Q (.bl (holdsM (bs.map (·.1)) vals x && holdsM (bs.map (·.1)) vals y)) H' := q
   wtm_at "zw"
   refine ⟨x, u1, bx, st, bs, vals, rfl, h1, ok1, by omega, by omega, hh, fun H1 S1 => ?_⟩
   have ea1 := S1 _ _ ea
   wtm_at "zw"
   cases hb : holdsM (bs.map (·.1)) vals x with
   | true =>
    refine iteT ?_
    wtm_at "zw"
    refine ⟨y, u2, bx, st, bs, vals, rfl, Th.At.mono (qC S1) h2, ok2, by omega, by omega, hh.same S1, fun H2 S2 => ?_⟩
    rw [hb, Bool.true_and] at q
    exact q _ (S1.trans S2)
   | false =>
    refine iteF ?_
    rw [hb, Bool.false_and] at q
    exact q _ S1
  ·have k1 : k ≠ "yes" := by rcases hk with r | r <;> (rw [r]; decide)
   have k2 : k ≠ "not" := by rcases hk with r | r <;> (rw [r]; decide)
   have k3 : k ≠ "both" := by rcases hk with r | r <;> (rw [r]; decide)
   wtm_at "zw"
   refine ⟨x, u1, bx, st, bs, vals, rfl, h1, ok1, by omega, hh, fun H1 S1 => ?_⟩
   have ea1 := S1 _ _ ea
   wtm_at "zw"
   refine ⟨y, u2, bx, st, bs, vals, rfl, Th.At.mono (qC S1) h2, ok2, by omega, hh.same S1, fun H2 S2 => ?_⟩
   have ea2 := S2 _ _ ea1
   wtm_at "zw"
   refine ⟨xF (show 2 ≤ 1000000 by decide), fun l hl => ?_⟩
   have S3' := qV hl (.lst [V.bl (decide (worthM (bs.map (·.1)) vals x < worthM (bs.map (·.1)) vals y)), V.bl (decide (V.int (worthM (bs.map (·.1)) vals x) = V.int (worthM (bs.map (·.1)) vals y)))])
   have el : upd H2 l (.lst [V.bl (decide (worthM (bs.map (·.1)) vals x < worthM (bs.map (·.1)) vals y)), V.bl (decide (V.int (worthM (bs.map (·.1)) vals x) = V.int (worthM (bs.map (·.1)) vals y)))]) l = some _ := qW
   generalize upd H2 l (.lst [V.bl (decide (worthM (bs.map (·.1)) vals x < worthM (bs.map (·.1)) vals y)), V.bl (decide (V.int (worthM (bs.map (·.1)) vals x) = V.int (worthM (bs.map (·.1)) vals y)))]) = H3 at S3' el ⊢
   have ea3 := S3' _ _ ea2
   have qq := q _ ((S1.trans S2).trans S3')
   unfold holdsM at qq
   rw [if_neg k3] at qq
   rcases hk with r | r
   ·subst r
    wtm_at "zw"
    refine .inr ⟨true, rfl, ?_⟩
    rw [if_pos rfl, decide_eq_decide.mpr (show worthM (bs.map (·.1)) vals x = worthM (bs.map (·.1)) vals y ↔ V.int (worthM (bs.map (·.1)) vals x) = V.int (worthM (bs.map (·.1)) vals y) from ⟨fun z => by rw [z], fun z => V.int.inj z⟩)] at qq
    exact ⟨l, _, 1, _, rfl, rfl, SqL.of el, rfl, qq⟩
   ·subst r
    wtm_at "zw"
    refine .inr ⟨false, rfl, ?_⟩
    rw [if_neg (by decide)] at qq
    exact ⟨l, _, 0, _, rfl, rfl, SqL.of el, rfl, qq⟩
theorem dn_holds (F : Fd K mg "_law_holds" (top 34) ["c", "boxes", "standing"]) (B : Bl mg) (D : Dn P w K mg base "_law_worth" 9 ["e", "boxes", "standing"] (spWorthM 8)) (n : Nat) : Dn P w K mg base "_law_holds" (n + 9) ["c", "boxes", "standing"] (spHoldsM n) := by
 induction n with
 | zero => exact dn_holds0 F
 | succ n ih => exact dn_holds1 F B D ih

theorem sc_law_leads : FnScope ["node"] ["node"] (xB (top 38)) := ⟨rfl, rfl, rfl, by decide +kernel, rfl, by decide +kernel, by decide +kernel⟩
theorem jH : CompOk (xB (top 38)) ["node"] (scAt (xC (top 38)) [1] [1]) ["fig", "to"] 2 [] :=
 ⟨by decide +kernel, by decide +kernel, by decide +kernel, by decide +kernel, by decide +kernel, by decide +kernel, by decide +kernel, by decide +kernel⟩
theorem side_read {σ : St} {H : Hp} {Q : VK} {k : Nat} {p : Addr} {us : List V} {fs : List (Int × Int)} (hk : k = 0 ∨ k = 1) (ep : H p = some (.tup us)) (pf : Paired (PairI H) fs us) (lf : fs.length ≤ 1000)
  (q : ∀ (D : Addr) (H' : Hp), H D = none → Same H H' → H' D = some (.lst (intsV (fs.map fun f => if k = 0 then f.1 else f.2))) → Q (.ref D) H') :
  rdC 2 [] (gTup K 2 (gCons (gName 0) (gCons (gName 1) gNil))) tYes (tVar k) (Itt K p) σ H Q := by
 have lu := pf.length
 refine comp_tup (xs := us) (fun D i ys H' => ys = intsV ((fs.take i).map fun f => if k = 0 then f.1 else f.2) ∧ Same H H') (fun D hD => ⟨rfl, qV hD _⟩)
  (fun D i ys H' _ hP => SqT.of (hP.2 _ _ ep)) (fun D i u ys H' N hD hDy ex hP hN => ?_) (fun D ys H2 hD hDy hP => ?_)
 ·obtain ⟨rfl, hS⟩ := hP
  have hi := (List.getElem?_eq_some_iff.mp ex).1
  obtain ⟨g, eg⟩ : ∃ b, fs[i]? = some b := ⟨_, List.getElem?_eq_getElem (by omega)⟩
  obtain ⟨c, rfl, ec⟩ := xV pf eg ex
  have ec' := hS _ _ ec
  refine ⟨c, _, rfl, SqT.of ec', rfl, _, _, rfl, _, _, rfl, rfl, ⟨[some (.int g.1), some (.int g.2)], rfl, rfl⟩, ?_⟩
  refine ⟨.int (if k = 0 then g.1 else g.2), ?_, hDy, ?_, hN _ _ qW ⟨?_, fun b o e => ?_⟩⟩
  ·rcases hk with rfl | rfl
   ·rfl
   ·rfl
  ·rw [List.length_map, List.length_map, List.length_take]; exact small (by omega)
  ·rw [List.take_add_one, eg, List.map_append]; unfold intsV; rw [List.map_append]; rfl
  ·rw [qA (qB e hD)]; exact hS _ _ e
 ·obtain ⟨rfl, hS⟩ := hP
  rw [← lu, List.take_length] at hDy
  exact q D H2 hD hS hDy
theorem dn_leads (F : Fd K mg "_law_leads" (top 38) ["node"]) : Dn P w K mg base "_law_leads" 1 ["node"] spFollow := by
 refine F.ok sc_law_leads (fun vs H Q E h => ?_) (fun f cdv A outer s H vs Q E hr h => ?_)
 ·obtain ⟨_, _, rfl, _⟩ := h
  rfl
 obtain ⟨n, u, rfl, hn, fine, q⟩ := h
 refine ⟨_, (qZ (zJ (qS zD (xG (qT (K := K)) (pv 0) qF (fun _ _ => rfl)) qG (xE _)) (qJ (qO (xP (qQ (xG (qT (K := K)) (pv 0) qF (fun _ _ => rfl)) qX)))) qY)
  (qJ (qO (pe_ifExp (qS zD (xG (qT (K := K)) (pv 0) qF (fun _ _ => rfl)) qG (xE _)) (jZ rfl jH (pi_tupK (K := K) (xG (qT (K := K)) (pv 0) qF (fun _ _ => rfl))) (fun cl fp s H => (vK (K := K) (n := 2) rfl (qI (qH (i := 0) jH.nd rfl (Or.inl rfl) (.inr rfl)) (qI (qH (i := 1) jH.nd rfl (Or.inl rfl) (.inr rfl)) qM)))) (fun cl fp s H => jQ) (fun cl fp s H => (pv 1))) (xP qX))))), ?_⟩
 cases n with
 | fin =>
  obtain ⟨a, rfl, ea⟩ := hn
  wtm_at "zw"
  exact ⟨xF (by decide), fun p hp => q p _ hp (qV hp _) qW⟩
 | act x to =>
  obtain ⟨a, rfl, ea⟩ := hn
  wtm_at "zw"
  exact ⟨xF (show 1 ≤ 1000000 by decide), fun p hp => q p _ hp (qV hp _) qW⟩
 | see x fs =>
  obtain ⟨a, p, us, rfl, ea, ep, pf⟩ := hn
  wtm_at "zf"
  refine ⟨p, rfl, ⟨us, SqT.of ep⟩, side_read (.inr rfl) ep pf fine.2.1 fun D H' nD S' eD => q D H' nD S' ?_⟩
  rw [eD]; rfl
theorem jK : FnScope ["world", "nodes", "node", "names"] ["world", "nodes"] (xB (top 39)) := ⟨rfl, rfl, rfl, by decide +kernel, rfl, by decide +kernel, by decide +kernel⟩
theorem vS : CompOk (xB (top 39)) ["world", "nodes", "node", "names"] (scAt (xC (top 39)) [0, 0] [0]) ["to", "nodes"] 1 [1] :=
 ⟨by decide +kernel, by decide +kernel, by decide +kernel, by decide +kernel, by decide +kernel, by decide +kernel, by decide +kernel, by decide +kernel⟩
theorem yE : CompOk (xB (top 39)) ["world", "nodes", "node", "names"] (scAt (xC (top 39)) [0, 1] [1, 0, 1, 1]) ["fig", "to"] 2 [] :=
 ⟨by decide +kernel, by decide +kernel, by decide +kernel, by decide +kernel, by decide +kernel, by decide +kernel, by decide +kernel, by decide +kernel⟩
theorem vR : CompOk (xB (top 39)) ["world", "nodes", "node", "names"] (scAt (xC (top 39)) [1, 0] []) ["deed"] 1 [] :=
 ⟨by decide +kernel, by decide +kernel, by decide +kernel, by decide +kernel, by decide +kernel, by decide +kernel, by decide +kernel, by decide +kernel⟩
theorem vP : CompOk (xB (top 39)) ["world", "nodes", "node", "names"] (scAt (xC (top 39)) [1, 1, 0] []) ["look"] 1 [] :=
 ⟨by decide +kernel, by decide +kernel, by decide +kernel, by decide +kernel, by decide +kernel, by decide +kernel, by decide +kernel, by decide +kernel⟩
theorem vI {α : Type} {p : α → Bool} {l : List α} {i : Nat} {x : α} (h : l[i]? = some x) : (l.take (i + 1)).filter p = (l.take i).filter p ++ (if p x = true then [x] else []) := by
 rw [List.take_add_one, h, List.filter_append]
 congr 1
 show [x].filter p = _
 cases e : p x with
 | true => rw [List.filter_cons_of_pos e]; rfl
 | false => rw [List.filter_cons_of_neg (by rw [e]; exact Bool.false_ne_true)]; rfl
theorem filt_read {σ : St} {H : Hp} {Q : VK} {js : List Nat} {tt : TT} {a : Addr} {us : List V} {p : V → Bool} (ea : H a = some (.lst us)) (hl : us.length ≤ 100000)
  (htt : ∀ (x : V) (H' : Hp) (R : Bool → Hp → Prop), x ∈ us → Same H H' → (∀ H'', Same H' H'' → R (p x) H'') → tt ([some x] ++ frees js σ) H' R)
  (q : ∀ (D : Addr) (H' : Hp), H D = none → Same H H' → H' D = some (.lst (us.filter p)) → Q (.ref D) H') :
  rdC 1 js (gName 0) tt (tVar 0) (Itl K a) σ H Q := by
 refine jP (xs := us) (fun D i ys H' => ys = (us.take i).filter p ∧ ∀ b o, H b = some o → H' b = some o) (fun D hD => ⟨rfl, qV hD _⟩)
  (fun D i ys H' _ hP => SqL.of (hP.2 _ _ ea)) (fun D i x ys H' N hD hDy ex hP hN => ?_) (fun D ys H5 hD hDy hP => ?_)
 ·obtain ⟨rfl, hk⟩ := hP
  have hi : i < us.length := (List.getElem?_eq_some_iff.mp ex).1
  have lf : ((us.take i).filter p).length ≤ i := Nat.le_trans (List.length_filter_le _ _) (by rw [List.length_take]; omega)
  refine ⟨⟨[some x], rfl, rfl⟩, ?_⟩
  refine htt x H' _ (List.mem_of_getElem? ex) hk fun H4 S4 => ?_
  have eD := S4 _ _ hDy
  have fs := vI (p := p) ex
  cases e : p x with
  | false =>
   refine iteF (hN _ _ eD ⟨?_, fun b o z => S4 _ _ (hk _ _ z)⟩)
   rw [fs, e, if_neg Bool.false_ne_true, List.append_nil]
  | true =>
   refine iteT ⟨_, rfl, eD, small2 (by omega), hN _ _ qW ⟨?_, fun b o z => ?_⟩⟩
   ·rw [fs, e, if_pos rfl]
   ·rw [qA (qB z hD)]; exact S4 _ _ (hk _ _ z)
 obtain ⟨rfl, hk⟩ := hP
 rw [List.take_length] at hDy
 exact q D H5 hD hk hDy
theorem vH {σ : St} {H : Hp} {Q : VK} {la : Addr} {us : List V} {xs : List Str} (e1 : H la = some (.lst us)) (p1 : Paired (fun x u => ∃ a ys, u = .ref a ∧ H a = some (.tup (.str x :: ys))) xs us) (hl : xs.length ≤ 1000)
  (q : ∀ (D : Addr) (H' : Hp), H D = none → Same H H' → H' D = some (.lst (strsV xs)) → Q (.ref D) H') :
  rdC 1 [] (gName 0) tYes (tOp (rIxT K) (tVar 0) (tC (.int 0))) (Itl K la) σ H Q := by
 have lb : us.length = xs.length := p1.length.symm
 refine jP (xs := us) (fun D i ys H' => ys = strsV (xs.take i) ∧ ∀ b o, H b = some o → H' b = some o) (fun D hD => ⟨rfl, qV hD _⟩)
  (fun D i ys H' _ hP => (show Same H H' from hP.2).seq (SqL.of e1)) (fun D i x ys H' N hD hDy ex hP hN => ?_) (fun wd ys H2 hD hDy hP => ?_)
 ·obtain ⟨rfl, hk⟩ := hP
  obtain ⟨b, eb⟩ : ∃ b, xs[i]? = some b := ⟨_, List.getElem?_eq_getElem (by rw [← lb]; exact (List.getElem?_eq_some_iff.mp ex).1)⟩
  obtain ⟨ba, zs, rfl, hba⟩ := xV p1 eb ex
  refine ⟨⟨[some (.ref ba)], rfl, rfl⟩, ?_⟩
  refine ⟨_, rfl, ba, _, 0, .str b, rfl, rfl, SqT.of (hk _ _ hba), at_head _ _, hDy, ?_, hN _ _ qW ⟨?_, fun b o e => ?_⟩⟩
  ·rw [xA, List.length_take]; exact small (by omega)
  ·rw [List.take_add_one, eb, kU]; rfl
  ·rw [qA (qB e hD)]; exact hk _ _ e
 obtain ⟨rfl, hk⟩ := hP
 rw [lb, List.take_length] at hDy
 exact q wd H2 hD hk hDy
theorem nodup_len (ns : List Int) : (SI.uniq ns).length < ns.length ↔ ¬ ns.Nodup := by
 constructor
 ·intro h nd
  have := (SI.sub_perm ns (SI.uniq ns) nd (fun x hx => (SI.uniq_mem ns x).mpr hx) (SI.uniq_le ns)).length_eq
  omega
 ·intro nd
  have le := SI.uniq_le ns
  by_cases e : (SI.uniq ns).length = ns.length
  ·have p := SI.sub_perm (SI.uniq ns) ns (SI.uniq_nd ns) (fun x hx => (SI.uniq_mem ns x).mp hx) (by omega)
   exact absurd (p.nodup_iff.mp (SI.uniq_nd ns)) nd
  ·omega
theorem inV_strs (x : Str) (ws : List Str) : inV (.str x) (strsV ws) = decide (x ∈ ws) := by
 unfold inV
 rw [List.any_map]
 by_cases h : x ∈ ws
 ·rw [decide_eq_true h]
  refine List.any_eq_true.mpr ⟨x, h, ?_⟩
  show (x == x) = true
  exact beq_self_eq_true x
 ·rw [decide_eq_false h]
  refine Bool.eq_false_iff.mpr fun z => ?_
  obtain ⟨y, hy, e⟩ := List.any_eq_true.mp z
  have e : (y == x) = true := e
  exact h (eq_of_beq e ▸ hy)
theorem flat_strs (ws : List Str) : (strsV ws).all flatV = true := List.all_eq_true.mpr fun x hx => by
 obtain ⟨y, _, rfl⟩ := List.mem_map.mp hx
 rfl
noncomputable def spDue : Sp := fun vs H Q _ => ∃ (wv : V) (ds ls : List Str) (la : Addr) (us : List V) (ns : List Nd), vs = [wv, .ref la] ∧ NamesW H wv ds ls ∧ ds.length ≤ 1000 ∧ ls.length ≤ 1000 ∧ H la = some (.lst us) ∧ Paired (NdAt H) ns us ∧ (∀ n ∈ ns, n.Fine) ∧ ns.length ≤ 1000 ∧
 (Bad ns → ∀ H', Same H H' → Q (.str "NoPlan") H') ∧ (¬ Bad ns → (∃ n ∈ ns, ¬ n.Known ds ls) → ∀ H', Same H H' → Q (.str "NoName") H') ∧ (¬ Bad ns → (∀ n ∈ ns, n.Known ds ls) → ∀ H', Same H H' → Q (.str "good") H')
noncomputable def Nd.like (ds ls : List Str) : Nd → List Str
 | .see _ _ => ls
 | _ => ds
theorem dn_due (F : Fd K mg "_law_due" (top 39) ["world", "nodes"]) (B : Bl mg) (B_set : mg "set" = none) (D_law_leads : Dn P w K mg base "_law_leads" 1 ["node"] spFollow) : Dn P w K mg base "_law_due" 2 ["world", "nodes"] spDue := by
 refine F.ok jK (fun vs H Q E h => ?_) (fun f cdv A outer s H vs Q E hr h => ?_)
 ·obtain ⟨_, _, _, _, _, _, rfl, _⟩ := h
  rfl
 obtain ⟨wv, ds, ls, la, us, ns, rfl, hw, lds, lls, ela, pn, fine, l1000, q1, q2, q3⟩ := h
 have ln := pn.length
 refine ⟨_, (qZ (zT PassesOwn.never rfl (xQ (K := K) (pv 1)) (qH (i := 2) jK.nd rfl (by wtm_at "zo")) (qZ (zJ (qS (op_neEK (K := K) hr.units) (jZ rfl vS (xQ (K := K) (qD D_law_leads hr (qQ (pv 2) qX))) (fun cl fp s H => (qH (i := 0) vS.nd rfl (Or.inl rfl) (.inr rfl))) (fun cl fp s H => (pts_one (pt_not (pt_chain op_le op_lt qF (pv 0) (xJ (xS (K := K)) rfl B.len' zH (qQ (pv 1) qX)))))) (fun cl fp s H => (pv 0))) (xP qX) (xE _)) (qJ (qO qG)) qY)
  (qJ (zJ (PW.pt (pw_and (qS zD (xG (qT (K := K)) (pv 2) qF (fun _ _ => rfl)) qG (xE _)) (pw_and1 (qS op_lt (xJ (call_lenI (P := P) (w := w)) rfl B.len' zH (qQ (xZ (call_setI (P := P) (w := w) (K := K) rfl) rfl B_set bt_set (qQ (jZ rfl yE (pi_tupK (K := K) (xG (qT (K := K)) (pv 2) qF (fun _ _ => rfl))) (fun cl fp s H => (vK (K := K) (n := 2) rfl (qI (qH (i := 0) yE.nd rfl (Or.inl rfl) (.inr rfl)) (qI (qH (i := 1) yE.nd rfl (Or.inl rfl) (.inr rfl)) qM)))) (fun cl fp s H => jQ) (fun cl fp s H => (pv 0))) qX)) qX)) (xJ (xS (K := K)) rfl B.len' zH (qQ (xG (qT (K := K)) (pv 2) qF (fun _ _ => rfl)) qX)) (xE _))))) (qJ (qO qG)) qY))))
  (qZ (zT PassesOwn.never rfl (xQ (K := K) (pv 1)) (qH (i := 2) jK.nd rfl (by wtm_at "zo")) (qZ (jT (i := 3) jK.nd rfl (by wtm_at "zo") rfl vR (xQ (K := K) (xG (qT (K := K)) (pv 0) qF (fun _ _ => rfl))) (fun cl fp s H => (qH (i := 0) vR.nd rfl (Or.inl rfl) (.inr rfl))) (fun cl fp s H => jQ) (fun cl fp s H => (xG (qT (K := K)) (pv 0) qF (fun _ _ => rfl))))
  (qK (zJ (qS zD (xG (qT (K := K)) (pv 2) qF (fun _ _ => rfl)) qG (xE _)) (qJ (jT (i := 3) jK.nd rfl (by wtm_at "zo") rfl vP (xQ (K := K) (xG (qT (K := K)) (pv 0) qF (fun _ _ => rfl))) (fun cl fp s H => (qH (i := 0) vP.nd rfl (Or.inl rfl) (.inr rfl))) (fun cl fp s H => jQ) (fun cl fp s H => (xG (qT (K := K)) (pv 0) qF (fun _ _ => rfl))))) qY)
  (qJ (zJ (PW.pt (pw_and (qS op_ne (xG (qT (K := K)) (pv 2) qF (fun _ _ => rfl)) qG (xE _)) (pw_and1 (qS (op_notInK (K := K)) (xG (qT (K := K)) (pv 2) qF (fun _ _ => rfl)) (pv 3) (by with_unfolding_all rfl))))) (qJ (qO qG)) qY)))))
  (qJ (qO (xG (qU (K := K)) (xP (qQ qG (qQ qG qX))) (xZ jA rfl B.int' wQ (qQ (jC (op_eqEK (K := K) hr.units) (pv 1) (xP qX) (xE _)) qX)) (fun _ _ => rfl)))))), ?_⟩
 wtm_at "zf"
 refine ⟨la, rfl, ⟨us, SqL.of ela⟩, ?_⟩
 refine jE (xs := us) (fun i σ' H' => ∃ z z' : Option V, σ' = [some wv, some (.ref la), z, z'] ∧ Same H H' ∧ ∀ n ∈ ns.take i, Leads n ns.length ∧ n.Once) ⟨none, none, rfl, .refl _, fun n h => nomatch h⟩ (fun i σ' H' _ hP => ?_) (fun i v σ' H' ex hP => ?_) (fun σ' H' hP => ?_)
 ·obtain ⟨_, _, rfl, S2, _⟩ := hP
  exact SqL.of (S2 _ _ ela)
 ·obtain ⟨z, z', rfl, S2, hi⟩ := hP
  obtain ⟨n, en⟩ : ∃ b, ns[i]? = some b := ⟨_, List.getElem?_eq_getElem (by rw [ln]; exact (List.getElem?_eq_some_iff.mp ex).1)⟩
  have hn := (xV pn en ex).same S2
  have mn := List.mem_of_getElem? en
  have fn := fine n mn
  wtm_at "zf"
  refine ⟨n, v, rfl, hn, fn, fun l H3 nl S3 el => ?_⟩
  have ela3 := S3 _ _ (S2 _ _ ela)
  refine ⟨l, rfl, ⟨_, SqL.of el⟩, ?_⟩
  refine filt_read (p := fun x => match x with | .int t => !decide (0 ≤ t ∧ t < (ns.length : Int)) | _ => false) el (by rw [List.length_map]; have := fn.leads_le; omega) (fun x H4 R hx S4 hR => ?_) fun D H4 nD S4 eD => ?_
  ·obtain ⟨t, _, rfl⟩ := List.mem_map.mp hx
   have ela4 := S4 _ _ ela3
   wtm_at "zw"
   by_cases h0 : 0 ≤ t
   ·refine ⟨_, rfl, 0, t, rfl, rfl, true, (by show V.bl (decide ((0 : Int) ≤ t)) = V.bl true; rw [decide_eq_true h0]), iteT ?_⟩
    wtm_at "zw"
    have e : (!decide (t < (us.length : Int))) = !decide (0 ≤ t ∧ t < (ns.length : Int)) := by
     rw [decide_eq_decide.mpr (show t < (us.length : Int) ↔ 0 ≤ t ∧ t < (ns.length : Int) by rw [ln]; exact ⟨fun z => ⟨h0, z⟩, fun z => z.2⟩)]
    have this : R (!decide (0 ≤ t ∧ t < (ns.length : Int))) H4 := hR H4 (.refl _)
    rw [← e] at this
    exact this
   ·refine ⟨_, rfl, 0, t, rfl, rfl, false, (by show V.bl (decide ((0 : Int) ≤ t)) = V.bl false; rw [decide_eq_false h0]), iteF ?_⟩
    have this : R (!decide (0 ≤ t ∧ t < (ns.length : Int))) H4 := hR H4 (.refl _)
    rw [decide_eq_false (fun z => h0 z.1)] at this
    exact ⟨false, rfl, this⟩
  wtm_at "zw"
  refine ⟨xF (show 0 ≤ 1000000 by decide), fun e0 he0 => ?_⟩
  have S5 := qV he0 (.lst [])
  have ee0 : upd H4 e0 (.lst []) e0 = some (.lst []) := qW
  generalize upd H4 e0 (.lst []) = H5 at S5 ee0
  refine ⟨D, e0, _, rfl, rfl, SqL.of (S5 _ _ eD), SqL.of ee0, ?_⟩
  have S25 := S3.trans (S4.trans S5)
  by_cases g1 : Leads n ns.length
  ·have ef : (intsV n.leads).filter (fun x => match x with | .int t => !decide (0 ≤ t ∧ t < (ns.length : Int)) | _ => false) = [] := by
    refine List.filter_eq_nil_iff.mpr fun x hx => ?_
    obtain ⟨t, ht, rfl⟩ := List.mem_map.mp hx
    show ¬ (!decide (0 ≤ t ∧ t < (ns.length : Int))) = true
    rw [decide_eq_true (g1 t ht)]
    decide
   rw [ef]
   refine ⟨false, rfl, iteF ?_⟩
   replace hn := hn.same S25
   have hS : Same H H5 := S2.trans S25
   have go : n.Once → Same H5 H5 → ∀ H6, Same H5 H6 → (∃ y y' : Option V, ([some wv, some (.ref la), some v, z'] : St) = [some wv, some (.ref la), y, y'] ∧ Same H H6 ∧ ∀ n ∈ ns.take (i + 1), Leads n ns.length ∧ n.Once) := fun g2 _ H6 S6 => ⟨some v, z', rfl, hS.trans S6, fun n' h => by
    rw [List.take_add_one, en] at h
    rcases List.mem_append.mp h with r | r
    ·exact hi n' r
    ·rw [List.mem_singleton.mp r]; exact ⟨g1, g2⟩⟩
   cases n with
   | fin =>
    obtain ⟨a, rfl, ea⟩ := hn
    wtm_at "zw"
    exact go trivial (.refl _) _ (.refl _)
   | act x to =>
    obtain ⟨a, rfl, ea⟩ := hn
    wtm_at "zw"
    exact go trivial (.refl _) _ (.refl _)
   | see x fs =>
    obtain ⟨a, p, vs, rfl, ea, ep, pf⟩ := hn
    have lu := pf.length
    wtm_at "zf"
    refine ⟨p, rfl, ⟨vs, SqT.of ep⟩, side_read (.inl rfl) ep pf fn.2.1 fun D2 H6 nD2 S6 eD2 => ?_⟩
    wtm_at "zw"
    refine ⟨D2, fs.map (fun f => if 0 = 0 then f.1 else f.2), rfl, SqL.of eD2, by rw [List.length_map]; exact fn.2.1, fun t ht => ?_⟩
    have S7 := qV ht (SetI P w t (SI.uniq (fs.map fun f => if 0 = 0 then f.1 else f.2)))
    have et : upd H6 t (SetI P w t (SI.uniq (fs.map fun f => if 0 = 0 then f.1 else f.2))) t = some _ := qW
    generalize upd H6 t (SetI P w t (SI.uniq (fs.map fun f => if 0 = 0 then f.1 else f.2))) = H7 at S7 et
    have ea7 := S7 _ _ (S6 _ _ ea)
    have ep7 := S7 _ _ (S6 _ _ ep)
    have nd := nodup_len (fs.map fun f => if 0 = 0 then f.1 else f.2)
    have ul := SI.uniq_le (fs.map fun f => if 0 = 0 then f.1 else f.2)
    have lf : (fs.map fun f : Int × Int => if 0 = 0 then f.1 else f.2).length = vs.length := by rw [List.length_map]; exact lu
    have l2 := fn.2.1
    refine ⟨t, _, rfl, et, by omega, ?_⟩
    wtm_at "zw"
    by_cases g2 : (fs.map (·.1)).Nodup
    ·rw [decide_eq_false (show ¬ (((SI.uniq (fs.map fun f => if 0 = 0 then f.1 else f.2)).length : Int) < (vs.length : Int)) from fun z => nd.mp (by omega) g2)]
     refine iteF ?_
     exact go g2 (.refl _) _ (S6.trans S7)
    ·rw [decide_eq_true (show (((SI.uniq (fs.map fun f => if 0 = 0 then f.1 else f.2)).length : Int) < (vs.length : Int)) from by have := nd.mpr g2; omega)]
     refine iteT ?_
     wtm_at "zw"
     exact q1 (.inr ⟨.see x fs, mn, .inr g2⟩) _ (hS.trans (S6.trans S7))
  ·have ef : (!((intsV n.leads).filter (fun x => match x with | .int t => !decide (0 ≤ t ∧ t < (ns.length : Int)) | _ => false)).isEmpty) = true := by
    rw [Bool.not_eq_true', ← Bool.not_eq_true, List.isEmpty_iff]
    intro z
    refine g1 fun t ht => ?_
    have := List.filter_eq_nil_iff.mp z (.int t) (List.mem_map.mpr ⟨t, ht, rfl⟩)
    have this : ¬ (!decide (0 ≤ t ∧ t < (ns.length : Int))) = true := this
    rw [Bool.not_eq_true', Bool.not_eq_false] at this
    exact of_decide_eq_true this
   rw [ef]
   refine ⟨true, rfl, iteT ?_⟩
   wtm_at "zw"
   exact q1 (.inr ⟨n, mn, .inl g1⟩) _ (S2.trans S25)
 ·obtain ⟨z, z', rfl, S2, hi⟩ := hP
  rw [← ln, List.take_length] at hi
  have ela2 := S2 _ _ ela
  have hw2 := hw.same S2
  wtm_at "zf"
  refine ⟨la, rfl, ⟨us, SqL.of ela2⟩, ?_⟩
  refine jE (xs := us) (fun i σ' H'' => ∃ z z' : Option V, σ' = [some wv, some (.ref la), z, z'] ∧ Same H' H'' ∧ ∀ n ∈ ns.take i, n.Known ds ls) ⟨z, z', rfl, .refl _, fun n h => nomatch h⟩ (fun i σ' H'' _ hP => ?_) (fun i v σ' H'' ex hP => ?_) (fun σ' H'' hP => ?_)
  ·obtain ⟨_, _, rfl, S3, _⟩ := hP
   exact SqL.of (S3 _ _ ela2)
  ·obtain ⟨z, z', rfl, S3, hk⟩ := hP
   obtain ⟨n, en⟩ : ∃ b, ns[i]? = some b := ⟨_, List.getElem?_eq_getElem (by rw [ln]; exact (List.getElem?_eq_some_iff.mp ex).1)⟩
   have hn := (xV pn en ex).same (S2.trans S3)
   have mn := List.mem_of_getElem? en
   have nb : ¬ Bad ns := fun b => b.elim (fun z => by rw [z] at mn; exact nomatch mn) fun ⟨n, h1, h2⟩ => h2.elim (fun z => z (hi n h1).1) fun z => z (hi n h1).2
   obtain ⟨wa, x0, y0, z0, da, la', rfl, ew, ⟨du, eda, pd⟩, ⟨lu, ela', pl⟩⟩ := hw2.same S3
   wtm_at "zf"
   refine ⟨da, rfl, ⟨du, SqL.of eda⟩, vH eda pd lds fun D1 H4 nD1 S4 eD1 => ?_⟩
   replace hn := hn.same S4
   have ew4 := S4 _ _ ew
   wtm_at "zw"
   refine ⟨fun σ' H5 => ∃ D, σ' = [some (.ref wa), some (.ref la), some v, some (.ref D)] ∧ Same H4 H5 ∧ H5 D = some (.lst (strsV (n.like ds ls))), ?_, fun σ' H5 hP => ?_⟩
   ·cases n with
    | fin =>
     obtain ⟨a, rfl, ea⟩ := hn
     wtm_at "zw"
     exact ⟨D1, rfl, .refl _, eD1⟩
    | act x to =>
     obtain ⟨a, rfl, ea⟩ := hn
     wtm_at "zw"
     exact ⟨D1, rfl, .refl _, eD1⟩
    | see x fs =>
     obtain ⟨a, p, vs, rfl, ea, ep, pf⟩ := hn
     wtm_at "zf"
     refine ⟨la', rfl, ⟨lu, SqL.of (S4 _ _ ela')⟩, vH (S4 _ _ ela') (Paired.mapP pl fun _ _ ⟨b, ys, e1, e2⟩ => ⟨b, ys, e1, S4 _ _ e2⟩) lls fun D2 H5 nD2 S5 eD2 => ?_⟩
     exact ⟨D2, rfl, S5, eD2⟩
   obtain ⟨D, rfl, S5, eD⟩ := hP
   replace hn := hn.same S5
   have S35 := S3.trans (S4.trans S5)
   have go : n.Known ds ls → (∃ z z' : Option V, ([some (.ref wa), some (.ref la), some v, some (.ref D)] : St) = [some (.ref wa), some (.ref la), z, z'] ∧ Same H' H5 ∧ ∀ n ∈ ns.take (i + 1), n.Known ds ls) := fun g => ⟨some v, some (.ref D), rfl, S35, fun n' h => by
    rw [List.take_add_one, en] at h
    rcases List.mem_append.mp h with r | r
    ·exact hk n' r
    ·rw [List.mem_singleton.mp r]; exact g⟩
   cases n with
   | fin =>
    obtain ⟨a, rfl, ea⟩ := hn
    wtm_at "zw"
    exact go trivial
   | act x to =>
    obtain ⟨a, rfl, ea⟩ := hn
    wtm_at "zw"
    rw [FP.xW (by decide +kernel)]
    refine iteNF ?_
    wtm_at "zw"
    refine ⟨D, _, rfl, .inl (SqL.of eD), rfl, flat_strs _, ?_⟩
    rw [if_pos rfl, inV_strs]
    by_cases g : x ∈ ds
    ·rw [decide_eq_true (show x ∈ (Nd.act x to).like ds ls from g)]
     refine ⟨false, rfl, iteF ?_⟩
     exact go g
    ·rw [decide_eq_false (show ¬ x ∈ (Nd.act x to).like ds ls from g)]
     refine ⟨true, rfl, iteT ?_⟩
     wtm_at "zw"
     exact q2 nb ⟨_, mn, g⟩ _ (S2.trans S35)
   | see x fs =>
    obtain ⟨a, p, vs, rfl, ea, ep, pf⟩ := hn
    wtm_at "zw"
    rw [FP.xW (by decide +kernel)]
    refine iteNF ?_
    wtm_at "zw"
    refine ⟨D, _, rfl, .inl (SqL.of eD), rfl, flat_strs _, ?_⟩
    rw [if_pos rfl, inV_strs]
    by_cases g : x ∈ ls
    ·rw [decide_eq_true (show x ∈ (Nd.see x fs).like ds ls from g)]
     refine ⟨false, rfl, iteF ?_⟩
     exact go g
    ·rw [decide_eq_false (show ¬ x ∈ (Nd.see x fs).like ds ls from g)]
     refine ⟨true, rfl, iteT ?_⟩
     wtm_at "zw"
     exact q2 nb ⟨_, mn, g⟩ _ (S2.trans S35)
  ·obtain ⟨z, z', rfl, S3, hk⟩ := hP
   rw [← ln, List.take_length] at hk
   have ela3 := S3 _ _ ela2
   wtm_at "zw"
   refine ⟨xF (show 2 ≤ 1000000 by decide), fun p hp => ?_⟩
   have S4 := qV hp (.lst [V.str "good", V.str "NoPlan"])
   have ep : upd H'' p (.lst [V.str "good", V.str "NoPlan"]) p = some _ := qW
   generalize upd H'' p (.lst [V.str "good", V.str "NoPlan"]) = H4 at S4 ep
   wtm_at "zw"
   refine ⟨xF (show 0 ≤ 1000000 by decide), fun e0 he0 => ?_⟩
   have S5 := qV he0 (.lst [])
   have ee0 : upd H4 e0 (.lst []) e0 = some (.lst []) := qW
   generalize upd H4 e0 (.lst []) = H5 at S5 ee0
   refine ⟨la, e0, us, rfl, rfl, SqL.of (S5 _ _ (S4 _ _ ela3)), SqL.of ee0, ?_⟩
   have S25 := S2.trans (S3.trans (S4.trans S5))
   wtm_at "zw"
   refine .inr ⟨us.isEmpty, rfl, ?_⟩
   cases us with
   | nil =>
    have e : ns = [] := List.length_eq_zero_iff.mp ln
    exact ⟨p, _, 1, .str "NoPlan", rfl, rfl, SqL.of (S5 _ _ ep), rfl, q1 (.inl e) _ S25⟩
   | cons u0 us =>
    have nb : ¬ Bad ns := fun b => b.elim (fun z => by rw [z] at ln; cases ln) fun ⟨n, h1, h2⟩ => h2.elim (fun z => z (hi n h1).1) fun z => z (hi n h1).2
    exact ⟨p, _, 0, .str "good", rfl, rfl, SqL.of (S5 _ _ ep), rfl, q3 nb hk _ S25⟩

noncomputable def hideL (ds : List Addr) (H : Hp) : Hp := fun b => if b ∈ ds then none else H b
noncomputable def Keep (ds : List Addr) (H H' : Hp) : Prop := ∀ b o, b ∉ ds → H b = some o → H' b = some o
section
variable {ds : List Addr} {H H' H'' : Hp}
theorem zR {b : Addr} {o : HO} (n : b ∉ ds) (e : H b = some o) : hideL ds H b = some o := by unfold hideL; rw [if_neg n]; exact e
theorem zO : Same (hideL ds H) H := fun b o e => by
 unfold hideL at e
 by_cases m : b ∈ ds
 ·rw [if_pos m] at e; cases e
 ·rw [if_neg m] at e; exact e
theorem Keep.hide (h : Keep ds H H') : Same (hideL ds H) (hideL ds H') := fun b o e => by
 unfold hideL at e ⊢
 by_cases m : b ∈ ds
 ·rw [if_pos m] at e; cases e
 ·rw [if_neg m] at e ⊢; exact h b o m e
theorem Keep.refl : Keep ds H H := fun _ _ _ e => e
theorem Keep.trans (a : Keep ds H H') (b : Keep ds H' H'') : Keep ds H H'' := fun c o m e => b c o m (a c o m e)
theorem Keep.of (s : Same H H') : Keep ds H H' := fun b o _ e => s b o e
theorem Keep.but1 {p : Addr} (B : But1 p H H') (m : p ∈ ds) : Keep ds H H' := fun b o n e => B b o (fun z => n (z ▸ m)) e
theorem Keep.upd {y : Addr} {o : HO} (m : y ∈ ds) : Keep ds H (L2.upd H y o) := fun b o' n e => by
 have nb : b ≠ y := fun z => n (by rw [z]; exact m)
 rw [qA nb]; exact e
theorem Keep.same {H0 : Hp} (k : Keep ds H H') (s : Same H0 H) (n : ∀ d ∈ ds, H0 d = none) : Same H0 H' := fun b o e => k b o (fun m => by rw [n b m] at e; cases e) (s b o e)
end
structure Look where
 name : Str
 price : Int
 part : Th
noncomputable def LookIn (H : Hp) (l : Look) (u : V) : Prop := ∃ a v, u = .ref a ∧ H a = some (.tup [.str l.name, .int l.price, v]) ∧ l.part.At H v
theorem LookIn.tups {H H' : Hp} (t : Tups H H') {c : Look} {u : V} (x : LookIn H c u) : LookIn H' c u := let ⟨a, v, e, q, r⟩ := x; ⟨a, v, e, t _ _ q, r.mono t⟩
theorem DeedIn.same {H H' : Hp} (s : Same H H') {c : Deed} {u : V} (x : DeedIn H c u) : DeedIn H' c u := let ⟨a, nv, wa, us, e, q, r, q2, p⟩ := x; ⟨a, nv, wa, us, e, s _ _ q, r.mono (qC s), s _ _ q2, Paired.mapP p fun _ _ y => y.same s⟩
structure Wd where
 bs : List (Str × Int)
 ds : List Deed
 ls : List Look
 bt : Th
 gt : Th
structure WLie (H : Hp) (W : Wd) (bx dx lx : Addr) (bv gv : V) : Prop where
 boxes : ∃ us, H bx = some (.lst us) ∧ Paired (BoxIn H) W.bs us
 deeds : ∃ us, H dx = some (.lst us) ∧ Paired (DeedIn H) W.ds us
 looks : ∃ us, H lx = some (.lst us) ∧ Paired (LookIn H) W.ls us
 beg : W.bt.At H bv
 goal : W.gt.At H gv
noncomputable def WAt (H : Hp) (W : Wd) (v : V) : Prop := ∃ p bx dx lx bv gv, v = .ref p ∧ H p = some (.tup [.ref bx, .ref dx, .ref lx, bv, gv]) ∧ WLie H W bx dx lx bv gv
theorem WLie.same {H H' : Hp} {W : Wd} {bx dx lx : Addr} {bv gv : V} (s : Same H H') (x : WLie H W bx dx lx bv gv) : WLie H' W bx dx lx bv gv := by
 obtain ⟨u1, e1, p1⟩ := x.boxes
 obtain ⟨u2, e2, p2⟩ := x.deeds
 obtain ⟨u3, e3, p3⟩ := x.looks
 exact ⟨⟨u1, s _ _ e1, xK (qC s) p1⟩, ⟨u2, s _ _ e2, Paired.mapP p2 fun _ _ y => y.same s⟩, ⟨u3, s _ _ e3, Paired.mapP p3 fun _ _ y => y.tups (qC s)⟩, x.beg.mono (qC s), x.goal.mono (qC s)⟩
theorem WAt.same {H H' : Hp} {W : Wd} {v : V} (s : Same H H') (x : WAt H W v) : WAt H' W v := let ⟨p, bx, dx, lx, bv, gv, e, q, l⟩ := x; ⟨p, bx, dx, lx, bv, gv, e, s _ _ q, l.same s⟩
noncomputable def boxesM (nm : List Str) (s : S3) : Nat → List (Str × Int) × Int × S3
 | 0 => ([], 40, s)
 | k + 1 => if 2 + takeV (boxesM nm s k).2.2 4 ≤ (boxesM nm s k).2.1 then ((boxesM nm s k).1 ++ [(nm.getD k "", 2 + takeV (boxesM nm s k).2.2 4)], (boxesM nm s k).2.1 / (2 + takeV (boxesM nm s k).2.2 4), takeS (boxesM nm s k).2.2 4)
  else ((boxesM nm s k).1, (boxesM nm s k).2.1, takeS (boxesM nm s k).2.2 4)
structure BoxesOk (b : List (Str × Int) × Int × S3) (n k : Nat) : Prop where
 len : b.1.length ≤ k
 b25 : ∀ x ∈ b.1, 2 ≤ x.2 ∧ x.2 ≤ 5
 r0 : 0 ≤ b.2.1
 r40 : b.2.1 ≤ 40
 cnt : b.2.2.n = n + k
 ne : 1 ≤ k → b.1 ≠ []
theorem boxesM_ok (nm : List Str) (s : S3) (k : Nat) : BoxesOk (boxesM nm s k) s.n k := by
 induction k with
 | zero => exact ⟨Nat.le_refl _, (fun x hx => nomatch hx), (show (0 : Int) ≤ 40 by decide), (show (40 : Int) ≤ 40 by decide), rfl, fun h => absurd h (by decide)⟩
 | succ k ih =>
  have t := xH (boxesM nm s k).2.2 (m := 4) (by decide)
  have c := ih.cnt
  have r0 := ih.r0
  have r4 := ih.r40
  unfold boxesM
  by_cases g : 2 + takeV (boxesM nm s k).2.2 4 ≤ (boxesM nm s k).2.1
  ·rw [if_pos g]
   refine ⟨?_, fun x hx => ?_, Int.ediv_nonneg ih.r0 (by omega), Int.le_trans (Int.ediv_le_self _ ih.r0) ih.r40, ?_, fun _ z => ?_⟩
   ·show (_ ++ [_]).length ≤ _
    rw [List.length_append]
    have := ih.len
    show _ + 1 ≤ _
    omega
   ·rcases List.mem_append.mp hx with h | h
    ·exact ih.b25 x h
    ·rw [List.mem_singleton.mp h]
     show 2 ≤ 2 + takeV (boxesM nm s k).2.2 4 ∧ 2 + takeV (boxesM nm s k).2.2 4 ≤ 5
     omega
   ·show (boxesM nm s k).2.2.n + 1 = _; omega
   ·exact absurd z (by simp)
  ·rw [if_neg g]
   refine ⟨Nat.le_succ_of_le ih.len, ih.b25, ih.r0, ih.r40, by show (boxesM nm s k).2.2.n + 1 = _; omega, fun _ => ?_⟩
   by_cases k0 : k = 0
   ·subst k0
    exact absurd (show 2 + takeV (boxesM nm s 0).2.2 4 ≤ (boxesM nm s 0).2.1 by show _ ≤ (40 : Int); omega) g
   ·exact ih.ne (by omega)
noncomputable def w0 (ns : List Int) : S3 := stateM (cellM ns 0)
noncomputable def wNm (ns : List Int) : List Str := if takeV (w0 ns) 2 = 0 then ["a", "b", "c"] else ["aa", "ab", "aab"]
noncomputable def wS2 (ns : List Int) : S3 := takeS (takeS (w0 ns) 2) 3
noncomputable def wK (ns : List Int) : Nat := (1 + takeV (takeS (w0 ns) 2) 3).toNat
noncomputable def wB (ns : List Int) (k : Nat) : List (Str × Int) × Int × S3 := boxesM (wNm ns) (wS2 ns) k
noncomputable def wBs (ns : List Int) : List (Str × Int) := (wB ns (wK ns)).1
noncomputable def wS3 (ns : List Int) : S3 := (wB ns (wK ns)).2.2
noncomputable def wS4 (ns : List Int) : S3 := wordsS (wS3 ns)
noncomputable def wS5 (ns : List Int) : S3 := takeS (wS4 ns) 4
noncomputable def wDn (ns : List Int) : Nat := (1 + takeV (wS4 ns) 4).toNat
noncomputable def wDeed (ns : List Int) (k : Nat) : Deed := deedM (wBs ns) (cellM ns (1 + k)) (wordM (wS3 ns) k)
noncomputable def wDs (ns : List Int) (m : Nat) : List Deed := (List.range m).map (wDeed ns)
noncomputable def wLn (ns : List Int) : Nat := (takeV (wS5 ns) 4).toNat
noncomputable def wS6 (ns : List Int) : S3 := takeS (wS5 ns) 4
noncomputable def wLook (ns : List Int) (k : Nat) : Look := ⟨wordM (wS3 ns) (4 + k), 1 + takeV (stateM (cellM ns (5 + k))) 4, (exprM (wBs ns) 2 (takeS (stateM (cellM ns (5 + k))) 4)).1⟩
noncomputable def wLs (ns : List Int) (m : Nat) : List Look := (List.range m).map (wLook ns)
noncomputable def wB0 (ns : List Int) : Th × S3 := condM (wBs ns) 1 (wS6 ns)
noncomputable def wG (ns : List Int) : Th := if 0 < takeV (wB0 ns).2 3 then (condM (wBs ns) 1 (takeS (wB0 ns).2 3)).1 else .nul "yes"
noncomputable def wHold (ns : List Int) : List (List Int) := (allV (wBs ns)).filter fun r => holdsM ((wBs ns).map (·.1)) r (wB0 ns).1
noncomputable def wBt (ns : List Int) : Th := if (wHold ns).isEmpty = true then .nul "yes" else (wB0 ns).1
noncomputable def worldM (ns : List Int) : Wd := ⟨wBs ns, wDs ns (wDn ns), wLs ns (wLn ns), wBt ns, wG ns⟩
theorem wB_ok (ns : List Int) (k : Nat) : BoxesOk (wB ns k) 2 k := boxesM_ok (wNm ns) (wS2 ns) k
theorem wK_bd (ns : List Int) : 1 ≤ wK ns ∧ wK ns ≤ 3 := by
 have := xH (takeS (w0 ns) 2) (m := 3) (by decide)
 unfold wK
 omega
structure WOk (W : Wd) : Prop where
 b1 : W.bs ≠ []
 b3 : W.bs.length ≤ 3
 b25 : ∀ b ∈ W.bs, 2 ≤ b.2 ∧ b.2 ≤ 5
 d1 : W.ds ≠ []
 d4 : W.ds.length ≤ 4
 l3 : W.ls.length ≤ 3
 dn : ∀ d ∈ W.ds, Short d.name
 ln : ∀ l ∈ W.ls, Short l.name
 lp : ∀ l ∈ W.ls, ExprT (W.bs.map (·.1)) l.part ∧ l.part.dep ≤ 3
theorem world_ok (ns : List Int) : WOk (worldM ns) := by
 have k := wK_bd ns
 have b := wB_ok ns (wK ns)
 have t4 := xH (wS4 ns) (m := 4) (by decide)
 have t5 := xH (wS5 ns) (m := 4) (by decide)
 have dn : 1 ≤ wDn ns ∧ wDn ns ≤ 4 := by unfold wDn; omega
 have ll : wLn ns ≤ 3 := by unfold wLn; omega
 refine ⟨b.ne k.1, Nat.le_trans b.len k.2, b.b25, fun z => ?_, ?_, ?_, fun d hd => ?_, fun l hl => ?_, fun l hl => ?_⟩
 ·have : (wDs ns (wDn ns)).length = 0 := congrArg List.length z
  unfold wDs at this
  rw [List.length_map, List.length_range] at this
  omega
 ·show (wDs ns (wDn ns)).length ≤ 4
  unfold wDs
  rw [List.length_map, List.length_range]; exact dn.2
 ·show (wLs ns (wLn ns)).length ≤ 3
  unfold wLs
  rw [List.length_map, List.length_range]; exact ll
 ·obtain ⟨i, _, rfl⟩ := List.mem_map.mp hd
  exact kT _ _
 ·obtain ⟨i, _, rfl⟩ := List.mem_map.mp hl
  exact kT _ _
 ·obtain ⟨i, _, rfl⟩ := List.mem_map.mp hl
  exact kO (b.ne k.1) 2 _
theorem wO {α : Type} {F : Hp → α → V → Prop} (mono : ∀ {H H' : Hp}, Tups H H' → ∀ x u, F H x u → F H' x u) {σ : St} {H : Hp} {Q : VK} {js : List Nat} {tt : TT} {a : Addr} {us : List V} {rows : List α} {p : α → Bool} (ea : H a = some (.lst us)) (pr : Paired (F H) rows us) (hl : rows.length ≤ 100000)
  (htt : ∀ (u : V) (row : α) (H' : Hp) (R : Bool → Hp → Prop), row ∈ rows → F H' row u → Same H H' → (∀ H'', Same H' H'' → R (p row) H'') → tt ([some u] ++ frees js σ) H' R)
  (q : ∀ (D : Addr) (ys : List V) (H' : Hp), H D = none → Same H H' → H' D = some (.lst ys) → Paired (F H') (rows.filter p) ys → Q (.ref D) H') :
  rdC 1 js (gName 0) tt (tVar 0) (Itl K a) σ H Q := by
 have lr := pr.length
 refine jP (xs := us) (fun D i ys H' => Paired (F H') ((rows.take i).filter p) ys ∧ ∀ b o, H b = some o → H' b = some o) (fun D hD => ⟨.nil, qV hD _⟩)
  (fun D i ys H' _ hP => SqL.of (hP.2 _ _ ea)) (fun D i x ys H' N hD hDy ex hP hN => ?_) (fun D ys H5 hD hDy hP => ?_)
 ·obtain ⟨pl, hk⟩ := hP
  have hi : i < rows.length := by rw [lr]; exact (List.getElem?_eq_some_iff.mp ex).1
  obtain ⟨row, erow⟩ : ∃ b, rows[i]? = some b := ⟨_, List.getElem?_eq_getElem hi⟩
  have hra := mono (qC (show Same H H' from hk)) _ _ (xV pr erow ex)
  have ll := pl.length
  have lf : ((rows.take i).filter p).length ≤ i := Nat.le_trans (List.length_filter_le _ _) (by rw [List.length_take]; omega)
  refine ⟨⟨[some x], rfl, rfl⟩, ?_⟩
  refine htt x row H' _ (List.mem_of_getElem? erow) hra hk fun H4 S4 => ?_
  have eD := S4 _ _ hDy
  have fs := vI (p := p) erow
  cases e : p row with
  | false =>
   refine iteF (hN _ _ eD ⟨?_, fun b o z => S4 _ _ (hk _ _ z)⟩)
   rw [fs, e, if_neg Bool.false_ne_true, List.append_nil]
   exact Paired.mapP pl (mono (qC S4))
  | true =>
   refine iteT ⟨_, rfl, eD, small2 (by omega), hN _ _ qW ⟨?_, fun b o z => ?_⟩⟩
   ·have T4 : Tups H' (upd H4 D (.lst (ys ++ [x]))) := fun b xs z => by rw [qA (yI z hDy (by intro z; cases z))]; exact S4 _ _ z
    rw [fs, e, if_pos rfl]
    exact Paired.snoc (Paired.mapP pl (mono T4)) (mono T4 _ _ hra)
   ·rw [qA (qB z hD)]; exact S4 _ _ (hk _ _ z)
 obtain ⟨pl, hk⟩ := hP
 rw [← lr, List.take_length] at pl
 exact q D ys H5 hD hk hDy pl
theorem words_at {s : S3} {i : Nat} (h : i < 7) : atI (strsV (wordsM s 7)) (i : Int) = some (.str (wordM s i)) := zI (by
 show ((wordsM s 7).map V.str)[i]? = _
 unfold wordsM
 rw [List.getElem?_map, List.getElem?_map, List.getElem?_range h]; rfl)
theorem abc_at {ns : List Int} {i : Nat} (h : i < 3) : atI (strsV (wNm ns)) (0 + (i : Int)) = some (.str ((wNm ns).getD i "")) := by
 rw [Int.zero_add]
 refine zI ?_
 have l : (wNm ns).length = 3 := by unfold wNm; split <;> rfl
 show ((wNm ns).map V.str)[i]? = _
 rw [List.getElem?_map, List.getD_eq_getElem?_getD, List.getElem?_eq_getElem (by omega)]
 rfl
theorem xI : FnScope ["script", "state", "names", "boxes", "room", "k", "size", "words", "deeds", "looks", "own", "begin", "goal"] ["script"] (xB (top 31)) := ⟨rfl, rfl, rfl, by decide +kernel, rfl, by decide +kernel, by decide +kernel⟩
theorem yR : CompOk (xB (top 31)) ["script", "state", "names", "boxes", "room", "k", "size", "words", "deeds", "looks", "own", "begin", "goal"] (scAt (xC (top 31)) [13] [0]) ["one", "begin", "boxes"] 1 [11, 3] :=
 ⟨by decide +kernel, by decide +kernel, by decide +kernel, by decide +kernel, by decide +kernel, by decide +kernel, by decide +kernel, by decide +kernel⟩
noncomputable def spWorld (K : PySem.W.Frag) : Sp := fun vs H Q _ => ∃ (a : Addr) (ns : List Int), vs = [.ref a] ∧ SqL K H a (intsV ns) ∧ ∀ (v : V) (H' : Hp), Same H H' → WAt H' (worldM ns) v → Q v H'
theorem dn_world (F : Fd K mg "_law_world" (top 31) ["script"]) (B : Bl mg) (D_law_cell : Dn P w K mg base "_law_cell" 1 ["script", "k"] (spCell K)) (D_law_state : Dn P w K mg base "_law_state" 1 ["cell"] spState) (D_law_take : Dn P w K mg base "_law_take" 2 ["state", "many"] spTake)
  (D_law_words : Dn P w K mg base "_law_words" 3 ["state", "many"] spWords) (D_law_deed : Dn P w K mg base "_law_deed" 10 ["cell", "name", "boxes"] spDeedM) (D_law_expression : Dn P w K mg base "_law_expression" 6 ["state", "boxes", "deep"] (spExprM 3)) (D_law_condition : Dn P w K mg base "_law_condition" 9 ["state", "boxes", "deep"] (spCondM 3))
  (D_law_standings : Dn P w K mg base "_law_standings" 1 ["boxes"] spStands) (D_law_holds : Dn P w K mg base "_law_holds" 17 ["c", "boxes", "standing"] (spHoldsM 8)) : Dn P w K mg base "_law_world" 18 ["script"] (spWorld K) := by
 refine F.ok xI (fun vs H Q E h => ?_) (fun f cdv A outer s H vs Q E hr h => ?_)
 ·obtain ⟨_, _, rfl, _⟩ := h
  rfl
 obtain ⟨a, ns, rfl, hS, q⟩ := h
 refine ⟨_, (qZ (qN (i := 1) xI.nd rfl (by wtm_at "zo") (qD D_law_state hr (qQ (qD D_law_cell hr (qQ (pv 0) (qQ qF qX))) qX)))
  (qZ (qN (i := 2) xI.nd rfl (by wtm_at "zo") (xG (qU (K := K)) (xP (qQ (xP (qQ qG (qQ qG (qQ qG qX)))) (qQ (xP (qQ qG (qQ qG (qQ qG qX)))) qX))) (qD D_law_take hr (qQ (pv 1) (qQ qF qX))) (fun _ _ => rfl)))
  (qZ (qN (i := 3) xI.nd rfl (by wtm_at "zo") (xP qX))
  (qZ (qN (i := 4) xI.nd rfl (by wtm_at "zo") qF)
  (qZ (zT PassesOwn.never rfl (zC rfl B.range' (qQ (xX zV qF (qD D_law_take hr (qQ (pv 1) (qQ qF qX)))) qX)) (qH (i := 5) xI.nd rfl (by wtm_at "zo")) (qZ (qN (i := 6) xI.nd rfl (by wtm_at "zo") (xX zV qF (qD D_law_take hr (qQ (pv 1) (qQ qF qX)))))
  (qJ (zJ (qS op_le (pv 6) (pv 4) (xE _)) (qZ (qR (yV (K := K) PySem.F.plainAttrs_list PySem.F.slot_list_append PySem.F.type_list_append zF (pv 3) (qQ (xN (qQ (xG (qU (K := K)) (pv 2) (pv 5) (fun _ _ => rfl)) (qQ (pv 6) qX))) qX)))
  (qJ (qN (i := 4) xI.nd rfl (by wtm_at "zo") (xX op_fdivB (pv 4) (pv 6))))) qY))))
  (qZ (qN (i := 7) xI.nd rfl (by wtm_at "zo") (qD D_law_words hr (qQ (pv 1) (qQ qF qX))))
  (qZ (qN (i := 8) xI.nd rfl (by wtm_at "zo") (xP qX))
  (qZ (zT PassesOwn.never rfl (zC rfl B.range' (qQ (xX zV qF (qD D_law_take hr (qQ (pv 1) (qQ qF qX)))) qX)) (qH (i := 5) xI.nd rfl (by wtm_at "zo")) (qJ (qR (yV (K := K) PySem.F.plainAttrs_list PySem.F.slot_list_append PySem.F.type_list_append zF (pv 8) (qQ (qD D_law_deed hr (qQ (qD D_law_cell hr (qQ (pv 0) (qQ (xX zV qF (pv 5)) qX))) (qQ (xG (qU (K := K)) (pv 7) (pv 5) (fun _ _ => rfl)) (qQ (pv 3) qX)))) qX)))))
  (qZ (qN (i := 9) xI.nd rfl (by wtm_at "zo") (xP qX))
  (qZ (zT PassesOwn.never rfl (zC rfl B.range' (qQ (qD D_law_take hr (qQ (pv 1) (qQ qF qX))) qX)) (qH (i := 5) xI.nd rfl (by wtm_at "zo")) (qZ (qN (i := 10) xI.nd rfl (by wtm_at "zo") (qD D_law_state hr (qQ (qD D_law_cell hr (qQ (pv 0) (qQ (xX zV qF (pv 5)) qX))) qX)))
  (qJ (qR (yV (K := K) PySem.F.plainAttrs_list PySem.F.slot_list_append PySem.F.type_list_append zF (pv 9) (qQ (xN (qQ (xG (qU (K := K)) (pv 7) (xX zV qF (pv 5)) (fun _ _ => rfl)) (qQ (xX zV qF (qD D_law_take hr (qQ (pv 10) (qQ qF qX)))) (qQ (qD D_law_expression hr (qQ (pv 10) (qQ (pv 3) (qQ qF qX)))) qX)))) qX))))))
  (qZ (qN (i := 11) xI.nd rfl (by wtm_at "zo") (qD D_law_condition hr (qQ (pv 1) (qQ (pv 3) (qQ qF qX)))))
  (qZ (qN (i := 12) xI.nd rfl (by wtm_at "zo") (xN (qQ qG qX)))
  (qK (zJ (qS op_gt (qD D_law_take hr (qQ (pv 1) (qQ qF qX))) qF (xE _)) (qJ (qN (i := 12) xI.nd rfl (by wtm_at "zo") (qD D_law_condition hr (qQ (pv 1) (qQ (pv 3) (qQ qF qX)))))) qY)
  (qK (zJ (qS (op_eqEK (K := K) hr.units) (jZ rfl yR (xQ (K := K) (qD D_law_standings hr (qQ (pv 3) qX))) (fun cl fp s H => (qH (i := 0) yR.nd rfl (Or.inl rfl) (.inr rfl))) (fun cl fp s H => (pts_one (wA (qD D_law_holds hr (qQ (pv 1) (qQ (pv 2) (qQ (pv 0) qX))))))) (fun cl fp s H => (pv 0))) (xP qX) (xE _)) (qJ (qN (i := 11) xI.nd rfl (by wtm_at "zo") (xN (qQ qG qX)))) qY)
  (qJ (qO (xN (qQ (pv 3) (qQ (pv 8) (qQ (pv 9) (qQ (pv 11) (qQ (pv 12) qX)))))))))))))))))))))), ?_⟩
 wtm_at "zw"
 refine ⟨a, ns, 0, rfl, hS, ?_⟩
 wtm_at "zw"
 refine ⟨cellM ns 0, rfl, fun p H1 np S1 e1 => ?_⟩
 wtm_at "zw"
 refine ⟨xF (show 3 ≤ 1000000 by decide), fun l1 hl1 => ?_⟩
 have S2 : Same H1 (upd H1 l1 (.lst [.str "a", .str "b", .str "c"])) := qV hl1 _
 have el1 : upd H1 l1 (.lst [.str "a", .str "b", .str "c"]) l1 = some (.lst [.str "a", .str "b", .str "c"]) := qW
 have n1 : l1 ≠ p := Ne.symm (qB (show H1 p = some _ from e1) hl1)
 generalize upd H1 l1 (.lst [.str "a", .str "b", .str "c"]) = H2 at S2 el1
 wtm_at "zw"
 refine ⟨xF (show 3 ≤ 1000000 by decide), fun l2 hl2 => ?_⟩
 have S3' : Same H2 (upd H2 l2 (.lst [.str "aa", .str "ab", .str "aab"])) := qV hl2 _
 have el2 : upd H2 l2 (.lst [.str "aa", .str "ab", .str "aab"]) l2 = some (.lst [.str "aa", .str "ab", .str "aab"]) := qW
 have n2 : l2 ≠ p := Ne.symm (qB (S2 _ _ (show H1 p = some _ from e1)) hl2)
 generalize upd H2 l2 (.lst [.str "aa", .str "ab", .str "aab"]) = H3 at S3' el2
 wtm_at "zw"
 refine ⟨xF (show 2 ≤ 1000000 by decide), fun l3 hl3 => ?_⟩
 have S4 : Same H3 (upd H3 l3 (.lst [.ref l1, .ref l2])) := qV hl3 _
 have el3 : upd H3 l3 (.lst [.ref l1, .ref l2]) l3 = some (.lst [.ref l1, .ref l2]) := qW
 have n3 : l3 ≠ p := Ne.symm (qB (S3' _ _ (S2 _ _ (show H1 p = some _ from e1))) hl3)
 generalize upd H3 l3 (.lst [.ref l1, .ref l2]) = H4 at S4 el3
 have S14 := S2.trans (S3'.trans S4)
 wtm_at "zw"
 refine ⟨p, w0 ns, 2, rfl, S14 _ _ e1, by decide, by decide +kernel, by show 0 ≤ _; omega, fun H5 B5 e5 => ?_⟩
 have S05 : Same H H5 := zZ (S1.trans S14) np B5
 have tb := xH (w0 ns) (m := 2) (by decide)
 have el3' := B5 _ _ n3 el3
 obtain ⟨nA, hat, enA, nAp⟩ : ∃ nA, atI [V.ref l1, .ref l2] (takeV (w0 ns) 2) = some (.ref nA) ∧ H5 nA = some (.lst (strsV (wNm ns))) ∧ nA ≠ p := by
  have c : takeV (w0 ns) 2 = 0 ∨ takeV (w0 ns) 2 = 1 := by omega
  rcases c with c | c
  ·refine ⟨l1, by rw [c]; rfl, ?_, n1⟩
   unfold wNm; rw [if_pos c]
   exact B5 _ _ n1 (S4 _ _ (S3' _ _ el1))
  ·refine ⟨l2, by rw [c]; rfl, ?_, n2⟩
   unfold wNm; rw [if_neg (by omega)]
   exact B5 _ _ n2 (S4 _ _ el2)
 clear el1 el2 hl1 hl2 hl3 S2 S3' S4 el3
 wtm_at "zw"
 refine ⟨xF (show 0 ≤ 1000000 by decide), fun bx hbx => ?_⟩
 have S6 : Same H5 (upd H5 bx (.lst [])) := qV hbx _
 have ebx : upd H5 bx (.lst []) bx = some (.lst []) := qW
 have nbp : p ≠ bx := qB (show H5 p = some _ from e5) hbx
 have nAb : nA ≠ bx := qB enA hbx
 have hb0 : H bx = none := S05.free hbx
 generalize upd H5 bx (.lst []) = H6 at S6 ebx
 have S06 := S05.trans S6
 wtm_at "zf"
 refine ⟨p, takeS (w0 ns) 2, 3, rfl, S6 _ _ e5, by decide, by decide +kernel, by show 1 ≤ _; omega, fun H7 B7 e7 => ?_⟩
 have t3 := xH (takeS (w0 ns) 2) (m := 3) (by decide)
 wtm_at "zw"
 refine ⟨1 + takeV (takeS (w0 ns) 2) 3, rfl, by omega, by omega, ?_⟩
 have hnA : Keep [p, bx] H5 H7 := (Keep.of S6).trans (.but1 B7 (by simp))
 refine zP (fun i σ' H' => ∃ (z5 z6 : Option V) (us : List V), σ' = [some (.ref a), some (.ref p), some (.ref nA), some (.ref bx), some (.int (wB ns i).2.1), z5, z6, none, none, none, none, none, none] ∧ Keep [p, bx] H5 H' ∧ St3 H' p (wB ns i).2.2 ∧ H' bx = some (.lst us) ∧ Paired (BoxIn H') (wB ns i).1 us)
  ⟨none, none, [], rfl, hnA, e7, B7 _ _ (Ne.symm nbp) ebx, .nil⟩ ?_ ?_
 ·rintro N rt bk i σ' H8 hi ⟨z5, z6, us, rfl, k8, e8, ebx8, pb8⟩ hN
  have i3 : i < 3 := by omega
  have ok := wB_ok ns i
  have okn := ok.cnt
  have enm8 := k8 nA _ (by simp [nAp, nAb]) enA
  have hat8 := abc_at (ns := ns) i3
  have lus := pb8.length
  have lbi := ok.len
  wtm_at "zw"
  refine ⟨p, (wB ns i).2.2, 4, rfl, e8, by decide, by decide +kernel, by omega, fun H9 B9 e9 => ?_⟩
  have t4 := xH (wB ns i).2.2 (m := 4) (by decide)
  have k9 := k8.trans (.but1 B9 (by simp))
  have ebx9 := B9 _ _ (Ne.symm nbp) ebx8
  have enm9 := k9 nA _ (by simp [nAp, nAb]) enA
  have pb9 := xK (xR B9 e8) pb8
  have step : wB ns (i + 1) = if 2 + takeV (wB ns i).2.2 4 ≤ (wB ns i).2.1 then ((wB ns i).1 ++ [((wNm ns).getD i "", 2 + takeV (wB ns i).2.2 4)], (wB ns i).2.1 / (2 + takeV (wB ns i).2.2 4), takeS (wB ns i).2.2 4) else ((wB ns i).1, (wB ns i).2.1, takeS (wB ns i).2.2 4) := rfl
  wtm_at "zw"
  by_cases g : 2 + takeV (wB ns i).2.2 4 ≤ (wB ns i).2.1
  ·rw [if_pos g] at step
   rw [decide_eq_true g]
   refine iteT ?_
   wtm_at "zw"
   refine ⟨.inl ⟨rfl, _, SqL.of ebx9⟩, ?_⟩
   wtm_at "zw"
   refine ⟨xF (show 2 ≤ 1000000 by decide), fun t ht => ?_⟩
   have S10 := qV ht (.tup [V.str ((wNm ns).getD i ""), .int (2 + takeV (wB ns i).2.2 4)])
   have et : upd H9 t (.tup [V.str ((wNm ns).getD i ""), .int (2 + takeV (wB ns i).2.2 4)]) t = some _ := qW
   generalize upd H9 t (.tup [V.str ((wNm ns).getD i ""), .int (2 + takeV (wB ns i).2.2 4)]) = H10 at S10 et
   have ebx10 := S10 _ _ ebx9
   refine ⟨bx, us, .ref t, rfl, rfl, ebx10, small (by omega), ?_⟩
   have T11 : Tups H10 (upd H10 bx (.lst (us ++ [.ref t]))) := zE ebx10
   have k11 : Keep [p, bx] H5 (upd H10 bx (.lst (us ++ [.ref t]))) := (k9.trans (.of S10)).trans (.upd (by simp))
   have e11 : St3 (upd H10 bx (.lst (us ++ [.ref t]))) p (takeS (wB ns i).2.2 4) := by
    show upd _ _ _ _ = _
    rw [qA nbp]; exact S10 _ _ e9
   have ebx11 : upd H10 bx (.lst (us ++ [.ref t])) bx = some _ := qW
   generalize upd H10 bx (.lst (us ++ [.ref t])) = H11 at T11 k11 e11 ebx11
   wtm_at "zw"
   refine w_I ⟨by omega, big _ (by omega) (Int.lt_of_le_of_lt (b := 10) (by omega) (by decide +kernel))⟩ ?_
   wtm_at "zw"
   refine hN _ _ ⟨_, _, us ++ [.ref t], by rw [step]; rfl, k11, by rw [step]; exact e11, ebx11, ?_⟩
   rw [step]
   exact Paired.snoc (xK T11 (xK (qC S10) pb9)) ⟨t, rfl, T11 _ _ et⟩
  ·rw [if_neg g] at step
   rw [decide_eq_false g]
   refine iteF ?_
   wtm_at "zw"
   exact hN _ _ ⟨_, _, us, by rw [step]; rfl, k9, by rw [step]; exact e9, ebx9, by rw [step]; exact pb9⟩
 rintro σ' H8 ⟨z5, z6, us, rfl, k8, e8, ebx8, pb8⟩
 have e8 : St3 H8 p (wS3 ns) := e8
 have pb8 : Paired (BoxIn H8) (wBs ns) us := pb8
 have kK := wK_bd ns
 have okB := wB_ok ns (wK ns)
 have n3' : (wS3 ns).n = 2 + wK ns := okB.cnt
 have S08 : Same H H8 := k8.same S05 (by intro d hd; simp at hd; rcases hd with rfl | rfl; exact np; exact hb0)
 have hB8 : Bx H8 bx (wBs ns) := ⟨⟨us, ebx8, pb8⟩, okB.ne kK.1, Nat.le_trans okB.len kK.2⟩
 clear k8 hnA B7 e7 S6 S06 ebx enA hat el3' S14 B5 S1 e1
 wtm_at "zw"
 refine ⟨p, wS3 ns, 7, rfl, e8, by omega, by decide, fun wd H9 nwd B9 e9 ewd => ?_⟩
 have hB9 := hB8.but1 e8 B9
 have S09 : Same H H9 := zZ S08 np B9
 have e9 : St3 H9 p (wS4 ns) := e9
 have nwp : wd ≠ p := Ne.symm (qB (show H8 p = some _ from e8) nwd)
 have n4 : (wS4 ns).n = (wS3 ns).n + 4 := rfl
 wtm_at "zw"
 refine ⟨xF (show 0 ≤ 1000000 by decide), fun dx hdx => ?_⟩
 have S10 : Same H9 (upd H9 dx (.lst [])) := qV hdx _
 have edx : upd H9 dx (.lst []) dx = some (.lst []) := qW
 have ndp : p ≠ dx := qB (show H9 p = some _ from e9) hdx
 have hd0 : H dx = none := S09.free hdx
 have nbd : bx ≠ dx := hB9.there hdx
 have nwd' : wd ≠ dx := qB ewd hdx
 generalize upd H9 dx (.lst []) = H10 at S10 edx
 wtm_at "zf"
 refine ⟨p, wS4 ns, 4, rfl, S10 _ _ e9, by decide, by decide +kernel, by omega, fun H11 B11 e11 => ?_⟩
 have t4 := xH (wS4 ns) (m := 4) (by decide)
 have e11 : St3 H11 p (wS5 ns) := e11
 have n5 : (wS5 ns).n = (wS3 ns).n + 5 := rfl
 have S911 : ∀ b o, b ≠ p → b ≠ dx → H9 b = some o → H11 b = some o := fun b o m1 _ e => B11 b o m1 (S10 _ _ e)
 have hB11 : Bx (hideL [p, dx] H11) bx (wBs ns) := by
  obtain ⟨⟨us, eu, pu⟩, b2, b3⟩ := hB9
  have T : Tups H9 (hideL [p, dx] H11) := fun b xs e => zR (by
   have m1 : b ≠ p := yI e e9 (by intro z; cases z)
   have m2 : b ≠ dx := qB e hdx
   simp [m1, m2]) (S911 b _ (yI e e9 (by intro z; cases z)) (qB e hdx) e)
  have m1 : bx ≠ p := Ne.symm nbp
  exact ⟨⟨us, zR (by simp [m1, nbd]) (S911 _ _ m1 nbd eu), xK T pu⟩, b2, b3⟩
 wtm_at "zw"
 refine ⟨1 + takeV (wS4 ns) 4, rfl, by omega, by omega, ?_⟩
 have K911 : Keep [p, dx] H9 H11 := fun b o m e => by
  simp at m
  exact S911 b o m.1 m.2 e
 refine zP (fun i σ' H' => ∃ (z5 : Option V) (du : List V), σ' = [some (.ref a), some (.ref p), some (.ref nA), some (.ref bx), some (.int (wB ns (wK ns)).2.1), z5, z6, some (.ref wd), some (.ref dx), none, none, none, none] ∧ Keep [p, dx] H11 H' ∧ St3 H' p (wS5 ns) ∧ H' dx = some (.lst du) ∧ Paired (DeedIn (hideL [p, dx] H')) (wDs ns i) du)
  ⟨z5, [], rfl, .refl, e11, B11 _ _ (Ne.symm ndp) edx, .nil⟩ ?_ ?_
 ·rintro N rt bk i σ' H12 hi ⟨z5, du, rfl, k12, e12, edx12, pd12⟩ hN
  have i4 : i < 4 := by omega
  have k912 := K911.trans k12
  have S012 := k912.same S09 (by intro d hd; simp at hd; rcases hd with rfl | rfl; exact np; exact hd0)
  have ewd12 := k912 wd _ (by simp [nwp, nwd']) ewd
  have hw12 : atI (strsV (wordsM (wS3 ns) 7)) (0 + (i : Int)) = some (.str (wordM (wS3 ns) i)) := by rw [Int.zero_add]; exact words_at (by omega)
  have hB12 : Bx H12 bx (wBs ns) := (hB11.same k12.hide).same zO
  have lp := pd12.length
  have ld : (wDs ns i).length = i := by unfold wDs; rw [List.length_map, List.length_range]
  wtm_at "zw"
  refine ⟨.inl ⟨rfl, _, SqL.of edx12⟩, ?_⟩
  wtm_at "zw"
  refine ⟨a, ns, 1 + i, by rw [show (1 + (0 + (i : Int))) = ((1 + i : Nat) : Int) by omega]; rfl, S012.seq hS, ?_⟩
  wtm_at "zw"
  refine ⟨cellM ns (1 + i), wordM (wS3 ns) i, bx, wBs ns, rfl, hB12, fun t wa nv wu H13 S13 et nat fw ewa fwu pw => ?_⟩
  have edx13 := S13 _ _ edx12
  refine ⟨dx, du, .ref t, rfl, rfl, edx13, small (by omega), ?_⟩
  have T14 : Tups H13 (hideL [p, dx] (upd H13 dx (.lst (du ++ [.ref t])))) := fun b xs e => by
   have m1 : b ≠ p := yI e (S13 _ _ e12) (by intro z; cases z)
   have m2 : b ≠ dx := yI e edx13 (by intro z; cases z)
   exact zR (by simp [m1, m2]) (by rw [qA m2]; exact e)
  have U14 : ∀ b o, H12 b = none → H13 b = some o → hideL [p, dx] (upd H13 dx (.lst (du ++ [.ref t]))) b = some o := fun b o n e => by
   have m1 : b ≠ p := fun z => by rw [z, (show H12 p = some _ from e12)] at n; cases n
   have m2 : b ≠ dx := fun z => by rw [z, edx12] at n; cases n
   exact zR (by simp [m1, m2]) (by rw [qA m2]; exact e)
  have k14 : Keep [p, dx] H12 (upd H13 dx (.lst (du ++ [.ref t]))) := (Keep.of S13).trans (.upd (by simp))
  have e14 : St3 (upd H13 dx (.lst (du ++ [.ref t]))) p (wS5 ns) := by
   show upd _ _ _ _ = _
   rw [qA ndp]; exact S13 _ _ e12
  have edx14 : upd H13 dx (.lst (du ++ [.ref t])) dx = some _ := qW
  generalize upd H13 dx (.lst (du ++ [.ref t])) = H14 at T14 U14 k14 e14 edx14
  refine hN _ _ ⟨_, du ++ [.ref t], rfl, k12.trans k14, e14, edx14, ?_⟩
  have es : wDs ns (i + 1) = wDs ns i ++ [wDeed ns i] := by unfold wDs; rw [List.range_succ, List.map_append]; rfl
  rw [es]
  refine Paired.snoc (Paired.mapP pd12 fun _ _ y => y.same k14.hide) ?_
  refine ⟨t, nv, wa, wu, rfl, T14 _ _ et, nat.mono T14, U14 _ _ fw ewa, FP.Paired.mapP' pw fun wy u hu y => ?_⟩
  obtain ⟨ya, cs, rfl, eya, pc⟩ := y
  exact ⟨ya, cs, rfl, U14 _ _ (fwu ya hu) eya, Paired.mapP pc fun _ _ c => c.tups T14⟩
 rintro σ' H12 ⟨z5, du, rfl, k12, e12, edx12, pd12⟩
 have pd12 : Paired (DeedIn (hideL [p, dx] H12)) (wDs ns (wDn ns)) du := pd12
 have k912 := K911.trans k12
 have S012 := k912.same S09 (by intro d hd; simp at hd; rcases hd with rfl | rfl; exact np; exact hd0)
 have ewd12 := k912 wd _ (by simp [nwp, nwd']) ewd
 have hBh := hB11.same k12.hide
 clear K911 k12 k912 hB11 S911 B11 e11 S10 edx hB9 hB8
 have D12 : Paired (DeedIn (hideL [p] H12)) (wDs ns (wDn ns)) du := Paired.mapP pd12 fun _ _ y => y.same fun b o e => by
  have e2 := zO _ _ e
  refine zR (fun m => ?_) e2
  unfold hideL at e
  rw [if_pos (List.mem_cons.mpr (.inl (List.mem_singleton.mp m)))] at e
  cases e
 have B12 : Bx (hideL [p] H12) bx (wBs ns) := hBh.same fun b o e => by
  have e2 := zO _ _ e
  refine zR (fun m => ?_) e2
  unfold hideL at e
  rw [if_pos (List.mem_cons.mpr (.inl (List.mem_singleton.mp m)))] at e
  cases e
 have X12 : hideL [p] H12 dx = some (.lst du) := zR (by simp [Ne.symm ndp]) edx12
 clear pd12 hBh edx12
 wtm_at "zw"
 refine ⟨xF (show 0 ≤ 1000000 by decide), fun lx hlx => ?_⟩
 have S13 : Same H12 (upd H12 lx (.lst [])) := qV hlx _
 have elx : upd H12 lx (.lst []) lx = some (.lst []) := qW
 have nlp : p ≠ lx := qB (show H12 p = some _ from e12) hlx
 have hl0 : H lx = none := S012.free hlx
 have nwl : wd ≠ lx := qB ewd12 hlx
 generalize upd H12 lx (.lst []) = H13 at S13 elx
 have N12 : hideL [p] H12 lx = none := by
  unfold hideL; rw [if_neg (by simp [Ne.symm nlp])]; exact hlx
 wtm_at "zf"
 refine ⟨p, wS5 ns, 4, rfl, S13 _ _ e12, by decide, by decide +kernel, by omega, fun H14 B14 e14 => ?_⟩
 have t5 := xH (wS5 ns) (m := 4) (by decide)
 have e14 : St3 H14 p (wS6 ns) := e14
 have n6 : (wS6 ns).n = (wS3 ns).n + 6 := rfl
 have K14 : Keep [p, lx] H12 H14 := fun b o m e => by
  simp at m
  exact B14 b o m.1 (S13 _ _ e)
 wtm_at "zw"
 refine ⟨takeV (wS5 ns) 4, rfl, by omega, by omega, ?_⟩
 refine zP (fun i σ' H' => ∃ (z5 z10 : Option V) (lu : List V), σ' = [some (.ref a), some (.ref p), some (.ref nA), some (.ref bx), some (.int (wB ns (wK ns)).2.1), z5, z6, some (.ref wd), some (.ref dx), some (.ref lx), z10, none, none] ∧ Keep [p, lx] H12 H' ∧ St3 H' p (wS6 ns) ∧ H' lx = some (.lst lu) ∧ Paired (LookIn H') (wLs ns i) lu)
  ⟨z5, none, [], rfl, K14, e14, B14 _ _ (Ne.symm nlp) elx, .nil⟩ ?_ ?_
 ·rintro N rt bk i σ' H15 hi ⟨z5, z10, lu, rfl, k15, e15, elx15, pl15⟩ hN
  have i4 : i < 4 := by omega
  have S015 := k15.same S012 (by intro d hd; simp at hd; rcases hd with rfl | rfl; exact np; exact hl0)
  have ewd15 := k15 wd _ (by simp [nwp, nwl]) ewd12
  have hw15 : atI (strsV (wordsM (wS3 ns) 7)) (4 + (0 + (i : Int))) = some (.str (wordM (wS3 ns) (4 + i))) := by
   rw [show (4 + (0 + (i : Int))) = ((4 + i : Nat) : Int) by omega]; exact words_at (by omega)
  have lp := pl15.length
  have ld : (wLs ns i).length = i := by unfold wLs; rw [List.length_map, List.length_range]
  have SH : Same (hideL [p] H12) H15 := fun b o e => by
   have m1 : b ≠ p := fun z => by unfold hideL at e; rw [if_pos (by simp [z])] at e; cases e
   have m2 : b ≠ lx := fun z => by rw [z, N12] at e; cases e
   exact k15 b o (by simp [m1, m2]) (zO _ _ e)
  have hB15 := B12.same SH
  wtm_at "zw"
  refine ⟨a, ns, 5 + i, by rw [show (5 + (0 + (i : Int))) = ((5 + i : Nat) : Int) by omega]; rfl, S015.seq hS, ?_⟩
  wtm_at "zw"
  refine ⟨cellM ns (5 + i), rfl, fun o H16 no S16 e16 => ?_⟩
  have ewd16 := S16 _ _ ewd15
  have elx16 := S16 _ _ elx15
  have nol : o ≠ lx := Ne.symm (qB elx15 no)
  have nop : o ≠ p := Ne.symm (qB (show H15 p = some _ from e15) no)
  wtm_at "zw"
  refine ⟨.inl ⟨rfl, _, SqL.of elx16⟩, ?_⟩
  wtm_at "zw"
  refine ⟨o, stateM (cellM ns (5 + i)), 4, rfl, e16, by decide, by decide +kernel, by show 0 ≤ _; omega, fun H17 B17 e17 => ?_⟩
  have hB17 := (hB15.same S16).but1 e16 B17
  wtm_at "zw"
  refine ⟨o, bx, wBs ns, _, 2, rfl, e17, hB17, by decide, by show 1 + 12 ≤ _; omega, fun v H18 B18 e18 a18 => ?_⟩
  have B1618 := B17.trans B18
  have S1518 : Same H15 H18 := zZ S16 no B1618
  wtm_at "zw"
  refine ⟨xF (show 3 ≤ 1000000 by decide), fun t ht => ?_⟩
  have S19 := qV ht (.tup [V.str (wordM (wS3 ns) (4 + i)), .int (1 + takeV (stateM (cellM ns (5 + i))) 4), v])
  have et : upd H18 t (.tup [V.str (wordM (wS3 ns) (4 + i)), .int (1 + takeV (stateM (cellM ns (5 + i))) 4), v]) t = some _ := qW
  generalize upd H18 t (.tup [V.str (wordM (wS3 ns) (4 + i)), .int (1 + takeV (stateM (cellM ns (5 + i))) 4), v]) = H19 at S19 et
  have S1519 := S1518.trans S19
  have elx19 := S1519 _ _ elx15
  have a19 := Th.At.mono (qC S19) a18
  refine ⟨lx, lu, .ref t, rfl, rfl, elx19, small (by omega), ?_⟩
  have T20 : Tups H19 (upd H19 lx (.lst (lu ++ [.ref t]))) := zE elx19
  have k20 : Keep [p, lx] H15 (upd H19 lx (.lst (lu ++ [.ref t]))) := (Keep.of S1519).trans (.upd (by simp))
  have e20 : St3 (upd H19 lx (.lst (lu ++ [.ref t]))) p (wS6 ns) := by
   show upd _ _ _ _ = _
   rw [qA nlp]; exact S1519 _ _ e15
  have elx20 : upd H19 lx (.lst (lu ++ [.ref t])) lx = some _ := qW
  generalize upd H19 lx (.lst (lu ++ [.ref t])) = H20 at T20 k20 e20 elx20
  refine hN _ _ ⟨_, _, lu ++ [.ref t], rfl, k15.trans k20, e20, elx20, ?_⟩
  have es : wLs ns (i + 1) = wLs ns i ++ [wLook ns i] := by unfold wLs; rw [List.range_succ, List.map_append]; rfl
  rw [es]
  exact Paired.snoc (Paired.mapP pl15 fun _ _ y => (y.tups (qC S1519)).tups T20) ⟨t, v, rfl, T20 _ _ et, a19.mono T20⟩
 rintro σ' H15 ⟨z5, z10, lu, rfl, k15, e15, elx15, pl15⟩
 have pl15 : Paired (LookIn H15) (wLs ns (wLn ns)) lu := pl15
 have SH : Same (hideL [p] H12) H15 := fun b o e => by
  have m1 : b ≠ p := fun z => by unfold hideL at e; rw [if_pos (by simp [z])] at e; cases e
  have m2 : b ≠ lx := fun z => by rw [z, N12] at e; cases e
  exact k15 b o (by simp [m1, m2]) (zO _ _ e)
 have SH' : Same (hideL [p] H12) (hideL [p] H15) := fun b o e => by
  have m1 : b ≠ p := fun z => by unfold hideL at e; rw [if_pos (by simp [z])] at e; cases e
  exact zR (by simp [m1]) (SH _ _ e)
 have S015 := k15.same S012 (by intro d hd; simp at hd; rcases hd with rfl | rfl; exact np; exact hl0)
 have D15 : Paired (DeedIn (hideL [p] H15)) (wDs ns (wDn ns)) du := Paired.mapP D12 fun _ _ y => y.same SH'
 have X15 := SH' _ _ X12
 have hB15 := B12.same SH'
 have L15 : hideL [p] H15 lx = some (.lst lu) := zR (by simp [Ne.symm nlp]) elx15
 have TL : Tups H15 (hideL [p] H15) := fun b xs e => zR (by simp [yI e e15 (by intro z; cases z)]) e
 have pl15' := Paired.mapP pl15 fun _ _ y => y.tups TL
 have fin : ∀ {H' : Hp} {bv gv : V} {t : Addr}, Keep [p] H15 H' → (wBt ns).At H' bv → (wG ns).At H' gv → H' t = some (.tup [.ref bx, .ref dx, .ref lx, bv, gv]) → Q (.ref t) H' := fun {H'} {bv} {gv} {t} k ab ag et => by
  have S := k.hide.trans zO
  obtain ⟨us, eu, pu⟩ := (hB15.same S).ex
  refine q _ _ (k.same S015 (by intro d hd; simp at hd; rw [hd]; exact np)) ⟨t, bx, dx, lx, bv, gv, rfl, et, ⟨⟨us, eu, pu⟩, ⟨du, S _ _ X15, Paired.mapP D15 fun _ _ y => y.same S⟩, ⟨lu, S _ _ L15, Paired.mapP pl15' fun _ _ y => y.tups (qC S)⟩, ab, ag⟩⟩
 clear D12 X12 SH SH' B12 pl15 D15 X15 L15 pl15' k15 S012 K14 ewd12 S13 elx elx15 B14 e14
 have hbx : ∀ {H' : Hp}, Keep [p] H15 H' → Bx H' bx (wBs ns) := fun k => (hB15.same k.hide).same zO
 wtm_at "zw"
 refine ⟨p, bx, wBs ns, wS6 ns, 1, rfl, e15, hbx .refl, by decide, by omega, fun v1 H16 B16 e16 a16 => ?_⟩
 have e16 : St3 H16 p (wB0 ns).2 := e16
 have a16 : (wB0 ns).1.At H16 v1 := a16
 have k16 : Keep [p] H15 H16 := .but1 B16 (by simp)
 have cn := condM_n (wBs ns) 1 (wS6 ns)
 have cn : (wB0 ns).2.n + 1 ≤ (wS6 ns).n + 12 * 2 ^ 1 := cn
 wtm_at "zw"
 refine ⟨xF (show 1 ≤ 1000000 by decide), fun y0 hy0 => ?_⟩
 have S17 := qV hy0 (.tup [V.str "yes"])
 have ey0 : upd H16 y0 (.tup [V.str "yes"]) y0 = some _ := qW
 generalize upd H16 y0 (.tup [V.str "yes"]) = H17 at S17 ey0
 have k17 := k16.trans (.of S17)
 have a17 := Th.At.mono (qC S17) a16
 wtm_at "zw"
 refine ⟨fun σ' H' => ∃ gv : V, σ' = [some (.ref a), some (.ref p), some (.ref nA), some (.ref bx), some (.int (wB ns (wK ns)).2.1), z5, z6, some (.ref wd), some (.ref dx), some (.ref lx), z10, some v1, some gv] ∧ Keep [p] H15 H' ∧ (wB0 ns).1.At H' v1 ∧ (wG ns).At H' gv, ?_, fun σ' H18 hP => ?_⟩
 ·wtm_at "zw"
  refine ⟨p, (wB0 ns).2, 3, rfl, S17 _ _ e16, by decide, by decide +kernel, by omega, fun H18 B18 e18 => ?_⟩
  have T18 := xR B18 (S17 _ _ e16)
  have k18 := k17.trans (.but1 B18 (by simp))
  have a18 := a17.mono T18
  wtm_at "zw"
  by_cases g : 0 < takeV (wB0 ns).2 3
  ·rw [decide_eq_true g]
   refine iteT ?_
   wtm_at "zw"
   refine ⟨p, bx, wBs ns, _, 1, rfl, e18, hbx k18, by decide, by show (wB0 ns).2.n + 1 + 24 ≤ _; omega, fun v2 H19 B19 e19 a19 => ?_⟩
   refine ⟨v2, rfl, k18.trans (.but1 B19 (by simp)), a18.mono (xR B19 e18), ?_⟩
   unfold wG; rw [if_pos g]; exact a19
  ·rw [decide_eq_false g]
   refine iteF ?_
   refine ⟨.ref y0, rfl, k18, a18, ?_⟩
   unfold wG; rw [if_neg g]
   exact ⟨y0, rfl, T18 _ _ ey0⟩
 obtain ⟨gv, rfl, k18, a18, g18⟩ := hP
 have hb18 := hbx k18
 obtain ⟨us, eu, pu⟩ := hb18.ex
 have cok := kR (bs := wBs ns) hb18.ne 1 (wS6 ns)
 have cok : CondT ((wBs ns).map (·.1)) (wB0 ns).1 ∧ (wB0 ns).1.dep ≤ 1 + 3 := cok
 have l3 := hb18.le
 wtm_at "zw"
 refine ⟨fun σ' H' => ∃ bv : V, σ' = [some (.ref a), some (.ref p), some (.ref nA), some (.ref bx), some (.int (wB ns (wK ns)).2.1), z5, z6, some (.ref wd), some (.ref dx), some (.ref lx), z10, some bv, some gv] ∧ Keep [p] H15 H' ∧ (wBt ns).At H' bv ∧ (wG ns).At H' gv, ?_, fun σ' H19 hP => ?_⟩
 ·wtm_at "zf"
  refine ⟨bx, wBs ns, us, rfl, eu, pu, by omega, okB.b25, fun r ss H19 nr S19 er pr => ?_⟩
  have b25 := okB.b25
  have al := kS (bs := wBs ns) b25 (wBs ns).length (Nat.le_refl _)
  rw [List.take_length] at al
  have p5 := pow56 (i := (wBs ns).length) (by omega)
  refine ⟨r, rfl, ⟨ss, SqL.of er⟩, ?_⟩
  refine wO (F := TupIn) (fun t x u y => let ⟨a, e, q⟩ := y; ⟨a, e, t _ _ q⟩) (p := fun r => holdsM ((wBs ns).map (·.1)) r (wB0 ns).1) er pr (by omega) (fun u row H' R hm hu S' hR => ?_) fun D ys H20 nD S20 eD py => ?_
  ·obtain ⟨ra, rfl, hra⟩ := hu
   have S18' := S19.trans S'
   wtm_at "zw"
   refine ⟨(wB0 ns).1, v1, bx, ra, wBs ns, row, rfl, a18.mono (qC S18'), cok.1, by omega, by omega, ⟨⟨us, S18' _ _ eu, xK (qC S18') pu⟩, hra, (allV_ok hm).1, by omega⟩, fun H'' S'' => ?_⟩
   wtm_at "zw"
   exact hR _ S''
  wtm_at "zw"
  refine ⟨xF (show 0 ≤ 1000000 by decide), fun e0 he0 => ?_⟩
  have S21 := qV he0 (.lst [])
  have ee0 : upd H20 e0 (.lst []) e0 = some (.lst []) := qW
  generalize upd H20 e0 (.lst []) = H21 at S21 ee0
  refine ⟨D, e0, ys, rfl, rfl, SqL.of (S21 _ _ eD), SqL.of ee0, ?_⟩
  have S1821 := S19.trans (S20.trans S21)
  have ey : ys.isEmpty = (wHold ns).isEmpty := by
   have l : (wHold ns).length = ys.length := py.length
   cases h1 : ys with
   | nil => rw [h1] at l; rw [List.length_eq_zero_iff.mp l]; rfl
   | cons y ys' =>
    rw [h1] at l
    cases h2 : wHold ns with
    | nil => rw [h2] at l; cases l
    | cons x xs => rfl
  rw [ey]
  have k21 := k18.trans (.of S1821)
  cases g : (wHold ns).isEmpty with
  | true =>
   refine ⟨true, rfl, iteT ?_⟩
   wtm_at "zw"
   refine ⟨xF (show 1 ≤ 1000000 by decide), fun y1 hy1 => ?_⟩
   have S22 := qV hy1 (.tup [V.str "yes"])
   refine ⟨.ref y1, rfl, k21.trans (.of S22), ?_, (g18.mono (qC S1821)).mono (qC S22)⟩
   unfold wBt; rw [if_pos g]
   exact ⟨y1, rfl, qW⟩
  | false =>
   refine ⟨false, rfl, iteF ?_⟩
   refine ⟨v1, rfl, k21, ?_, g18.mono (qC S1821)⟩
   unfold wBt; rw [if_neg (by rw [g]; decide)]
   exact a18.mono (qC S1821)
 obtain ⟨bv, rfl, k19, b19, g19⟩ := hP
 wtm_at "zw"
 refine ⟨xF (show 5 ≤ 1000000 by decide), fun t ht => ?_⟩
 have S20 := qV ht (.tup [V.ref bx, .ref dx, .ref lx, bv, gv])
 exact fin (k19.trans (.of S20)) (b19.mono (qC S20)) (g19.mono (qC S20)) qW

theorem kW : FnScope ["world", "name", "standing", "look"] ["world", "name", "standing"] (xB (top 35)) := ⟨rfl, rfl, rfl, by decide +kernel, rfl, by decide +kernel, by decide +kernel⟩
theorem yS : CompOk (xB (top 35)) ["world", "name", "standing", "look"] (scAt (xC (top 35)) [0] [0]) ["look", "name"] 1 [1] :=
 ⟨by decide +kernel, by decide +kernel, by decide +kernel, by decide +kernel, by decide +kernel, by decide +kernel, by decide +kernel, by decide +kernel⟩
noncomputable def spShown : Sp := fun vs H Q _ => ∃ (W : Wd) (wv : V) (x : Str) (st : Addr) (vals : List Int), vs = [wv, .str x, .ref st] ∧ WAt H W wv ∧ WOk W ∧ (∃ l ∈ W.ls, l.name = x) ∧ H st = some (.tup (intsV vals)) ∧ vals.length = W.bs.length ∧
 ∀ (n : Int) (H' : Hp), Same H H' → Q (.int n) H'
theorem dn_shown (F : Fd K mg "_law_shown" (top 35) ["world", "name", "standing"]) (D_law_worth : Dn P w K mg base "_law_worth" 9 ["e", "boxes", "standing"] (spWorthM 8)) : Dn P w K mg base "_law_shown" 10 ["world", "name", "standing"] spShown := by
 refine F.ok kW (fun vs H Q E h => ?_) (fun f cdv A outer s H vs Q E hr h => ?_)
 ·obtain ⟨_, _, _, _, _, rfl, _⟩ := h
  rfl
 obtain ⟨W, wv, x, st, vals, rfl, ⟨wp, bx, dx, lx, bv, gv, rfl, ewp, L⟩, ok, ⟨l0, hl0, el0⟩, est, lv, q⟩ := h
 obtain ⟨bu, ebx, pb⟩ := L.boxes
 obtain ⟨lu, elx, pl⟩ := L.looks
 have l3 := ok.l3
 have b3 := ok.b3
 refine ⟨_, (qZ (qN (i := 3) kW.nd rfl (by wtm_at "zo") (xG (qU (K := K)) (jZ rfl yS (xQ (K := K) (xG (qT (K := K)) (pv 0) qF (fun _ _ => rfl))) (fun cl fp s H => (qH (i := 0) yS.nd rfl (Or.inl rfl) (.inr rfl))) (fun cl fp s H => (pts_one (qS zD (xG (qT (K := K)) (pv 0) qF (fun _ _ => rfl)) (pv 1) (xE _)))) (fun cl fp s H => (pv 0))) qF (fun _ _ => rfl)))
  (qJ (qO (qD D_law_worth hr (qQ (xG (qT (K := K)) (pv 3) qF (fun _ _ => rfl)) (qQ (xG (qT (K := K)) (pv 0) qF (fun _ _ => rfl)) (qQ (pv 2) qX))))))), ?_⟩
 wtm_at "zf"
 refine ⟨lx, rfl, ⟨lu, SqL.of elx⟩, ?_⟩
 refine wO (F := LookIn) (fun t x u y => y.tups t) (p := fun l => decide (l.name = x)) elx pl (by omega) (fun u l H' R hm hu S' hR => ?_) fun D ys H1 nD S1 eD py => ?_
 ·obtain ⟨la, v, rfl, ela, _⟩ := hu
  wtm_at "zw"
  have e : decide (V.str l.name = V.str x) = decide (l.name = x) := decide_eq_decide.mpr ⟨fun z => V.str.inj z, fun z => by rw [z]⟩
  rw [e]
  exact hR _ (.refl _)
 have hm : l0 ∈ W.ls.filter fun l => decide (l.name = x) := List.mem_filter.mpr ⟨hl0, decide_eq_true el0⟩
 obtain ⟨l1, y1, e1, e2⟩ : ∃ l1 y1, (W.ls.filter fun l => decide (l.name = x))[0]? = some l1 ∧ ys[0]? = some y1 := by
  have h0 : 0 < (W.ls.filter fun l => decide (l.name = x)).length := List.length_pos_of_mem hm
  exact ⟨_, _, List.getElem?_eq_getElem h0, List.getElem?_eq_getElem (by rw [← py.length]; exact h0)⟩
 have hl1 := ok.lp l1 (List.mem_filter.mp (List.mem_of_getElem? e1)).1
 obtain ⟨la, v, rfl, ela, av⟩ := xV py e1 e2
 have hat : atI ys 0 = some (.ref la) := zI (j := 0) e2
 have ewp1 := S1 _ _ ewp
 wtm_at "zw"
 exact ⟨l1.part, v, bx, st, W.bs, vals, rfl, av, hl1.1, by omega, ⟨⟨bu, S1 _ _ ebx, xK (qC S1) pb⟩, S1 _ _ est, lv, by omega⟩, fun H' S' => q _ _ (S1.trans S')⟩
theorem zW : FnScope ["state", "world", "many", "k", "kind", "leads", "name", "worths", "forks", "j"] ["state", "world", "many", "k"] (xB (top 36)) := ⟨rfl, rfl, rfl, by decide +kernel, rfl, by decide +kernel, by decide +kernel⟩
theorem kH : CompOk (xB (top 36)) ["state", "world", "many", "k", "kind", "leads", "name", "worths", "forks", "j"] (scAt (xC (top 36)) [2] []) ["j", "k", "state", "many"] 1 [3, 0, 2] :=
 ⟨by decide +kernel, by decide +kernel, by decide +kernel, by decide +kernel, by decide +kernel, by decide +kernel, by decide +kernel, by decide +kernel⟩
theorem kG : CompOk (xB (top 36)) ["state", "world", "many", "k", "kind", "leads", "name", "worths", "forks", "j"] (scAt (xC (top 36)) [3, 0] []) ["j", "state", "many"] 1 [0, 2] :=
 ⟨by decide +kernel, by decide +kernel, by decide +kernel, by decide +kernel, by decide +kernel, by decide +kernel, by decide +kernel, by decide +kernel⟩
theorem kF : CompOk (xB (top 36)) ["state", "world", "many", "k", "kind", "leads", "name", "worths", "forks", "j"] (scAt (xC (top 36)) [6] [1, 1]) ["standing", "world", "name"] 1 [1, 6] :=
 ⟨by decide +kernel, by decide +kernel, by decide +kernel, by decide +kernel, by decide +kernel, by decide +kernel, by decide +kernel, by decide +kernel⟩
theorem drawn_read {σ : St} {H H0 : Hp} {Q : VK} {js : List Nat} {te : TE} {n c : Nat} {p : Addr} (hn : n ≤ 100) (hs : Same H0 H) (h0 : H0 p = none) (st : ∃ s : S3, St3 H p s ∧ s.n ≤ c)
  (hte : ∀ (i : Nat) (H' : Hp) (s : S3) (R : VK), i < n → Same H0 H' → St3 H' p s → s.n ≤ c + i → (∀ (z : Int) (H'' : Hp) (s' : S3), z.natAbs < 10 ^ 100 → But1 p H' H'' → St3 H'' p s' → s'.n ≤ s.n + 1 → R (.int z) H'') → te ([some (.int (i : Int))] ++ frees js σ) H' R)
  (q : ∀ (D : Addr) (zs : List Int) (H' : Hp), H D = none → Same H0 H' → But1 p H H' → H' D = some (.lst (intsV zs)) → zs.length = n → (∀ z ∈ zs, z.natAbs < 10 ^ 100) → (∃ s : S3, St3 H' p s ∧ s.n ≤ c + n) → Q (.ref D) H') :
  rdC 1 js (gName 0) tYes te (Itr 0 n) σ H Q := by
 obtain ⟨s0, es0, hs0⟩ := st
 refine kJ (fun D i ys H' => ∃ zs : List Int, ys = intsV zs ∧ zs.length = i ∧ (∀ z ∈ zs, z.natAbs < 10 ^ 100) ∧ (∃ s : S3, St3 H' p s ∧ s.n ≤ c + i) ∧ But1 p H H' ∧ D ≠ p) (fun D hD => ⟨[], rfl, rfl, (fun z hz => nomatch hz), ⟨s0, qV hD _ _ _ es0, hs0⟩, .of (qV hD _), Ne.symm (qB (show H p = some _ from es0) hD)⟩)
  (fun D i ys H' N hD hDy hi hP hN => ?_) (fun D ys H2 hD hDy hP => ?_)
 ·obtain ⟨zs, rfl, lz, bz, ⟨s, es, hsn⟩, bt, nD⟩ := hP
  rw [Int.zero_add]
  refine ⟨⟨[some (.int (i : Int))], rfl, rfl⟩, ?_⟩
  refine hte i H' s _ hi (zZ hs h0 bt) es hsn fun z H'' s' zb b2 es' hs' => ?_
  have eD := b2 _ _ nD hDy
  refine ⟨eD, ?_, hN _ _ qW ⟨zs ++ [z], ?_, ?_, fun y hy => ?_, ⟨s', ?_, by omega⟩, fun b o nb e => ?_, nD⟩⟩
  ·rw [List.length_map, lz]; exact small (by omega)
  ·unfold intsV; rw [List.map_append]; rfl
  ·rw [List.length_append, lz]; rfl
  ·rcases List.mem_append.mp hy with h | h
   ·exact bz y h
   ·rw [List.mem_singleton.mp h]; exact zb
  ·show upd _ _ _ _ = _
   rw [qA (Ne.symm nD)]; exact es'
  ·rw [qA (qB e hD)]; exact b2 _ _ nb (bt _ _ nb e)
 ·obtain ⟨zs, rfl, lz, bz, st2, bt, nD⟩ := hP
  exact q D zs H2 hD (zZ hs h0 bt) bt hDy lz bz st2
theorem nums_read {σ : St} {H : Hp} {Q : VK} {js : List Nat} {te : TE} {a : Addr} {us : List V} {rows : List (List Int)} (ea : H a = some (.lst us)) (pr : Paired (TupIn H) rows us) (hl : rows.length ≤ 1000)
  (hte : ∀ (ra : Addr) (row : List Int) (H' : Hp) (R : VK), row ∈ rows → H' ra = some (.tup (intsV row)) → Same H H' → (∀ (z : Int) (H'' : Hp), Same H' H'' → R (.int z) H'') → te ([some (.ref ra)] ++ frees js σ) H' R)
  (q : ∀ (D : Addr) (zs : List Int) (H' : Hp), H D = none → Same H H' → H' D = some (.lst (intsV zs)) → zs.length = rows.length → Q (.ref D) H') :
  rdC 1 js (gName 0) tYes te (Itl K a) σ H Q := by
 have lr := pr.length
 refine jP (xs := us) (fun D i ys H' => ∃ zs : List Int, ys = intsV zs ∧ zs.length = i ∧ Same H H') (fun D hD => ⟨[], rfl, rfl, qV hD _⟩)
  (fun D i ys H' _ hP => let ⟨_, _, _, hk⟩ := hP; SqL.of (hk _ _ ea)) (fun D i x ys H' N hD hDy ex hP hN => ?_) (fun D ys H5 hD hDy hP => ?_)
 ·obtain ⟨zs, rfl, lz, hk⟩ := hP
  have hi : i < rows.length := by rw [lr]; exact (List.getElem?_eq_some_iff.mp ex).1
  obtain ⟨row, erow⟩ : ∃ b, rows[i]? = some b := ⟨_, List.getElem?_eq_getElem hi⟩
  obtain ⟨ra, rfl, hra⟩ := xV pr erow ex
  refine ⟨⟨[some (.ref ra)], rfl, rfl⟩, ?_⟩
  refine hte ra row H' _ (List.mem_of_getElem? erow) (hk _ _ hra) hk fun z H4 S4 => ?_
  refine ⟨S4 _ _ hDy, by rw [List.length_map, lz]; exact small (by omega), hN _ _ qW ⟨zs ++ [z], ?_, by rw [List.length_append, lz]; rfl, fun b o e => ?_⟩⟩
  ·unfold intsV; rw [List.map_append]; rfl
  ·rw [qA (qB e hD)]; exact S4 _ _ (hk _ _ e)
 ·obtain ⟨zs, rfl, lz, hk⟩ := hP
  exact q D zs H5 hD hk hDy (by rw [lz, lr])
noncomputable def ForksAt (H : Hp) (us : List V) : Prop := ∀ u ∈ us, ∃ f : Int × Int, PairI H f u ∧ f.2.natAbs < 10 ^ 100
theorem ForksAt.paired {H : Hp} : ∀ {us : List V}, ForksAt H us → ∃ fs : List (Int × Int), Paired (PairI H) fs us ∧ ∀ f ∈ fs, f.2.natAbs < 10 ^ 100
 | [], _ => ⟨[], .nil, fun f h => nomatch h⟩
 | u :: us, h => by
  obtain ⟨f, hf, fb⟩ := h u List.mem_cons_self
  obtain ⟨fs, hfs, fbs⟩ := ForksAt.paired (us := us) fun v hv => h v (List.mem_cons_of_mem _ hv)
  refine ⟨f :: fs, .cons hf hfs, fun g hg => ?_⟩
  rcases List.mem_cons.mp hg with rfl | hg
  ·exact fb
  ·exact fbs g hg
theorem ForksAt.tups {H H' : Hp} (t : Tups H H') {us : List V} (h : ForksAt H us) : ForksAt H' us := fun u hu => let ⟨f, ⟨a, e, q⟩, b⟩ := h u hu; ⟨f, ⟨a, e, t _ _ q⟩, b⟩
noncomputable def spNode : Sp := fun vs H Q _ => ∃ (p : Addr) (s : S3) (H0 : Hp) (wv : V) (W : Wd) (m k : Nat), vs = [.ref p, wv, .int m, .int k] ∧ Same H0 H ∧ H0 p = none ∧ St3 H p s ∧ s.n ≤ 100 ∧ WAt H0 W wv ∧ WOk W ∧ 1 ≤ m ∧ m ≤ 10 ∧ k < m ∧
 ∀ (n : Nd) (u : V) (H' : Hp), Same H0 H' → n.Fine → NdAt H' n u → Q u H'
theorem rowsBy_ne {acc : List (List Int)} {n : Nat} (h : acc ≠ []) (hn : 1 ≤ n) : rowsBy acc n ≠ [] := fun z => by
 have l := jS n acc
 rw [z] at l
 have p : 0 < acc.length * n := Nat.mul_pos (List.length_pos_iff.mpr h) hn
 have l : 0 = acc.length * n := l
 omega
theorem fold_ne : ∀ (bs : List (Str × Int)) (acc : List (List Int)), acc ≠ [] → (∀ b ∈ bs, 2 ≤ b.2 ∧ b.2 ≤ 5) → (bs.map fun b => b.2.toNat).foldl rowsBy acc ≠ []
 | [], acc, h, _ => h
 | b :: bs, acc, h, hb => fold_ne bs (rowsBy acc b.2.toNat) (rowsBy_ne h (by have := (hb b List.mem_cons_self).1; omega)) fun c hc => hb c (List.mem_cons_of_mem _ hc)
theorem allV_ne {bs : List (Str × Int)} (h : ∀ b ∈ bs, 2 ≤ b.2 ∧ b.2 ≤ 5) : allV bs ≠ [] := fold_ne bs [[]] (by simp) h
theorem deed_at {H : Hp} {dx : Addr} {du : List V} {ds : List Deed} {i : Int} (_ : H dx = some (.lst du)) (pd : Paired (DeedIn H) ds du) (h0 : 0 ≤ i) (h1 : i < du.length) : ∃ (dd : Deed) (da : Addr) (ys : List V), dd ∈ ds ∧ atI du i = some (.ref da) ∧ H da = some (.tup (.str dd.name :: ys)) := by
 have l := pd.length
 have hk : i.toNat < du.length := by omega
 obtain ⟨a, nv, wa, us, e1, e2, _⟩ := xV pd (List.getElem?_eq_getElem (by omega : i.toNat < ds.length)) (List.getElem?_eq_getElem hk)
 refine ⟨_, a, _, List.getElem_mem _, ?_, e2⟩
 have z : atI du ((i.toNat : Nat) : Int) = some (.ref a) := zI (by rw [List.getElem?_eq_getElem hk, e1])
 rwa [show ((i.toNat : Nat) : Int) = i by omega] at z
theorem look_at {H : Hp} {lx : Addr} {lu : List V} {ls : List Look} {i : Int} (_ : H lx = some (.lst lu)) (pl : Paired (LookIn H) ls lu) (h0 : 0 ≤ i) (h1 : i < lu.length) : ∃ (l : Look) (a : Addr) (ys : List V), l ∈ ls ∧ atI lu i = some (.ref a) ∧ H a = some (.tup (.str l.name :: ys)) := by
 have l := pl.length
 have hk : i.toNat < lu.length := by omega
 obtain ⟨a, v, e1, e2, _⟩ := xV pl (List.getElem?_eq_getElem (by omega : i.toNat < ls.length)) (List.getElem?_eq_getElem hk)
 refine ⟨_, a, _, List.getElem_mem _, ?_, e2⟩
 have z : atI lu ((i.toNat : Nat) : Int) = some (.ref a) := zI (by rw [List.getElem?_eq_getElem hk, e1])
 rwa [show ((i.toNat : Nat) : Int) = i by omega] at z
theorem ints_at {zs : List Int} {i : Nat} (h : i < zs.length) : atI (intsV zs) (i : Int) = some (.int (zs.getD i 0)) := zI (by
 show (zs.map V.int)[i]? = _
 rw [List.getElem?_map, List.getD_eq_getElem?_getD, List.getElem?_eq_getElem h]; rfl)
theorem tiny {z : Int} (h0 : 0 ≤ z) (h1 : z ≤ 1000) : z.natAbs < 10 ^ 100 := Nat.lt_of_le_of_lt (m := 1000) (by omega) (by decide +kernel)
theorem dn_node (F : Fd K mg "_law_node" (top 36) ["state", "world", "many", "k"]) (B : Bl mg) (B_set : mg "set" = none) (B_sorted : mg "sorted" = none) (D_law_take : Dn P w K mg base "_law_take" 2 ["state", "many"] spTake) (D_law_standings : Dn P w K mg base "_law_standings" 1 ["boxes"] spStands)
  (D_law_shown : Dn P w K mg base "_law_shown" 10 ["world", "name", "standing"] spShown) : Dn P w K mg base "_law_node" 11 ["state", "world", "many", "k"] spNode := by
 refine F.ok zW (fun vs H Q E h => ?_) (fun f cdv A outer s' H vs Q E hr h => ?_)
 ·obtain ⟨_, _, _, _, _, _, _, rfl, _⟩ := h
  rfl
 obtain ⟨p, s, H0, wv, W, m, k, rfl, S0, np, es, hs, hW, ok, m1, m10, km, q⟩ := h
 obtain ⟨wp, bx, dx, lx, bv, gv, rfl, ewp, L⟩ := id hW
 obtain ⟨bu, ebx, pb⟩ := L.boxes
 obtain ⟨du, edx, pd⟩ := L.deeds
 obtain ⟨lu, elx, pl⟩ := L.looks
 have ld := pd.length
 have ll := pl.length
 have d4 := ok.d4
 have l3 := ok.l3
 have b3 := ok.b3
 have d1 : 1 ≤ du.length := by
  rw [← ld]
  exact List.length_pos_iff.mpr ok.d1
 have fin : ∀ H1, Same H0 H1 → ∀ t, H1 t = none → Q (.ref t) (upd H1 t (.tup [.str "end"])) := fun H1 S1 t ht => q .fin _ _ (S1.trans (qV ht _)) trivial ⟨t, rfl, qW⟩
 refine ⟨_, (qZ (qN (i := 4) zW.nd rfl (by wtm_at "zo") (qD D_law_take hr (qQ (pv 0) (qQ qF qX))))
  (qZ (zJ (PW.pt (pw_or (qS zD (pv 4) qF (xE _)) (pw_or (qS zD (pv 2) qF (xE _)) (pw_or1 (qS zD (pv 3) (xX jI (pv 2) qF) (xE _)))))) (qJ (qO (xN (qQ qG qX)))) qY)
  (qZ (jT (i := 5) zW.nd rfl (by wtm_at "zo") rfl kH (zC rfl B.range' (qQ qF qX)) (fun cl fp s H => (qH (i := 0) kH.nd rfl (Or.inl rfl) (.inr rfl))) (fun cl fp s H => jQ) (fun cl fp s H => (xX zV (xX zV (pv 1) qF) (qD D_law_take hr (qQ (pv 2) (qQ (xX jI (xX jI (pv 3) (pv 1)) qF) qX))))))
  (qK (zJ (qS zD (qD D_law_take hr (qQ (pv 0) (qQ qF qX))) qF (xE _)) (qJ (jT (i := 5) zW.nd rfl (by wtm_at "zo") rfl kG (zC rfl B.range' (qQ qF qX)) (fun cl fp s H => (qH (i := 0) kG.nd rfl (Or.inl rfl) (.inr rfl))) (fun cl fp s H => jQ) (fun cl fp s H => (qD D_law_take hr (qQ (pv 1) (qQ (pv 2) qX)))))) qY)
  (qZ (zJ (PW.pt (pw_or (qS op_lt (pv 4) qF (xE _)) (pw_or1 (qS (op_eqEK (K := K) hr.units) (xG (qT (K := K)) (pv 1) qF (fun _ _ => rfl)) (xP qX) (xE _))))) (qJ (qO (xN (qQ qG (qQ (xG (qT (K := K)) (xG (qU (K := K)) (xG (qT (K := K)) (pv 1) qF (fun _ _ => rfl)) (qD D_law_take hr (qQ (pv 0) (qQ (xJ (xS (K := K)) rfl B.len' zH (qQ (xG (qT (K := K)) (pv 1) qF (fun _ _ => rfl)) qX)) qX))) (fun _ _ => rfl)) qF (fun _ _ => rfl)) (qQ (xG (qU (K := K)) (pv 5) qF (fun _ _ => rfl)) qX)))))) qY)
  (qZ (qN (i := 6) zW.nd rfl (by wtm_at "zo") (xG (qT (K := K)) (xG (qU (K := K)) (xG (qT (K := K)) (pv 1) qF (fun _ _ => rfl)) (qD D_law_take hr (qQ (pv 0) (qQ (xJ (xS (K := K)) rfl B.len' zH (qQ (xG (qT (K := K)) (pv 1) qF (fun _ _ => rfl)) qX)) qX))) (fun _ _ => rfl)) qF (fun _ _ => rfl)))
  (qZ (qN (i := 7) zW.nd rfl (by wtm_at "zo") (xJ (call_sortI (P := P) (w := w) rfl) rfl B_sorted bt_sorted (qQ (xZ (call_setI (P := P) (w := w) (K := K) rfl) rfl B_set bt_set (qQ (jZ rfl kF (xQ (K := K) (qD D_law_standings hr (qQ (xG (qT (K := K)) (pv 1) qF (fun _ _ => rfl)) qX))) (fun cl fp s H => (qH (i := 0) kF.nd rfl (Or.inl rfl) (.inr rfl))) (fun cl fp s H => jQ) (fun cl fp s H => (qD D_law_shown hr (qQ (pv 1) (qQ (pv 2) (qQ (pv 0) qX)))))) qX)) qX)))
  (qZ (qN (i := 8) zW.nd rfl (by wtm_at "zo") (xP qX))
  (qZ (zT PassesOwn.never rfl (zC rfl B.range' (qQ (xJ (xS (K := K)) rfl B.len' zH (qQ (pv 7) qX)) qX)) (qH (i := 9) zW.nd rfl (by wtm_at "zo")) (qJ (zJ (qS op_gt (qD D_law_take hr (qQ (pv 0) (qQ qF qX))) qF (xE _)) (qJ (qR (yV (K := K) PySem.F.plainAttrs_list PySem.F.slot_list_append PySem.F.type_list_append zF (pv 8) (qQ (xN (qQ (xG (qU (K := K)) (pv 7) (pv 9) (fun _ _ => rfl)) (qQ (xG (qU (K := K)) (pv 5) (xX yW (pv 9) qF) (fun _ _ => rfl)) qX))) qX)))) qY)))
  (qK (zJ (qS zD (qD D_law_take hr (qQ (pv 0) (qQ qF qX))) qF (xE _)) (qJ (qN (i := 8) zW.nd rfl (by wtm_at "zo") (xX kB (xP (qQ (xN (qQ (xX zV (xG (qU (K := K)) (pv 7) (pe_un un_neg qF) (fun _ _ => rfl)) qF) (qQ (xG (qU (K := K)) (pv 5) qF (fun _ _ => rfl)) qX))) qX)) (pe_slice3 (K := K) (pv 8) po_none po_none (pe_un un_neg qF))))) qY)
  (qJ (qO (xN (qQ qG (qQ (pv 6) (qQ (xZ (call_tupleK (K := K)) rfl B.tuple' bt_tuple (qQ (pv 8) qX)) qX)))))))))))))))), ?_⟩
 wtm_at "zw"
 refine ⟨p, s, 7, rfl, es, by decide, by decide +kernel, by omega, fun H1 B1 e1 => ?_⟩
 have S1 := zZ S0 np B1
 have n1 : (takeS s 7).n ≤ 101 := by show s.n + 1 ≤ _; omega
 generalize takeV s 7 = kind
 generalize takeS s 7 = s1 at e1 n1
 wtm_at "zw"
 refine ite2 (fun c => iteT ?_) (fun c => ?_)
 ·wtm_at "zw"
  exact ⟨xF (show 1 ≤ 1000000 by decide), fin _ S1⟩
 wtm_at "zw"
 refine ite2 (fun c => iteT ?_) (fun c => ?_)
 ·wtm_at "zw"
  exact ⟨xF (show 1 ≤ 1000000 by decide), fin _ S1⟩
 wtm_at "zw"
 refine ite2 (fun c => ?_) (fun c => ?_)
 ·wtm_at "zw"
  exact ⟨xF (show 1 ≤ 1000000 by decide), fin _ S1⟩
 have km2 : (k : Int) ≠ (m : Int) - 1 := fun z => c (decide_eq_true (by rw [z]))
 wtm_at "zf"
 refine ⟨12, rfl, by decide, by decide, ?_⟩
 refine drawn_read (n := 12) (c := 101) (p := p) (by decide) S1 np ⟨s1, e1, n1⟩ (fun i H' s2 R hi S' e' n' hR => ?_) fun D zs H2 nD S2 B2 eD lz bz st2 => ?_
 ·wtm_at "zw"
  refine ⟨p, s2, (m : Int) - k - 1, rfl, e', by omega, big _ (by omega) (Int.lt_of_le_of_lt (b := 100) (by omega) (by decide +kernel)), by omega, fun H'' B'' e'' => ?_⟩
  have tb := xH s2 (m := (m : Int) - k - 1) (by omega)
  wtm_at "zw"
  exact hR _ _ _ (tiny (by omega) (by omega)) B'' e'' (Nat.le_refl _)
 obtain ⟨s2, e2, n2⟩ := st2
 have nDp : D ≠ p := Ne.symm (qB (show H1 p = some _ from e1) nD)
 wtm_at "zw"
 refine ⟨fun σ' H' => ∃ (D : Addr) (zs : List Int) (s3 : S3), σ' = [some (.ref p), some (.ref wp), some (.int m), some (.int k), some (.int kind), some (.ref D), none, none, none, none] ∧ Same H0 H' ∧ D ≠ p ∧ H' D = some (.lst (intsV zs)) ∧ zs.length = 12 ∧ (∀ z ∈ zs, z.natAbs < 10 ^ 100) ∧ St3 H' p s3 ∧ s3.n ≤ 200, ?_, fun σ' H3 hP => ?_⟩
 ·wtm_at "zw"
  refine ⟨p, s2, 4, rfl, e2, by decide, by decide +kernel, by omega, fun H3 B3 e3 => ?_⟩
  have S3' := zZ S2 np B3
  wtm_at "zw"
  refine ite2 (fun c => ?_) (fun c => ?_)
  ·wtm_at "zf"
   refine ⟨12, rfl, by decide, by decide, ?_⟩
   refine drawn_read (n := 12) (c := 150) (p := p) (by decide) S3' np ⟨_, e3, by show s2.n + 1 ≤ _; omega⟩ (fun i H' s4 R hi S' e' n' hR => ?_) fun D' zs' H4 nD' S4 B4 eD' lz' bz' st4 => ?_
   ·wtm_at "zw"
    refine ⟨p, s4, m, rfl, e', by omega, big _ (by omega) (Int.lt_of_le_of_lt (b := 100) (by omega) (by decide +kernel)), by omega, fun H'' B'' e'' => ?_⟩
    have tb := xH s4 (m := (m : Int)) (by omega)
    exact hR _ _ _ (tiny (by omega) (by omega)) B'' e'' (Nat.le_refl _)
   obtain ⟨s4, e4, n4⟩ := st4
   exact ⟨D', zs', s4, rfl, S4, Ne.symm (qB (show H3 p = some _ from e3) nD'), eD', lz', bz', e4, by omega⟩
  ·exact ⟨D, zs, _, rfl, S3', nDp, B3 _ _ nDp eD, lz, bz, e3, by show s2.n + 1 ≤ _; omega⟩
 clear nDp eD lz bz e2 n2 B2 S2 nD e1 n1 B1 S1 es hs
 obtain ⟨D, zs, s3, rfl, S3', nDp, eD, lz, bz, e3, n3⟩ := hP
 have hz : ∀ i, i < 12 → (zs.getD i 0).natAbs < 10 ^ 100 := fun i hi => by
  have e : zs[i]? = some (zs.getD i 0) := by rw [List.getD_eq_getElem?_getD, List.getElem?_eq_getElem (by omega)]; rfl
  exact bz _ (List.mem_of_getElem? e)
 have z0 : atI (intsV zs) 0 = some (.int (zs.getD 0 0)) := ints_at (i := 0) (by omega)
 have ewp3 := S3' _ _ ewp
 have edx3 := S3' _ _ edx
 have elx3 := S3' _ _ elx
 wtm_at "zw"
 refine ite2 (fun c => iteT ?_) (fun c => ?_)
 ·have t5 := xH s3 (m := du.length) (by omega)
  wtm_at "zw"
  refine ⟨p, s3, du.length, rfl, e3, by omega, big _ (by omega) (Int.lt_of_le_of_lt (b := 10) (by omega) (by decide +kernel)), by omega, fun H6 B6 e6 => ?_⟩
  have S6 := zZ S3' np B6
  obtain ⟨dd, da, ys, hd, hda, eda⟩ := deed_at (S6 _ _ edx) (Paired.mapP pd fun _ _ y => y.same S6) t5.1 t5.2
  have eD6 := B6 _ _ nDp eD
  refine ⟨dx, _, _, .ref da, rfl, rfl, SqL.of (S6 _ _ edx), hda, ?_⟩
  wtm_at "zw"
  refine ⟨xF (show 3 ≤ 1000000 by decide), fun t ht => q (.act dd.name (zs.getD 0 0)) _ _ (S6.trans (qV ht _)) ⟨ok.dn dd hd, hz 0 (by decide)⟩ ⟨t, rfl, qW⟩⟩

 wtm_at "zw"
 refine ⟨xF (show 0 ≤ 1000000 by decide), fun e0 he0 => ?_⟩
 have S4 := qV he0 (.lst [])
 have ee0 : upd H3 e0 (.lst []) e0 = some (.lst []) := qW
 generalize upd H3 e0 (.lst []) = H4 at S4 ee0
 refine ⟨lx, e0, lu, rfl, rfl, SqL.of (S4 _ _ elx3), SqL.of ee0, ?_⟩
 have S4' := S3'.trans S4
 have e4 : St3 H4 p s3 := S4 _ _ e3
 have eD4 := S4 _ _ eD
 have ewp4 := S4 _ _ ewp3
 have edx4 := S4 _ _ edx3
 have elx4 := S4 _ _ elx3
 cases hlu : lu.isEmpty with
 | true =>
  refine ⟨true, rfl, iteT ?_⟩
  have t5 := xH s3 (m := du.length) (by omega)
  wtm_at "zw"
  refine ⟨p, s3, du.length, rfl, e4, by omega, big _ (by omega) (Int.lt_of_le_of_lt (b := 10) (by omega) (by decide +kernel)), by omega, fun H6 B6 e6 => ?_⟩
  have S6 := zZ S4' np B6
  obtain ⟨dd, da, ys, hd, hda, eda⟩ := deed_at (S6 _ _ edx) (Paired.mapP pd fun _ _ y => y.same S6) t5.1 t5.2
  have eD6 := B6 _ _ nDp eD4
  refine ⟨dx, _, _, .ref da, rfl, rfl, SqL.of (S6 _ _ edx), hda, ?_⟩
  wtm_at "zw"
  refine ⟨xF (show 3 ≤ 1000000 by decide), fun t ht => q (.act dd.name (zs.getD 0 0)) _ _ (S6.trans (qV ht _)) ⟨ok.dn dd hd, hz 0 (by decide)⟩ ⟨t, rfl, qW⟩⟩
 | false =>
 have l1 : 1 ≤ lu.length := by
  cases lu with
  | nil => cases hlu
  | cons _ _ => exact Nat.succ_le_succ (Nat.zero_le _)
 refine ⟨false, rfl, iteF ?_⟩
 have t5 := xH s3 (m := lu.length) (by omega)
 wtm_at "zw"
 refine ⟨p, s3, lu.length, rfl, e4, by omega, big _ (by omega) (Int.lt_of_le_of_lt (b := 10) (by omega) (by decide +kernel)), by omega, fun H6 B6 e6 => ?_⟩
 have S6 := zZ S4' np B6
 obtain ⟨dd, da, yl, hd, hda, eda⟩ := look_at (S6 _ _ elx) (Paired.mapP pl fun _ _ y => y.tups (qC S6)) t5.1 t5.2
 have eD6 := B6 _ _ nDp eD4
 have n6 : (takeS s3 lu.length).n ≤ 201 := by show s3.n + 1 ≤ _; omega
 generalize takeS s3 lu.length = s6 at e6 n6
 generalize takeV s3 lu.length = i6 at hda t5
 refine ⟨lx, _, _, .ref da, rfl, rfl, SqL.of (S6 _ _ elx), hda, ?_⟩
 have ewp6 := S6 _ _ ewp
 wtm_at "zf"
 refine ⟨bx, W.bs, bu, rfl, S6 _ _ ebx, xK (qC S6) pb, by omega, ok.b25, fun r ss H7 nr S7 er pr => ?_⟩
 have al := kS ok.b25 W.bs.length (Nat.le_refl _)
 rw [List.take_length] at al
 have p5 : 5 ^ W.bs.length ≤ 125 := Nat.le_trans (Nat.pow_le_pow_right (by decide) b3) (by decide)
 have a0 : (allV W.bs) ≠ [] := allV_ne ok.b25
 have a1 : 1 ≤ (allV W.bs).length := List.length_pos_iff.mpr a0
 refine ⟨r, rfl, ⟨ss, SqL.of er⟩, nums_read er pr (by omega) (fun ra row H' R hm hra S' hR => ?_) fun D2 ws H8 nD2 S8 eD2 lws => ?_⟩
 ·wtm_at "zw"
  exact ⟨W, .ref wp, dd.name, ra, row, rfl, hW.same (S6.trans (S7.trans S')), ok, ⟨dd, hd, rfl⟩, hra, (allV_ok hm).1, hR⟩
 wtm_at "zw"
 refine ⟨D2, ws, rfl, SqL.of eD2, by omega, fun st hst => ?_⟩
 have S9 := qV hst (SetI P w st (SI.uniq ws))
 have est : upd H8 st (SetI P w st (SI.uniq ws)) st = some _ := qW
 generalize upd H8 st (SetI P w st (SI.uniq ws)) = H9 at S9 est
 have ul := SI.uniq_le ws
 wtm_at "zw"
 refine ⟨st, _, rfl, est, SI.uniq_nd ws, by omega, fun wo ms hwo pm _ => ?_⟩
 have lms : ms.length ≤ 125 := by rw [pm.length_eq]; omega
 have ms1 : 1 ≤ ms.length := by
  rw [pm.length_eq]
  cases hw : ws with
  | nil => rw [hw] at lws; simp at lws; omega
  | cons x xs =>
   refine List.length_pos_of_mem (a := x) ?_
   rw [← hw]
   exact (SI.uniq_mem ws x).mpr (by rw [hw]; exact List.mem_cons_self)
 have S10 := qV hwo (.lst (ms.map V.int))
 have ewo : upd H9 wo (.lst (ms.map V.int)) wo = some (.lst (intsV ms)) := qW
 generalize upd H9 wo (.lst (ms.map V.int)) = H10 at S10 ewo
 have S610 := S7.trans (S8.trans (S9.trans S10))
 have e10 : St3 H10 p s6 := S610 _ _ e6
 have eD10 := S610 _ _ eD6
 have S010 := S6.trans S610
 have nwp : wo ≠ p := Ne.symm (qB (S9 _ _ (S8 _ _ (S7 _ _ (show H6 p = some _ from e6)))) hwo)
 clear pm est eD2 er pr lws ul hst hwo nD2 nr a0 a1 al p5 S7 S8 S9 S10
 wtm_at "zw"
 refine ⟨xF (show 0 ≤ 1000000 by decide), fun fo hfo => ?_⟩
 have S11 := qV hfo (.lst [])
 have efo : upd H10 fo (.lst []) fo = some (.lst []) := qW
 have nfp : fo ≠ p := Ne.symm (qB (show H10 p = some _ from e10) hfo)
 have nfw : wo ≠ fo := qB ewo hfo
 have nfD : D ≠ fo := qB eD10 hfo
 have f0 : H0 fo = none := S010.free hfo
 generalize upd H10 fo (.lst []) = H11 at S11 efo
 have e11 : St3 H11 p s6 := S11 _ _ e10
 have ewo11 := S11 _ _ ewo
 have eD11 := S11 _ _ eD10
 have S011 := S010.trans S11
 have fr0 : ∀ d ∈ [p, fo], H0 d = none := fun d hd => by
  simp at hd
  rcases hd with rfl | rfl
  ·exact np
  ·exact f0
 have lmi : (intsV ms).length = ms.length := List.length_map _
 wtm_at "zf"
 refine ⟨(intsV ms).length, rfl, by omega, by omega, ?_⟩
 refine zP (fun i σ' H' => ∃ (z9 : Option V) (fu : List V) (s7 : S3), σ' = [some (.ref p), some (.ref wp), some (.int m), some (.int k), some (.int kind), some (.ref D), some (.str dd.name), some (.ref wo), some (.ref fo), z9] ∧ Keep [p, fo] H11 H' ∧ St3 H' p s7 ∧ s7.n ≤ 201 + i ∧ H' fo = some (.lst fu) ∧ fu.length ≤ i ∧ ForksAt H' fu)
  ⟨none, [], s6, rfl, .refl, e11, n6, efo, Nat.le_refl _, fun u h => nomatch h⟩ ?_ ?_
 ·rintro N rt bk i σ' H12 hi ⟨z9, fu, s7, rfl, k12, e12, n12, efo12, lf12, ff12⟩ hN
  have i125 : i < 125 := by omega
  wtm_at "zw"
  refine ⟨p, s7, 9, rfl, e12, by decide, by decide +kernel, by omega, fun H13 B13 e13 => ?_⟩
  have k13 := k12.trans (.but1 B13 (by simp))
  have efo13 := B13 _ _ nfp efo12
  have ff13 := ff12.tups (xR B13 e12)
  have ewo13 := k13 wo _ (by simp [nwp, nfw]) ewo11
  have eD13 := k13 D _ (by simp [nDp, nfD]) eD11
  have n13 : (takeS s7 9).n ≤ 201 + (i + 1) := by show s7.n + 1 ≤ _; omega
  wtm_at "zw"
  refine ite2 (fun c => ?_) (fun c => ?_)
  ·wtm_at "zw"
   refine ⟨.inl ⟨rfl, _, SqL.of efo13⟩, ?_⟩
   have hwi : atI (intsV ms) (0 + (i : Int)) = some (.int (ms.getD i 0)) := by rw [Int.zero_add]; exact ints_at (by omega)
   have hj : ((0 + (i : Int)) % 12) = ((i % 12 : Nat) : Int) := by omega
   have hDi : atI (intsV zs) ((0 + (i : Int)) % 12) = some (.int (zs.getD (i % 12) 0)) := by rw [hj]; exact ints_at (by omega)
   wtm_at "zw"
   refine w_I (show (0 : Int) < 12 by decide) ?_
   wtm_at "zw"
   refine ⟨xF (show 2 ≤ 1000000 by decide), fun t ht => ?_⟩
   have S14 := qV ht (.tup [V.int (ms.getD i 0), .int (zs.getD (i % 12) 0)])
   have et : upd H13 t (.tup [V.int (ms.getD i 0), .int (zs.getD (i % 12) 0)]) t = some _ := qW
   generalize upd H13 t (.tup [V.int (ms.getD i 0), .int (zs.getD (i % 12) 0)]) = H14 at S14 et
   have efo14 := S14 _ _ efo13
   refine ⟨fo, fu, .ref t, rfl, rfl, efo14, small (by omega), ?_⟩
   have T15 : Tups H14 (upd H14 fo (.lst (fu ++ [.ref t]))) := zE efo14
   refine hN _ _ ⟨_, fu ++ [.ref t], _, rfl, (k13.trans (.of S14)).trans (.upd (by simp)), ?_, n13, qW, by rw [List.length_append]; show _ + 1 ≤ _; omega, fun u hu => ?_⟩
   ·show upd _ _ _ _ = _
    rw [qA (Ne.symm nfp)]; exact S14 _ _ e13
   ·rcases List.mem_append.mp hu with h | h
    ·exact ((ff13.tups (qC S14)).tups T15) u h
    ·exact ⟨(ms.getD i 0, zs.getD (i % 12) 0), ⟨t, List.mem_singleton.mp h, T15 _ _ et⟩, hz _ (Nat.mod_lt _ (by decide))⟩
  ·exact hN _ _ ⟨_, fu, _, rfl, k13, e13, n13, efo13, by omega, ff13⟩
 rintro σ' H12 ⟨z9, fu, s7, rfl, k12, e12, n12, efo12, lf12, ff12⟩
 have lf125 : fu.length ≤ 125 := by omega
 wtm_at "zw"
 refine ⟨fun σ' H' => ∃ (fo' : Addr) (fu : List V), σ' = [some (.ref p), some (.ref wp), some (.int m), some (.int k), some (.int kind), some (.ref D), some (.str dd.name), some (.ref wo), some (.ref fo'), z9] ∧ Keep [p, fo] H11 H' ∧ H' fo' = some (.lst fu) ∧ fu.length ≤ 500 ∧ ForksAt H' fu, ?_, fun σ' H13 hP => ?_⟩
 ·wtm_at "zw"
  refine ⟨p, s7, 5, rfl, e12, by decide, by decide +kernel, by omega, fun H13 B13 e13 => ?_⟩
  have k13 := k12.trans (.but1 B13 (by simp))
  have efo13 := B13 _ _ nfp efo12
  have ff13 := ff12.tups (xR B13 e12)
  have ewo13 := k13 wo _ (by simp [nwp, nfw]) ewo11
  have eD13 := k13 D _ (by simp [nDp, nfD]) eD11
  wtm_at "zw"
  refine ite2 (fun c => ?_) (fun c => ?_)
  ·have hl : atI (intsV ms) (-1) = some (.int (ms.getD (ms.length - 1) 0)) := by
    unfold atI ixN
    rw [if_neg (by decide), if_pos (by rw [lmi]; omega), show (-1 + ((intsV ms).length : Int)).toNat = ms.length - 1 by rw [lmi]; omega]
    show (ms.map V.int)[ms.length - 1]? = _
    rw [List.getElem?_map, List.getD_eq_getElem?_getD, List.getElem?_eq_getElem (by omega)]; rfl
   have h11 : atI (intsV zs) 11 = some (.int (zs.getD 11 0)) := ints_at (i := 11) (by omega)
   wtm_at "zw"
   refine ⟨xF (show 2 ≤ 1000000 by decide), fun t ht => ?_⟩
   have S14 := qV ht (.tup [V.int (ms.getD (ms.length - 1) 0 + 1), .int (zs.getD 11 0)])
   have et : upd H13 t (.tup [V.int (ms.getD (ms.length - 1) 0 + 1), .int (zs.getD 11 0)]) t = some _ := qW
   generalize upd H13 t (.tup [V.int (ms.getD (ms.length - 1) 0 + 1), .int (zs.getD 11 0)]) = H14 at S14 et
   wtm_at "zw"
   refine ⟨xF (show 1 ≤ 1000000 by decide), fun l5 hl5 => ?_⟩
   have S15 := qV hl5 (.lst [V.ref t])
   have el5 : upd H14 l5 (.lst [V.ref t]) l5 = some _ := qW
   generalize upd H14 l5 (.lst [V.ref t]) = H15 at S15 el5
   have efo15 := S15 _ _ (S14 _ _ efo13)
   wtm_at "zw"
   refine ⟨_, rfl, 1, rfl, fo, fu, -1, rfl, rfl, by decide, SqL.of efo15, fun l6 idx hl6 lidx => ?_⟩
   have S16 := qV hl6 (.lst (idx.filterMap (fu[·]?)))
   have el6 : upd H15 l6 (.lst (idx.filterMap (fu[·]?))) l6 = some _ := qW
   have mem : ∀ u ∈ idx.filterMap (fu[·]?), u ∈ fu := fun u hu => by
    obtain ⟨j, _, e⟩ := List.mem_filterMap.mp hu
    exact List.mem_of_getElem? e
   generalize upd H15 l6 (.lst (idx.filterMap (fu[·]?))) = H16 at S16 el6
   generalize idx.filterMap (fu[·]?) = gu at mem el6 lidx
   refine ⟨l5, l6, _, _, rfl, rfl, S16 _ _ el5, el6, smallE (by show 1 + gu.length ≤ _; omega), fun l7 hl7 => ?_⟩
   have S17 := qV hl7 (.lst ([V.ref t] ++ gu))
   have S1317 := S14.trans (S15.trans (S16.trans S17))
   refine ⟨l7, [V.ref t] ++ gu, rfl, k13.trans (.of S1317), qW, by rw [List.length_append]; show 1 + _ ≤ _; omega, fun u hu => ?_⟩
   rcases List.mem_append.mp hu with h | h
   ·exact ⟨(ms.getD (ms.length - 1) 0 + 1, zs.getD 11 0), ⟨t, List.mem_singleton.mp h, S17 _ _ (S16 _ _ (S15 _ _ et))⟩, hz 11 (by decide)⟩
   ·exact (ff13.tups (qC S1317)) u (mem u h)
  ·exact ⟨fo, fu, rfl, k13, efo13, by omega, ff13⟩
 obtain ⟨fo', fu', rfl, k13, efo13, lf13, ff13⟩ := hP
 have S013 := k13.same S011 fr0
 wtm_at "zw"
 refine ⟨fo', fu', rfl, SqL.of efo13, fun t1 ht1 => ?_⟩
 have S14 := qV ht1 (.tup fu')
 have et1 : upd H13 t1 (.tup fu') t1 = some _ := qW
 generalize upd H13 t1 (.tup fu') = H14 at S14 et1
 wtm_at "zw"
 refine ⟨xF (show 3 ≤ 1000000 by decide), fun t2 ht2 => ?_⟩
 have S15 := qV ht2 (.tup [V.str "look", .str dd.name, .ref t1])
 obtain ⟨fs, pf, fb⟩ := (ff13.tups (qC (S14.trans S15))).paired
 have lfs := pf.length
 exact q (.see dd.name fs) _ _ (S013.trans (S14.trans S15)) ⟨ok.ln dd hd, by omega, fb⟩ ⟨t2, t1, fu', rfl, qW, S15 _ _ et1, pf⟩

theorem vZ : FnScope ["script", "world", "first", "many"] ["script", "world", "first"] (xB (top 37)) := ⟨rfl, rfl, rfl, by decide +kernel, rfl, by decide +kernel, by decide +kernel⟩
theorem kE : CompOk (xB (top 37)) ["script", "world", "first", "many"] (scAt (xC (top 37)) [1] []) ["k", "world", "many", "script", "first"] 1 [1, 3, 0, 2] :=
 ⟨by decide +kernel, by decide +kernel, by decide +kernel, by decide +kernel, by decide +kernel, by decide +kernel, by decide +kernel, by decide +kernel⟩
noncomputable def spLPlan (K : PySem.W.Frag) : Sp := fun vs H Q _ => ∃ (a : Addr) (ns : List Int) (wv : V) (W : Wd) (f : Nat), vs = [.ref a, wv, .int f] ∧ SqL K H a (intsV ns) ∧ WAt H W wv ∧ WOk W ∧
 ∀ (r : Addr) (us : List V) (nds : List Nd) (H' : Hp), H r = none → Same H H' → H' r = some (.lst us) → Paired (NdAt H') nds us → (∀ n ∈ nds, n.Fine) → 1 ≤ nds.length → nds.length ≤ 10 → Q (.ref r) H'
theorem NdAt.tups {H H' : Hp} {n : Nd} {u : V} (h : NdAt H n u) (t : Tups H H') : NdAt H' n u := by
 cases n with
 | fin => obtain ⟨a, e, h⟩ := h; exact ⟨a, e, t _ _ h⟩
 | act x to => obtain ⟨a, e, h⟩ := h; exact ⟨a, e, t _ _ h⟩
 | see x fs => obtain ⟨a, p, us, e, h, h2, h3⟩ := h; exact ⟨a, p, us, e, t _ _ h, t _ _ h2, Paired.mapP h3 fun _ _ z => let ⟨b, e1, e2⟩ := z; ⟨b, e1, t _ _ e2⟩⟩
theorem dn_lplan (F : Fd K mg "_law_plan" (top 37) ["script", "world", "first"]) (B : Bl mg) (D_law_cell : Dn P w K mg base "_law_cell" 1 ["script", "k"] (spCell K)) (D_law_state : Dn P w K mg base "_law_state" 1 ["cell"] spState) (D_law_take : Dn P w K mg base "_law_take" 2 ["state", "many"] spTake)
  (D_law_node : Dn P w K mg base "_law_node" 11 ["state", "world", "many", "k"] spNode) : Dn P w K mg base "_law_plan" 12 ["script", "world", "first"] (spLPlan K) := by
 refine F.ok vZ (fun vs H Q E h => ?_) (fun f cdv A outer s H vs Q E hr h => ?_)
 ·obtain ⟨_, _, _, _, _, rfl, _⟩ := h
  rfl
 obtain ⟨a, ns, wv, W, f, rfl, hS, hW, ok, q⟩ := h
 refine ⟨_, (qZ (qN (i := 3) vZ.nd rfl (by wtm_at "zo") (xX zV qF (qD D_law_take hr (qQ (qD D_law_state hr (qQ (qD D_law_cell hr (qQ (pv 0) (qQ (pv 2) qX))) qX)) (qQ qF qX)))))
  (qJ (qO (jZ rfl kE (zC rfl B.range' (qQ (pv 3) qX)) (fun cl fp s H => (qH (i := 0) kE.nd rfl (Or.inl rfl) (.inr rfl))) (fun cl fp s H => jQ) (fun cl fp s H => (qD D_law_node hr (qQ (qD D_law_state hr (qQ (qD D_law_cell hr (qQ (pv 3) (qQ (xX zV (xX zV (pv 4) qF) (pv 0)) qX))) qX)) (qQ (pv 1) (qQ (pv 2) (qQ (pv 0) qX)))))))))), ?_⟩
 wtm_at "zw"
 refine ⟨a, ns, f, rfl, hS, ?_⟩
 wtm_at "zw"
 refine ⟨cellM ns f, rfl, fun p H1 np S1 e1 => ?_⟩
 wtm_at "zw"
 refine ⟨p, _, 10, rfl, e1, by decide, by decide +kernel, by show 0 ≤ _; omega, fun H2 B2 e2 => ?_⟩
 have tb := xH (stateM (cellM ns f)) (m := 10) (by decide)
 have S2 := zZ S1 np B2
 obtain ⟨m, em⟩ : ∃ m : Nat, 1 + takeV (stateM (cellM ns f)) 10 = (m : Int) := ⟨(1 + takeV (stateM (cellM ns f)) 10).toNat, by omega⟩
 wtm_at "zf"
 rw [em]
 refine ⟨m, rfl, by omega, by omega, ?_⟩
 rw [Int.toNat_natCast]
 refine kJ (fun D i ys H' => ∃ nds : List Nd, Paired (NdAt H') nds ys ∧ nds.length = i ∧ (∀ n ∈ nds, n.Fine) ∧ Same H2 H') (fun D hD => ⟨[], .nil, rfl, (fun n h => nomatch h), qV hD _⟩) (fun D i ys H' N hD hDy hi hP hN => ?_) (fun D ys H3 hD hDy hP => ?_)
 ·obtain ⟨nds, pn, ln, fine, S3⟩ := hP
  have l1 := pn.length
  refine ⟨⟨[some (.int (0 + (i : Int)))], rfl, rfl⟩, ?_⟩
  wtm_at "zw"
  refine ⟨a, ns, f + 1 + i, by rw [show ((f : Int) + 1 + (0 + (i : Int))) = ((f + 1 + i : Nat) : Int) by omega]; rfl, (S2.trans S3).seq hS, ?_⟩
  wtm_at "zw"
  refine ⟨cellM ns (f + 1 + i), rfl, fun p2 H4 np2 S4 e4 => ?_⟩
  wtm_at "zw"
  refine ⟨p2, _, H', wv, W, m, i, by rw [Int.zero_add]; rfl, S4, np2, e4, by show 0 ≤ _; omega, hW.same (S2.trans S3), ok, by omega, by omega, hi, fun n u H5 S5 fn hn => ?_⟩
  have eD := S5 _ _ hDy
  have T6 : Tups H5 (upd H5 D (.lst (ys ++ [u]))) := zE eD
  refine ⟨eD, small (by omega), hN _ _ qW ⟨nds ++ [n], Paired.snoc (Paired.mapP pn fun _ _ y => (y.same S5).tups T6) (hn.tups T6), by rw [List.length_append, ln]; rfl, fun n' h => ?_, fun b o e => ?_⟩⟩
  ·rcases List.mem_append.mp h with r | r
   ·exact fine n' r
   ·rw [List.mem_singleton.mp r]; exact fn
  ·rw [qA (qB e hD)]; exact S5 _ _ (S3 _ _ e)
 ·obtain ⟨nds, pn, ln, fine, S3⟩ := hP
  exact q D ys nds H3 (S2.free hD) (S2.trans S3) hDy pn fine (by omega) (by omega)
theorem xM : FnScope ["nodes", "world", "cell", "state", "at", "way", "far", "fig", "deed", "look", "some", "more"] ["nodes", "world", "cell"] (xB (top 40)) := ⟨rfl, rfl, rfl, by decide +kernel, rfl, by decide +kernel, by decide +kernel⟩
noncomputable def NodesAt (H : Hp) (us : List V) : Prop := ∀ u ∈ us, ∃ n : Nd, n.Fine ∧ NdAt H n u
theorem NodesAt.tups {H H' : Hp} (t : Tups H H') {us : List V} (h : NodesAt H us) : NodesAt H' us := fun u hu => let ⟨n, f, a⟩ := h u hu; ⟨n, f, a.tups t⟩
theorem NodesAt.paired {H : Hp} : ∀ {us : List V}, NodesAt H us → ∃ nds : List Nd, Paired (NdAt H) nds us ∧ ∀ n ∈ nds, n.Fine
 | [], _ => ⟨[], .nil, fun f h => nomatch h⟩
 | u :: us, h => by
  obtain ⟨n, f, hn⟩ := h u List.mem_cons_self
  obtain ⟨ns, hns, fs⟩ := NodesAt.paired (us := us) fun v hv => h v (List.mem_cons_of_mem _ hv)
  refine ⟨n :: ns, .cons hn hns, fun g hg => ?_⟩
  rcases List.mem_cons.mp hg with rfl | hg
  ·exact f
  ·exact fs g hg
theorem NodesAt.of {H : Hp} {nds : List Nd} {us : List V} (p : Paired (NdAt H) nds us) (f : ∀ n ∈ nds, n.Fine) : NodesAt H us := by
 induction p with
 | nil => exact fun u h => nomatch h
 | cons r _ ih =>
  intro u hu
  rcases List.mem_cons.mp hu with rfl | hu
  ·exact ⟨_, f _ List.mem_cons_self, r⟩
  ·exact ih (fun n hn => f n (List.mem_cons_of_mem _ hn)) u hu
theorem NodesAt.app {H : Hp} {us vs : List V} (a : NodesAt H us) (b : NodesAt H vs) : NodesAt H (us ++ vs) := fun u hu => (List.mem_append.mp hu).elim (a u) (b u)
theorem NodesAt.nil {H : Hp} : NodesAt H [] := fun u h => nomatch h
theorem NodesAt.cons {H : Hp} {u : V} {us : List V} {n : Nd} (f : n.Fine) (h : NdAt H n u) (t : NodesAt H us) : NodesAt H (u :: us) := fun v hv => by
 rcases List.mem_cons.mp hv with rfl | hv
 ·exact ⟨n, f, h⟩
 ·exact t v hv
noncomputable def spSpoiled : Sp := fun vs H Q _ => ∃ (la : Addr) (us : List V) (wv : V) (W : Wd) (c : Int), vs = [.ref la, wv, .int c] ∧ H la = some (.lst us) ∧ NodesAt H us ∧ 1 ≤ us.length ∧ us.length ≤ 10 ∧ WAt H W wv ∧ WOk W ∧
 ∀ (r : Addr) (vs : List V) (H' : Hp), H r = none → Same H H' → H' r = some (.lst vs) → NodesAt H' vs → vs.length ≤ 30 → Q (.ref r) H'
theorem short_seem : Short "seem" := by
 refine kM (fun c hc => ?_) (by decide)
 have h : ∀ c ∈ ("seem" : Str).cps.toList, (Builtin.Str.reprChar 34 c).length ≤ 1 ∧ (Builtin.Str.reprChar 39 c).length ≤ 1 := by decide +kernel
 exact h c hc
theorem short_nobody : Short "nobody" := by
 refine kM (fun c hc => ?_) (by decide)
 have h : ∀ c ∈ ("nobody" : Str).cps.toList, (Builtin.Str.reprChar 34 c).length ≤ 1 ∧ (Builtin.Str.reprChar 39 c).length ≤ 1 := by decide +kernel
 exact h c hc
theorem short_go : Short "go" := by
 refine kM (fun c hc => ?_) (by decide)
 have h : ∀ c ∈ ("go" : Str).cps.toList, (Builtin.Str.reprChar 34 c).length ≤ 1 ∧ (Builtin.Str.reprChar 39 c).length ≤ 1 := by decide +kernel
 exact h c hc
theorem yH {x : Str} (h : Short x) {fs : List (Int × Int)} (l : fs.length ≤ 3) (b : ∀ f ∈ fs, f.2.natAbs < 10 ^ 100) : (Nd.see x fs).Fine := ⟨h, by omega, b⟩
theorem cut_mem {xs : List V} {lo hi : Option Int} {v : V} (h : v ∈ cutV xs lo hi) : v ∈ xs := by
 unfold cutV at h
 exact List.mem_of_mem_drop (List.mem_of_mem_take h)
theorem at_mem {us : List V} {i : Int} {u : V} (h : atI us i = some u) : u ∈ us := by
 unfold atI at h
 cases e : ixN us.length i with
 | none => rw [e] at h; cases h
 | some k =>
  rw [e] at h
  have h : us[k]? = some u := h
  exact List.mem_of_getElem? h
theorem dn_spoiled (F : Fd K mg "_law_spoiled" (top 40) ["nodes", "world", "cell"]) (B : Bl mg) (D_law_state : Dn P w K mg base "_law_state" 1 ["cell"] spState) (D_law_take : Dn P w K mg base "_law_take" 2 ["state", "many"] spTake) : Dn P w K mg base "_law_spoiled" 3 ["nodes", "world", "cell"] spSpoiled := by
 refine F.ok xM (fun vs H Q E h => ?_) (fun f cdv A outer s' H vs Q E hr h => ?_)
 ·obtain ⟨_, _, _, _, _, rfl, _⟩ := h
  rfl
 obtain ⟨la, us, wv, W, c, rfl, ela, nus, u1, u10, hW, ok, q⟩ := h
 obtain ⟨wp, bx, dx, lx, bv, gv, rfl, ewp, L⟩ := id hW
 obtain ⟨du, edx, pd⟩ := L.deeds
 obtain ⟨lu, elx, pl⟩ := L.looks
 have ld := pd.length
 have ll := pl.length
 have d4 := ok.d4
 have l3 := ok.l3
 have d1 : 1 ≤ du.length := by
  rw [← ld]
  exact List.length_pos_iff.mpr ok.d1
 refine ⟨_, (qZ (qN (i := 3) xM.nd rfl (by wtm_at "zo") (qD D_law_state hr (qQ (pv 2) qX)))
  (qZ (qN (i := 4) xM.nd rfl (by wtm_at "zo") (qD D_law_take hr (qQ (pv 3) (qQ (xJ (xS (K := K)) rfl B.len' zH (qQ (pv 0) qX)) qX))))
  (qZ (qN (i := 5) xM.nd rfl (by wtm_at "zo") (qD D_law_take hr (qQ (pv 3) (qQ qF qX))))
  (qZ (qN (i := 6) xM.nd rfl (by wtm_at "zo") (xG (qU (K := K)) (xP (qQ (xJ (xS (K := K)) rfl B.len' zH (qQ (pv 0) qX)) (qQ (pe_un un_neg qF) (qQ (xX zV (xJ (xS (K := K)) rfl B.len' zH (qQ (pv 0) qX)) qF) (qQ qF qX))))) (qD D_law_take hr (qQ (pv 3) (qQ qF qX))) (fun _ _ => rfl)))
  (qZ (qN (i := 7) xM.nd rfl (by wtm_at "zo") (qD D_law_take hr (qQ (pv 3) (qQ qF qX))))
  (qZ (qN (i := 8) xM.nd rfl (by wtm_at "zo") (xG (qT (K := K)) (xG (qU (K := K)) (xG (qT (K := K)) (pv 1) qF (fun _ _ => rfl)) (qD D_law_take hr (qQ (pv 3) (qQ (xJ (xS (K := K)) rfl B.len' zH (qQ (xG (qT (K := K)) (pv 1) qF (fun _ _ => rfl)) qX)) qX))) (fun _ _ => rfl)) qF (fun _ _ => rfl)))
  (qZ (qN (i := 9) xM.nd rfl (by wtm_at "zo") (xG (qT (K := K)) (xG (qU (K := K)) (xX kB (xG (qT (K := K)) (pv 1) qF (fun _ _ => rfl)) (xP (qQ (xN (qQ qG (qQ qF (qQ (xN (qQ qG (qQ qF qX))) qX)))) qX))) qF (fun _ _ => rfl)) qF (fun _ _ => rfl)))
  (qZ (qN (i := 10) xM.nd rfl (by wtm_at "zo") (xP (qQ (xN (qQ qG (qQ (pv 8) (qQ (pv 6) qX)))) (qQ (xN (qQ qG (qQ (pv 9) (qQ (xN (qQ (xN (qQ (pv 7) (qQ (pv 6) qX))) qX)) qX)))) qX))))
  (qZ (qR (yV (K := K) PySem.F.plainAttrs_list PySem.F.slot_list_append PySem.F.type_list_append zF (pv 10) (qQ (xN (qQ qG (qQ (pv 9) (qQ (xN (qQ (xN (qQ (pv 7) (qQ qF qX))) (qQ (xN (qQ (xX zV (pv 7) qF) (qQ qF qX))) (qQ (xN (qQ (pv 7) (qQ (pv 4) qX))) qX)))) qX)))) qX)))
  (qZ (qN (i := 10) xM.nd rfl (by wtm_at "zo") (xX kB (pv 10) (xP (qQ (xN (qQ qG (qQ qG (qQ qF qX)))) (qQ (xN (qQ qG (qQ (pv 9) (qQ qF qX)))) (qQ (xN (qQ qG (qQ (pv 8) (qQ (xN qX) qX)))) qX))))))
  (qZ (qN (i := 10) xM.nd rfl (by wtm_at "zo") (xX kB (pv 10) (xP (qQ (xN (qQ qG (qQ qG (qQ (xN (qQ (xN (qQ (pv 7) (qQ (pv 6) qX))) qX)) qX)))) (qQ (xN (qQ qG qX)) qX)))))
  (qZ (zJ (qS zD (pv 5) qF (xE _)) (qJ (qO (xZ (yX (K := K)) rfl B.list' vU (qQ (pv 0) qX)))) qY)
  (qZ (qN (i := 11) xM.nd rfl (by wtm_at "zo") (xZ (yX (K := K)) rfl B.list' vU (qQ (pv 0) qX)))
  (qK (zJ (qS zD (qD D_law_take hr (qQ (pv 3) (qQ qF qX))) qF (xE _)) (qJ (qR (yV (K := K) PySem.F.plainAttrs_list PySem.F.slot_list_append PySem.F.type_list_append zF (pv 11) (qQ (xG (qU (K := K)) (pv 10) (qD D_law_take hr (qQ (pv 3) (qQ qF qX))) (fun _ _ => rfl)) qX)))) qY)
  (qJ (qO (xX kB (xX kB (pe_slice (sl_listK (K := K)) (pv 11) po_none (po_some (pv 4))) (xP (qQ (xG (qU (K := K)) (pv 10) (pv 5) (fun _ _ => rfl)) qX))) (pe_slice (sl_listK (K := K)) (pv 11) (po_some (xX zV (pv 4) qF)) po_none)))))))))))))))))), ?_⟩
 wtm_at "zw"
 refine ⟨c, rfl, fun p H1 np S1 e1 => ?_⟩
 have ela1 := S1 _ _ ela
 wtm_at "zw"
 refine ⟨p, stateM c, us.length, rfl, e1, by omega, big _ (by omega) (Int.lt_of_le_of_lt (b := 100) (by omega) (by decide +kernel)), by show 0 ≤ _; omega, fun H2 B2 e2 => ?_⟩
 have tat := xH (stateM c) (m := us.length) (by omega)
 have S2 := zZ S1 np B2
 have n2 : (takeS (stateM c) us.length).n ≤ 1 := Nat.le_refl _
 generalize takeV (stateM c) us.length = at' at tat
 generalize takeS (stateM c) us.length = s2 at e2 n2
 wtm_at "zw"
 refine ⟨p, s2, 9, rfl, e2, by decide, by decide +kernel, by omega, fun H3 B3 e3 => ?_⟩
 have tw := xH s2 (m := 9) (by decide)
 have S3' := zZ S2 np B3
 have n3 : (takeS s2 9).n ≤ 2 := by show s2.n + 1 ≤ _; omega
 generalize takeV s2 9 = way at tw
 generalize takeS s2 9 = s3 at e3 n3
 have ela3 := S3' _ _ ela
 wtm_at "zw"
 refine ⟨xF (show 4 ≤ 1000000 by decide), fun l1 hl1 => ?_⟩
 have S4 := qV hl1 (.lst [V.int us.length, .int (-1), .int (us.length + 7), .int 0])
 have el1 : upd H3 l1 (.lst [V.int us.length, .int (-1), .int (us.length + 7), .int 0]) l1 = some _ := qW
 have nl1 : l1 ≠ p := Ne.symm (qB (show H3 p = some _ from e3) hl1)
 generalize upd H3 l1 (.lst [V.int us.length, .int (-1), .int (us.length + 7), .int 0]) = H4 at S4 el1
 wtm_at "zw"
 refine ⟨p, s3, 4, rfl, S4 _ _ e3, by decide, by decide +kernel, by omega, fun H5 B5 e5 => ?_⟩
 have tf := xH s3 (m := 4) (by decide)
 have S5 := zZ (S3'.trans S4) np B5
 have n5 : (takeS s3 4).n ≤ 3 := by show s3.n + 1 ≤ _; omega
 obtain ⟨far, hfar, bfar⟩ : ∃ far : Int, atI [V.int us.length, .int (-1), .int (us.length + 7), .int 0] (takeV s3 4) = some (.int far) ∧ far.natAbs < 10 ^ 100 := by
  have c4 : takeV s3 4 = 0 ∨ takeV s3 4 = 1 ∨ takeV s3 4 = 2 ∨ takeV s3 4 = 3 := by omega
  have b : ∀ z : Int, z.natAbs ≤ 1000 → z.natAbs < 10 ^ 100 := fun z h => Nat.lt_of_le_of_lt h (by decide +kernel)
  rcases c4 with z | z | z | z <;> rw [z]
  ·exact ⟨us.length, rfl, b _ (by omega)⟩
  ·exact ⟨-1, rfl, b _ (by decide)⟩
  ·exact ⟨us.length + 7, rfl, b _ (by omega)⟩
  ·exact ⟨0, rfl, b _ (by decide)⟩
 have el5 := B5 _ _ nl1 el1
 generalize takeV s3 4 = i5 at hfar
 generalize takeS s3 4 = s5 at e5 n5
 refine ⟨l1, _, _, .int far, rfl, rfl, SqL.of el5, hfar, ?_⟩
 wtm_at "zw"
 refine ⟨p, s5, 5, rfl, e5, by decide, by decide +kernel, by omega, fun H6 B6 e6 => ?_⟩
 have S6 := zZ S5 np B6
 have n6 : (takeS s5 5).n ≤ 4 := by show s5.n + 1 ≤ _; omega
 generalize takeV s5 5 = fig
 generalize takeS s5 5 = s6 at e6 n6
 have ewp6 := S6 _ _ ewp
 have edx6 := S6 _ _ edx
 have t7 := xH s6 (m := du.length) (by omega)
 wtm_at "zw"
 refine ⟨p, s6, du.length, rfl, e6, by omega, big _ (by omega) (Int.lt_of_le_of_lt (b := 10) (by omega) (by decide +kernel)), by omega, fun H7 B7 e7 => ?_⟩
 have S7 := zZ S6 np B7
 obtain ⟨dd, da, yd, hd, hda, eda⟩ := deed_at (S7 _ _ edx) (Paired.mapP pd fun _ _ y => y.same S7) t7.1 t7.2
 have n7 : (takeS s6 du.length).n ≤ 5 := by show s6.n + 1 ≤ _; omega
 generalize takeV s6 du.length = i7 at hda t7
 generalize takeS s6 du.length = s7 at e7 n7
 refine ⟨dx, _, _, .ref da, rfl, rfl, SqL.of (S7 _ _ edx), hda, ?_⟩
 have ewp7 := S7 _ _ ewp
 have elx7 := S7 _ _ elx
 wtm_at "zw"
 refine ⟨xF (show 2 ≤ 1000000 by decide), fun x1 hx1 => ?_⟩
 have S8 := qV hx1 (.tup [V.str "number", .int 0])
 generalize upd H7 x1 (.tup [V.str "number", .int 0]) = H8 at S8
 wtm_at "zw"
 refine ⟨xF (show 3 ≤ 1000000 by decide), fun x2 hx2 => ?_⟩
 have S9 := qV hx2 (.tup [V.str "seem", .int 1, .ref x1])
 have ex2 : upd H8 x2 (.tup [V.str "seem", .int 1, .ref x1]) x2 = some _ := qW
 generalize upd H8 x2 (.tup [V.str "seem", .int 1, .ref x1]) = H9 at S9 ex2
 wtm_at "zw"
 refine ⟨xF (show 1 ≤ 1000000 by decide), fun x3 hx3 => ?_⟩
 have S10 := qV hx3 (.lst [V.ref x2])
 have ex3 : upd H9 x3 (.lst [V.ref x2]) x3 = some _ := qW
 generalize upd H9 x3 (.lst [V.ref x2]) = H10 at S10 ex3
 have S710 := S8.trans (S9.trans S10)
 refine ⟨lx, x3, lu, _, rfl, rfl, S710 _ _ elx7, ex3, smallE (by show lu.length + 1 ≤ _; omega), fun x4 hx4 => ?_⟩
 have S11 := qV hx4 (.lst (lu ++ [V.ref x2]))
 have ex4 : upd H10 x4 (.lst (lu ++ [V.ref x2])) x4 = some _ := qW
 generalize upd H10 x4 (.lst (lu ++ [V.ref x2])) = H11 at S11 ex4
 have S711 := S710.trans S11
 have S011 := S7.trans S711
 obtain ⟨lk, ka, ky, hat11, eka, hlk⟩ : ∃ (lk : Str) (ka : Addr) (ky : List V), atI (lu ++ [V.ref x2]) 0 = some (.ref ka) ∧ H11 ka = some (.tup (.str lk :: ky)) ∧ Short lk := by
  cases hlu : lu with
  | nil => exact ⟨"seem", x2, _, rfl, S11 _ _ (S10 _ _ ex2), short_seem⟩
  | cons u lu' =>
   have h0 : 0 < W.ls.length := by rw [ll, hlu]; exact Nat.succ_pos _
   obtain ⟨a, v, e1, e2, _⟩ := xV pl (List.getElem?_eq_getElem h0) (show lu[0]? = some u by rw [hlu]; rfl)
   exact ⟨_, a, _, by rw [e1]; exact at_head _ _, S011 _ _ e2, ok.ln _ (List.getElem_mem h0)⟩
 have es : St3 H11 p s7 := S711 _ _ e7
 refine ⟨x4, _, _, .ref ka, rfl, rfl, SqL.of ex4, hat11, ?_⟩
 have hdd := ok.dn dd hd
 have SS := S011
 have nods : NodesAt H11 [] := NodesAt.nil
 have ela11 := S011 _ _ ela
 clear S8 S9 S10 S11 S710 S711 ex2 ex3 ex4 hx1 hx2 hx3 hx4 B7 B6 B5 B3 B2 S4 el1 el5 hl1 e1 e2 e3 e5 e6 e7 S1 S2 S3' S5 S6 S7
 wtm_at "zw"
 refine ⟨xF (show 3 ≤ 1000000 by decide), fun a1 ha1 => ?_⟩
 have S_H12 := qV ha1 (.tup [V.str "do", .str dd.name, .int far])
 have ea1 : upd H11 a1 (.tup [V.str "do", .str dd.name, .int far]) a1 = some (.tup [V.str "do", .str dd.name, .int far]) := qW
 have na1 : a1 ≠ p := Ne.symm (qB (show H11 p = some _ from es) ha1)
 generalize upd H11 a1 (.tup [V.str "do", .str dd.name, .int far]) = H12 at S_H12 ea1
 have ela11 := S_H12 _ _ ela11
 have es : St3 H12 p _ := S_H12 _ _ es
 have SS := SS.trans S_H12
 have nods := nods.tups (qC S_H12)
 wtm_at "zw"
 refine ⟨xF (show 2 ≤ 1000000 by decide), fun b1 hb1 => ?_⟩
 have S_H13 := qV hb1 (.tup [V.int fig, .int far])
 have eb1 : upd H12 b1 (.tup [V.int fig, .int far]) b1 = some (.tup [V.int fig, .int far]) := qW
 have nb1 : b1 ≠ p := Ne.symm (qB (show H12 p = some _ from es) hb1)
 generalize upd H12 b1 (.tup [V.int fig, .int far]) = H13 at S_H13 eb1
 have ela11 := S_H13 _ _ ela11
 have ea1 := S_H13 _ _ ea1
 have es : St3 H13 p _ := S_H13 _ _ es
 have SS := SS.trans S_H13
 have nods := nods.tups (qC S_H13)
 wtm_at "zw"
 refine ⟨xF (show 1 ≤ 1000000 by decide), fun b2 hb2 => ?_⟩
 have S_H14 := qV hb2 (.tup [V.ref b1])
 have eb2 : upd H13 b2 (.tup [V.ref b1]) b2 = some (.tup [V.ref b1]) := qW
 have nb2 : b2 ≠ p := Ne.symm (qB (show H13 p = some _ from es) hb2)
 generalize upd H13 b2 (.tup [V.ref b1]) = H14 at S_H14 eb2
 have ela11 := S_H14 _ _ ela11
 have ea1 := S_H14 _ _ ea1
 have eb1 := S_H14 _ _ eb1
 have es : St3 H14 p _ := S_H14 _ _ es
 have SS := SS.trans S_H14
 have nods := nods.tups (qC S_H14)
 wtm_at "zw"
 refine ⟨xF (show 3 ≤ 1000000 by decide), fun b3 hb3 => ?_⟩
 have S_H15 := qV hb3 (.tup [V.str "look", .str lk, .ref b2])
 have eb3 : upd H14 b3 (.tup [V.str "look", .str lk, .ref b2]) b3 = some (.tup [V.str "look", .str lk, .ref b2]) := qW
 have nb3 : b3 ≠ p := Ne.symm (qB (show H14 p = some _ from es) hb3)
 generalize upd H14 b3 (.tup [V.str "look", .str lk, .ref b2]) = H15 at S_H15 eb3
 have ela11 := S_H15 _ _ ela11
 have ea1 := S_H15 _ _ ea1
 have eb1 := S_H15 _ _ eb1
 have eb2 := S_H15 _ _ eb2
 have es : St3 H15 p _ := S_H15 _ _ es
 have SS := SS.trans S_H15
 have nods := nods.tups (qC S_H15)
 wtm_at "zw"
 refine ⟨xF (show 2 ≤ 1000000 by decide), fun so hso => ?_⟩
 have hso0 : H so = none := SS.free hso
 have S_H16 := qV hso (.lst [V.ref a1, .ref b3])
 have eso : upd H15 so (.lst [V.ref a1, .ref b3]) so = some (.lst [V.ref a1, .ref b3]) := qW
 have nso : so ≠ p := Ne.symm (qB (show H15 p = some _ from es) hso)
 generalize upd H15 so (.lst [V.ref a1, .ref b3]) = H16 at S_H16 eso
 have ela11 := S_H16 _ _ ela11
 have ea1 := S_H16 _ _ ea1
 have eb1 := S_H16 _ _ eb1
 have eb2 := S_H16 _ _ eb2
 have eb3 := S_H16 _ _ eb3
 have es : St3 H16 p _ := S_H16 _ _ es
 have SS := SS.trans S_H16
 have nods := nods.tups (qC S_H16)
 wtm_at "zw"
 have nods : NodesAt H16 [.ref a1, .ref b3] := .cons (n := .act dd.name far) ⟨hdd, bfar⟩ ⟨a1, rfl, ea1⟩ (.cons (n := .see lk [(fig, far)]) (yH hlk (show 1 ≤ 3 by decide) (by simp [bfar])) ⟨b3, b2, [.ref b1], rfl, eb3, eb2, .cons ⟨b1, rfl, eb1⟩ .nil⟩ .nil)
 refine ⟨.inl ⟨rfl, _, SqL.of eso⟩, ?_⟩
 wtm_at "zw"
 refine ⟨xF (show 2 ≤ 1000000 by decide), fun c1 hc1 => ?_⟩
 have S_H17 := qV hc1 (.tup [V.int fig, .int 0])
 have ec1 : upd H16 c1 (.tup [V.int fig, .int 0]) c1 = some (.tup [V.int fig, .int 0]) := qW
 have nc1 : c1 ≠ p := Ne.symm (qB (show H16 p = some _ from es) hc1)
 generalize upd H16 c1 (.tup [V.int fig, .int 0]) = H17 at S_H17 ec1
 have ela11 := S_H17 _ _ ela11
 have eso := S_H17 _ _ eso
 have es : St3 H17 p _ := S_H17 _ _ es
 have SS := SS.trans S_H17
 have nods := nods.tups (qC S_H17)
 wtm_at "zw"
 refine ⟨xF (show 2 ≤ 1000000 by decide), fun c2 hc2 => ?_⟩
 have S_H18 := qV hc2 (.tup [V.int (fig + 1), .int 0])
 have ec2 : upd H17 c2 (.tup [V.int (fig + 1), .int 0]) c2 = some (.tup [V.int (fig + 1), .int 0]) := qW
 have nc2 : c2 ≠ p := Ne.symm (qB (show H17 p = some _ from es) hc2)
 generalize upd H17 c2 (.tup [V.int (fig + 1), .int 0]) = H18 at S_H18 ec2
 have ela11 := S_H18 _ _ ela11
 have eso := S_H18 _ _ eso
 have ec1 := S_H18 _ _ ec1
 have es : St3 H18 p _ := S_H18 _ _ es
 have SS := SS.trans S_H18
 have nods := nods.tups (qC S_H18)
 wtm_at "zw"
 refine ⟨xF (show 2 ≤ 1000000 by decide), fun c3 hc3 => ?_⟩
 have S_H19 := qV hc3 (.tup [V.int fig, .int at'])
 have ec3 : upd H18 c3 (.tup [V.int fig, .int at']) c3 = some (.tup [V.int fig, .int at']) := qW
 have nc3 : c3 ≠ p := Ne.symm (qB (show H18 p = some _ from es) hc3)
 generalize upd H18 c3 (.tup [V.int fig, .int at']) = H19 at S_H19 ec3
 have ela11 := S_H19 _ _ ela11
 have eso := S_H19 _ _ eso
 have ec1 := S_H19 _ _ ec1
 have ec2 := S_H19 _ _ ec2
 have es : St3 H19 p _ := S_H19 _ _ es
 have SS := SS.trans S_H19
 have nods := nods.tups (qC S_H19)
 wtm_at "zw"
 refine ⟨xF (show 3 ≤ 1000000 by decide), fun c4 hc4 => ?_⟩
 have S_H20 := qV hc4 (.tup [V.ref c1, .ref c2, .ref c3])
 have ec4 : upd H19 c4 (.tup [V.ref c1, .ref c2, .ref c3]) c4 = some (.tup [V.ref c1, .ref c2, .ref c3]) := qW
 have nc4 : c4 ≠ p := Ne.symm (qB (show H19 p = some _ from es) hc4)
 generalize upd H19 c4 (.tup [V.ref c1, .ref c2, .ref c3]) = H20 at S_H20 ec4
 have ela11 := S_H20 _ _ ela11
 have eso := S_H20 _ _ eso
 have ec1 := S_H20 _ _ ec1
 have ec2 := S_H20 _ _ ec2
 have ec3 := S_H20 _ _ ec3
 have es : St3 H20 p _ := S_H20 _ _ es
 have SS := SS.trans S_H20
 have nods := nods.tups (qC S_H20)
 wtm_at "zw"
 refine ⟨xF (show 3 ≤ 1000000 by decide), fun c5 hc5 => ?_⟩
 have S_H21 := qV hc5 (.tup [V.str "look", .str lk, .ref c4])
 have ec5 : upd H20 c5 (.tup [V.str "look", .str lk, .ref c4]) c5 = some (.tup [V.str "look", .str lk, .ref c4]) := qW
 have nc5 : c5 ≠ p := Ne.symm (qB (show H20 p = some _ from es) hc5)
 generalize upd H20 c5 (.tup [V.str "look", .str lk, .ref c4]) = H21 at S_H21 ec5
 have ela11 := S_H21 _ _ ela11
 have eso := S_H21 _ _ eso
 have ec1 := S_H21 _ _ ec1
 have ec2 := S_H21 _ _ ec2
 have ec3 := S_H21 _ _ ec3
 have ec4 := S_H21 _ _ ec4
 have es : St3 H21 p _ := S_H21 _ _ es
 have SS := SS.trans S_H21
 have nods := nods.tups (qC S_H21)
 have bat : at'.natAbs < 10 ^ 100 := tiny tat.1 (by omega)
 have b0 : (0 : Int).natAbs < 10 ^ 100 := tiny (by decide) (by decide)
 have nods : NodesAt H21 ([.ref a1, .ref b3] ++ [.ref c5]) := nods.app (.cons (n := .see lk [(fig, 0), (fig + 1, 0), (fig, at')]) (yH hlk (show 3 ≤ 3 by decide) (by intro f hf; simp at hf; rcases hf with rfl | rfl | rfl; exact b0; exact b0; exact bat)) ⟨c5, c4, [.ref c1, .ref c2, .ref c3], rfl, ec5, ec4, .cons ⟨c1, rfl, ec1⟩ (.cons ⟨c2, rfl, ec2⟩ (.cons ⟨c3, rfl, ec3⟩ .nil))⟩ .nil)
 refine ⟨so, _, .ref c5, rfl, rfl, eso, small (by show 2 ≤ _; decide), ?_⟩
 have T22 : Tups H21 (upd H21 so (.lst ([V.ref a1, .ref b3] ++ [.ref c5]))) := zE eso
 have SS : Same H (upd H21 so (.lst ([V.ref a1, .ref b3] ++ [.ref c5]))) := fun b o e => by rw [qA (qB e hso0)]; exact SS _ _ e
 have es : St3 (upd H21 so (.lst ([V.ref a1, .ref b3] ++ [.ref c5]))) p s7 := by
  show upd _ _ _ _ = _
  rw [qA (Ne.symm nso)]; exact es
 have nods := nods.tups T22
 have eso : upd H21 so (.lst ([V.ref a1, .ref b3] ++ [.ref c5])) so = some (.lst ([V.ref a1, .ref b3] ++ [.ref c5])) := qW
 have ela11 := SS _ _ ela
 generalize upd H21 so (.lst ([V.ref a1, .ref b3] ++ [.ref c5])) = H22 at SS es nods eso ela11
 clear T22
 wtm_at "zw"
 refine ⟨xF (show 3 ≤ 1000000 by decide), fun d1 hd1 => ?_⟩
 have S_H23 := qV hd1 (.tup [V.str "do", .str "nobody", .int 0])
 have ed1 : upd H22 d1 (.tup [V.str "do", .str "nobody", .int 0]) d1 = some (.tup [V.str "do", .str "nobody", .int 0]) := qW
 have nd1 : d1 ≠ p := Ne.symm (qB (show H22 p = some _ from es) hd1)
 generalize upd H22 d1 (.tup [V.str "do", .str "nobody", .int 0]) = H23 at S_H23 ed1
 have ela11 := S_H23 _ _ ela11
 have eso := S_H23 _ _ eso
 have es : St3 H23 p _ := S_H23 _ _ es
 have SS := SS.trans S_H23
 have nods := nods.tups (qC S_H23)
 wtm_at "zw"
 refine ⟨xF (show 3 ≤ 1000000 by decide), fun d2 hd2 => ?_⟩
 have S_H24 := qV hd2 (.tup [V.str "do", .str lk, .int 0])
 have ed2 : upd H23 d2 (.tup [V.str "do", .str lk, .int 0]) d2 = some (.tup [V.str "do", .str lk, .int 0]) := qW
 have nd2 : d2 ≠ p := Ne.symm (qB (show H23 p = some _ from es) hd2)
 generalize upd H23 d2 (.tup [V.str "do", .str lk, .int 0]) = H24 at S_H24 ed2
 have ela11 := S_H24 _ _ ela11
 have eso := S_H24 _ _ eso
 have ed1 := S_H24 _ _ ed1
 have es : St3 H24 p _ := S_H24 _ _ es
 have SS := SS.trans S_H24
 have nods := nods.tups (qC S_H24)
 wtm_at "zw"
 refine ⟨xF (show 0 ≤ 1000000 by decide), fun d3 hd3 => ?_⟩
 have S_H25 := qV hd3 (.tup [])
 have ed3 : upd H24 d3 (.tup []) d3 = some (.tup []) := qW
 have nd3 : d3 ≠ p := Ne.symm (qB (show H24 p = some _ from es) hd3)
 generalize upd H24 d3 (.tup []) = H25 at S_H25 ed3
 have ela11 := S_H25 _ _ ela11
 have eso := S_H25 _ _ eso
 have ed1 := S_H25 _ _ ed1
 have ed2 := S_H25 _ _ ed2
 have es : St3 H25 p _ := S_H25 _ _ es
 have SS := SS.trans S_H25
 have nods := nods.tups (qC S_H25)
 wtm_at "zw"
 refine ⟨xF (show 3 ≤ 1000000 by decide), fun d4 hd4 => ?_⟩
 have S_H26 := qV hd4 (.tup [V.str "look", .str dd.name, .ref d3])
 have ed4 : upd H25 d4 (.tup [V.str "look", .str dd.name, .ref d3]) d4 = some (.tup [V.str "look", .str dd.name, .ref d3]) := qW
 have nd4 : d4 ≠ p := Ne.symm (qB (show H25 p = some _ from es) hd4)
 generalize upd H25 d4 (.tup [V.str "look", .str dd.name, .ref d3]) = H26 at S_H26 ed4
 have ela11 := S_H26 _ _ ela11
 have eso := S_H26 _ _ eso
 have ed1 := S_H26 _ _ ed1
 have ed2 := S_H26 _ _ ed2
 have ed3 := S_H26 _ _ ed3
 have es : St3 H26 p _ := S_H26 _ _ es
 have SS := SS.trans S_H26
 have nods := nods.tups (qC S_H26)
 wtm_at "zw"
 refine ⟨xF (show 3 ≤ 1000000 by decide), fun d5 hd5 => ?_⟩
 have S_H27 := qV hd5 (.lst [V.ref d1, .ref d2, .ref d4])
 have ed5 : upd H26 d5 (.lst [V.ref d1, .ref d2, .ref d4]) d5 = some (.lst [V.ref d1, .ref d2, .ref d4]) := qW
 have nd5 : d5 ≠ p := Ne.symm (qB (show H26 p = some _ from es) hd5)
 generalize upd H26 d5 (.lst [V.ref d1, .ref d2, .ref d4]) = H27 at S_H27 ed5
 have ela11 := S_H27 _ _ ela11
 have eso := S_H27 _ _ eso
 have ed1 := S_H27 _ _ ed1
 have ed2 := S_H27 _ _ ed2
 have ed3 := S_H27 _ _ ed3
 have ed4 := S_H27 _ _ ed4
 have es : St3 H27 p _ := S_H27 _ _ es
 have SS := SS.trans S_H27
 have nods := nods.tups (qC S_H27)
 have nods : NodesAt H27 (([.ref a1, .ref b3] ++ [.ref c5]) ++ [.ref d1, .ref d2, .ref d4]) := nods.app (.cons (n := .act "nobody" 0) ⟨short_nobody, b0⟩ ⟨d1, rfl, ed1⟩ (.cons (n := .act lk 0) ⟨hlk, b0⟩ ⟨d2, rfl, ed2⟩ (.cons (n := .see dd.name []) (yH hdd (by decide) (fun f h => nomatch h)) ⟨d4, d3, [], rfl, ed4, ed3, .nil⟩ .nil)))
 refine ⟨so, d5, _, _, rfl, rfl, eso, ed5, smallE (by show 3 + 3 ≤ _; decide), fun s2 hs2 => ?_⟩
 have S_H28 := qV hs2 (.lst (([V.ref a1, .ref b3] ++ [.ref c5]) ++ [.ref d1, .ref d2, .ref d4]))
 have es2 : upd H27 s2 (.lst (([V.ref a1, .ref b3] ++ [.ref c5]) ++ [.ref d1, .ref d2, .ref d4])) s2 = some (.lst (([V.ref a1, .ref b3] ++ [.ref c5]) ++ [.ref d1, .ref d2, .ref d4])) := qW
 have ns2 : s2 ≠ p := Ne.symm (qB (show H27 p = some _ from es) hs2)
 generalize upd H27 s2 (.lst (([V.ref a1, .ref b3] ++ [.ref c5]) ++ [.ref d1, .ref d2, .ref d4])) = H28 at S_H28 es2
 have ela11 := S_H28 _ _ ela11
 have es : St3 H28 p _ := S_H28 _ _ es
 have SS := SS.trans S_H28
 have nods := nods.tups (qC S_H28)
 wtm_at "zw"
 refine ⟨xF (show 2 ≤ 1000000 by decide), fun f1 hf1 => ?_⟩
 have S_H29 := qV hf1 (.tup [V.int fig, .int far])
 have ef1 : upd H28 f1 (.tup [V.int fig, .int far]) f1 = some (.tup [V.int fig, .int far]) := qW
 have nf1 : f1 ≠ p := Ne.symm (qB (show H28 p = some _ from es) hf1)
 generalize upd H28 f1 (.tup [V.int fig, .int far]) = H29 at S_H29 ef1
 have ela11 := S_H29 _ _ ela11
 have es2 := S_H29 _ _ es2
 have es : St3 H29 p _ := S_H29 _ _ es
 have SS := SS.trans S_H29
 have nods := nods.tups (qC S_H29)
 wtm_at "zw"
 refine ⟨xF (show 1 ≤ 1000000 by decide), fun f2 hf2 => ?_⟩
 have S_H30 := qV hf2 (.tup [V.ref f1])
 have ef2 : upd H29 f2 (.tup [V.ref f1]) f2 = some (.tup [V.ref f1]) := qW
 have nf2 : f2 ≠ p := Ne.symm (qB (show H29 p = some _ from es) hf2)
 generalize upd H29 f2 (.tup [V.ref f1]) = H30 at S_H30 ef2
 have ela11 := S_H30 _ _ ela11
 have es2 := S_H30 _ _ es2
 have ef1 := S_H30 _ _ ef1
 have es : St3 H30 p _ := S_H30 _ _ es
 have SS := SS.trans S_H30
 have nods := nods.tups (qC S_H30)
 wtm_at "zw"
 refine ⟨xF (show 3 ≤ 1000000 by decide), fun f3 hf3 => ?_⟩
 have S_H31 := qV hf3 (.tup [V.str "look", .str "go", .ref f2])
 have ef3 : upd H30 f3 (.tup [V.str "look", .str "go", .ref f2]) f3 = some (.tup [V.str "look", .str "go", .ref f2]) := qW
 have nf3 : f3 ≠ p := Ne.symm (qB (show H30 p = some _ from es) hf3)
 generalize upd H30 f3 (.tup [V.str "look", .str "go", .ref f2]) = H31 at S_H31 ef3
 have ela11 := S_H31 _ _ ela11
 have es2 := S_H31 _ _ es2
 have ef1 := S_H31 _ _ ef1
 have ef2 := S_H31 _ _ ef2
 have es : St3 H31 p _ := S_H31 _ _ es
 have SS := SS.trans S_H31
 have nods := nods.tups (qC S_H31)
 wtm_at "zw"
 refine ⟨xF (show 1 ≤ 1000000 by decide), fun g1 hg1 => ?_⟩
 have S_H32 := qV hg1 (.tup [V.str "end"])
 have eg1 : upd H31 g1 (.tup [V.str "end"]) g1 = some (.tup [V.str "end"]) := qW
 have ng1 : g1 ≠ p := Ne.symm (qB (show H31 p = some _ from es) hg1)
 generalize upd H31 g1 (.tup [V.str "end"]) = H32 at S_H32 eg1
 have ela11 := S_H32 _ _ ela11
 have es2 := S_H32 _ _ es2
 have ef1 := S_H32 _ _ ef1
 have ef2 := S_H32 _ _ ef2
 have ef3 := S_H32 _ _ ef3
 have es : St3 H32 p _ := S_H32 _ _ es
 have SS := SS.trans S_H32
 have nods := nods.tups (qC S_H32)
 wtm_at "zw"
 refine ⟨xF (show 2 ≤ 1000000 by decide), fun g2 hg2 => ?_⟩
 have S_H33 := qV hg2 (.lst [V.ref f3, .ref g1])
 have eg2 : upd H32 g2 (.lst [V.ref f3, .ref g1]) g2 = some (.lst [V.ref f3, .ref g1]) := qW
 have ng2 : g2 ≠ p := Ne.symm (qB (show H32 p = some _ from es) hg2)
 generalize upd H32 g2 (.lst [V.ref f3, .ref g1]) = H33 at S_H33 eg2
 have ela11 := S_H33 _ _ ela11
 have es2 := S_H33 _ _ es2
 have ef1 := S_H33 _ _ ef1
 have ef2 := S_H33 _ _ ef2
 have ef3 := S_H33 _ _ ef3
 have eg1 := S_H33 _ _ eg1
 have es : St3 H33 p _ := S_H33 _ _ es
 have SS := SS.trans S_H33
 have nods := nods.tups (qC S_H33)
 have nods : NodesAt H33 ((([.ref a1, .ref b3] ++ [.ref c5]) ++ [.ref d1, .ref d2, .ref d4]) ++ [.ref f3, .ref g1]) := nods.app (.cons (n := .see "go" [(fig, far)]) (yH short_go (show 1 ≤ 3 by decide) (by simp [bfar])) ⟨f3, f2, [.ref f1], rfl, ef3, ef2, .cons ⟨f1, rfl, ef1⟩ .nil⟩ (.cons (n := .fin) trivial ⟨g1, rfl, eg1⟩ .nil))
 refine ⟨s2, g2, _, _, rfl, rfl, es2, eg2, smallE (by show 6 + 2 ≤ _; decide), fun s8 hs8 => ?_⟩
 have S_H34 := qV hs8 (.lst ((([V.ref a1, .ref b3] ++ [.ref c5]) ++ [.ref d1, .ref d2, .ref d4]) ++ [.ref f3, .ref g1]))
 have es8 : upd H33 s8 (.lst ((([V.ref a1, .ref b3] ++ [.ref c5]) ++ [.ref d1, .ref d2, .ref d4]) ++ [.ref f3, .ref g1])) s8 = some (.lst ((([V.ref a1, .ref b3] ++ [.ref c5]) ++ [.ref d1, .ref d2, .ref d4]) ++ [.ref f3, .ref g1])) := qW
 have ns8 : s8 ≠ p := Ne.symm (qB (show H33 p = some _ from es) hs8)
 generalize upd H33 s8 (.lst ((([V.ref a1, .ref b3] ++ [.ref c5]) ++ [.ref d1, .ref d2, .ref d4]) ++ [.ref f3, .ref g1])) = H34 at S_H34 es8
 have ela11 := S_H34 _ _ ela11
 have es : St3 H34 p _ := S_H34 _ _ es
 have SS := SS.trans S_H34
 have nods := nods.tups (qC S_H34)
 obtain ⟨so8, hso8⟩ : ∃ l : List V, (([V.ref a1, .ref b3] ++ [.ref c5]) ++ [.ref d1, .ref d2, .ref d4]) ++ [.ref f3, .ref g1] = l := ⟨_, rfl⟩
 have l8 : so8.length = 8 := by rw [← hso8]; rfl
 rw [hso8] at es8 nods
 have nus34 := nus.tups (qC SS)
 clear hso8
 wtm_at "zw"
 refine ite2 (fun cw => ?_) (fun cw => ?_)
 ·wtm_at "zw"
  exact ⟨la, us, rfl, .inl (SqL.of ela11), fun r hr' => q r us _ (SS.free hr') (SS.trans (qV hr' _)) qW (nus34.tups (qC (qV hr' _))) (by omega)⟩
 have w8 : way < 8 := by
  have : way ≠ 8 := fun z => cw (decide_eq_true (by rw [z]))
  omega
 wtm_at "zw"
 refine ⟨la, us, rfl, .inl (SqL.of ela11), fun mo hmo => ?_⟩
 have S35 := qV hmo (.lst us)
 have emo : upd H34 mo (.lst us) mo = some _ := qW
 have nmo : mo ≠ p := Ne.symm (qB (show H34 p = some _ from es) hmo)
 have nm8 : s8 ≠ mo := qB es8 hmo
 have hmo0 : H mo = none := SS.free hmo
 generalize upd H34 mo (.lst us) = H35 at S35 emo
 have SS35 := SS.trans S35
 have es35 : St3 H35 p s7 := S35 _ _ es
 have es8 := S35 _ _ es8
 have nods := nods.tups (qC S35)
 have nus := nus34.tups (qC S35)
 clear nus34 S35 es
 wtm_at "zw"
 refine ⟨fun σ' H' => ∃ ws : List V, σ' = [some (.ref la), some (.ref wp), some (.int c), some (.ref p), some (.int at'), some (.int way), some (.int far), some (.int fig), some (.str dd.name), some (.str lk), some (.ref s8), some (.ref mo)] ∧ Keep [p, mo] H35 H' ∧ H' mo = some (.lst ws) ∧ ws.length ≤ 11 ∧ NodesAt H' ws ∧ NodesAt H' so8, ?_, fun σ' H36 hP => ?_⟩
 ·wtm_at "zw"
  refine ⟨p, s7, 3, rfl, es35, by decide, by decide +kernel, by omega, fun H36 B36 e36 => ?_⟩
  have T36 := xR B36 es35
  have k36 : Keep [p, mo] H35 H36 := .but1 B36 (by simp)
  have emo36 := B36 _ _ nmo emo
  wtm_at "zw"
  refine ite2 (fun c => ?_) (fun c => ?_)
  ·wtm_at "zw"
   refine ⟨.inl ⟨rfl, _, SqL.of emo36⟩, ?_⟩
   wtm_at "zw"
   refine ⟨p, _, 8, rfl, e36, by decide, by decide +kernel, by show s7.n + 1 ≤ _; omega, fun H37 B37 e37 => ?_⟩
   have t8 := xH (takeS s7 3) (m := 8) (by decide)
   have T37 := xR B37 e36
   have k37 := k36.trans (.but1 B37 (by simp))
   have emo37 := B37 _ _ nmo emo36
   have es37 := k37 s8 _ (by simp [ns8, nm8]) es8
   obtain ⟨u, hu⟩ : ∃ u, atI so8 (takeV (takeS s7 3) 8) = some u := by
    refine ⟨so8[(takeV (takeS s7 3) 8).toNat]'(by omega), ?_⟩
    have z : atI so8 (((takeV (takeS s7 3) 8).toNat : Nat) : Int) = some _ := zI (List.getElem?_eq_getElem (by omega))
    rwa [show (((takeV (takeS s7 3) 8).toNat : Nat) : Int) = takeV (takeS s7 3) 8 by omega] at z
   refine ⟨s8, _, _, u, rfl, rfl, SqL.of es37, hu, ?_⟩
   wtm_at "zw"
   refine ⟨mo, us, u, rfl, rfl, emo37, small (by omega), ?_⟩
   have T38 : Tups H37 (upd H37 mo (.lst (us ++ [u]))) := zE emo37
   have TT : Tups H35 (upd H37 mo (.lst (us ++ [u]))) := fun b xs e => T38 _ _ (T37 _ _ (T36 _ _ e))
   refine ⟨us ++ [u], rfl, k37.trans (.upd (by simp)), qW, by rw [List.length_append]; show _ + 1 ≤ _; omega, (nus.tups TT).app (fun v hv => ?_), nods.tups TT⟩
   rw [List.mem_singleton.mp hv]
   exact (nods.tups TT) u (at_mem hu)
  ·exact ⟨us, rfl, k36, emo36, by omega, nus.tups T36, nods.tups T36⟩
 obtain ⟨ws, rfl, k36, emo36, lws, nws, nods36⟩ := hP
 have S036 : Same H H36 := k36.same SS35 (by intro d hd; simp at hd; rcases hd with rfl | rfl; exact np; exact hmo0)
 have es36 := k36 s8 _ (by simp [ns8, nm8]) es8
 wtm_at "zw"
 refine ⟨mo, _, rfl, SqL.of emo36, fun y1 hy1 => ?_⟩
 have S37 := qV hy1 (.lst (cutV ws none (some at')))
 have ey1 : upd H36 y1 (.lst (cutV ws none (some at'))) y1 = some _ := qW
 generalize upd H36 y1 (.lst (cutV ws none (some at'))) = H37 at S37 ey1
 have es37 := S37 _ _ es36
 obtain ⟨u, hu⟩ : ∃ u, atI so8 way = some u := by
  refine ⟨so8[way.toNat]'(by omega), ?_⟩
  have z : atI so8 ((way.toNat : Nat) : Int) = some _ := zI (List.getElem?_eq_getElem (by omega))
  rwa [show ((way.toNat : Nat) : Int) = way by omega] at z
 wtm_at "zw"
 refine ⟨xF (show 1 ≤ 1000000 by decide), fun y2 hy2 => ?_⟩
 have S38 := qV hy2 (.lst [u])
 have ey2 : upd H37 y2 (.lst [u]) y2 = some _ := qW
 generalize upd H37 y2 (.lst [u]) = H38 at S38 ey2
 have c1 := jF ws none (some at')
 refine ⟨y1, y2, _, _, rfl, rfl, S38 _ _ ey1, ey2, smallE (by show _ + 1 ≤ _; omega), fun y3 hy3 => ?_⟩
 have S39 := qV hy3 (.lst (cutV ws none (some at') ++ [u]))
 have ey3 : upd H38 y3 (.lst (cutV ws none (some at') ++ [u])) y3 = some _ := qW
 generalize upd H38 y3 (.lst (cutV ws none (some at') ++ [u])) = H39 at S39 ey3
 have emo39 := S39 _ _ (S38 _ _ (S37 _ _ emo36))
 wtm_at "zw"
 refine ⟨mo, _, rfl, SqL.of emo39, fun y4 hy4 => ?_⟩
 have S40 := qV hy4 (.lst (cutV ws (some (at' + 1)) none))
 have ey4 : upd H39 y4 (.lst (cutV ws (some (at' + 1)) none)) y4 = some _ := qW
 generalize upd H39 y4 (.lst (cutV ws (some (at' + 1)) none)) = H40 at S40 ey4
 have c2 := jF ws (some (at' + 1)) none
 have lap : (cutV ws none (some at') ++ [u]).length = (cutV ws none (some at')).length + 1 := by rw [List.length_append]; rfl
 refine ⟨y3, y4, _, _, rfl, rfl, S40 _ _ ey3, ey4, smallE (by omega), fun y5 hy5 => ?_⟩
 have S41 := qV hy5 (.lst ((cutV ws none (some at') ++ [u]) ++ cutV ws (some (at' + 1)) none))
 have S3641 := S37.trans (S38.trans (S39.trans (S40.trans S41)))
 have S041 := S036.trans S3641
 have nws41 := nws.tups (qC S3641)
 refine q y5 _ _ (S036.free (S37.free (S38.free (S39.free (S40.free hy5))))) S041 qW (fun v hv => ?_) (by rw [List.length_append]; omega)
 rcases List.mem_append.mp hv with h | h
 ·rcases List.mem_append.mp h with h | h
  ·exact nws41 v (cut_mem h)
  ·rw [List.mem_singleton.mp h]
   exact (nods36.tups (qC S3641)) u (at_mem hu)
 ·exact nws41 v (cut_mem h)

theorem kC {H : Hp} : ∀ {t : Th} {n : Nat} {u v : V}, t.dep ≤ n → t.At H u → t.At H v → DEq K H n u v
 | .num m, n, u, v, hn, hu, hv => by
  obtain ⟨a, rfl, ea⟩ := hu
  obtain ⟨b, rfl, eb⟩ := hv
  obtain ⟨n, rfl⟩ : ∃ k, n = k + 1 := ⟨n - 1, by have : 1 ≤ n := hn; omega⟩
  refine .tup (SqT.of ea) (SqT.of eb) rfl fun j x y e1 e2 => ?_
  match j with
  | 0 => cases e1; cases e2; exact .str _
  | 1 => cases e1; cases e2; exact .int _
  | j + 2 => cases e1
 | .box m, n, u, v, hn, hu, hv => by
  obtain ⟨a, rfl, ea⟩ := hu
  obtain ⟨b, rfl, eb⟩ := hv
  obtain ⟨n, rfl⟩ : ∃ k, n = k + 1 := ⟨n - 1, by have : 1 ≤ n := hn; omega⟩
  refine .tup (SqT.of ea) (SqT.of eb) rfl fun j x y e1 e2 => ?_
  match j with
  | 0 => cases e1; cases e2; exact .str _
  | 1 => cases e1; cases e2; exact .str _
  | j + 2 => cases e1
 | .nul k, n, u, v, hn, hu, hv => by
  obtain ⟨a, rfl, ea⟩ := hu
  obtain ⟨b, rfl, eb⟩ := hv
  obtain ⟨n, rfl⟩ : ∃ k, n = k + 1 := ⟨n - 1, by have : 1 ≤ n := hn; omega⟩
  refine .tup (SqT.of ea) (SqT.of eb) rfl fun j x y e1 e2 => ?_
  match j with
  | 0 => cases e1; cases e2; exact .str _
  | j + 1 => cases e1
 | .un k t, n, u, v, hn, hu, hv => by
  obtain ⟨a, u1, rfl, ea, h1⟩ := hu
  obtain ⟨b, v1, rfl, eb, g1⟩ := hv
  have hn : t.dep + 1 ≤ n := hn
  obtain ⟨n, rfl⟩ : ∃ k, n = k + 1 := ⟨n - 1, by omega⟩
  refine .tup (SqT.of ea) (SqT.of eb) rfl fun j x y e1 e2 => ?_
  match j with
  | 0 => cases e1; cases e2; exact .str _
  | 1 => cases e1; cases e2; exact kC (by omega) h1 g1
  | j + 2 => cases e1
 | .bin k t t', n, u, v, hn, hu, hv => by
  obtain ⟨a, u1, u2, rfl, ea, h1, h2⟩ := hu
  obtain ⟨b, v1, v2, rfl, eb, g1, g2⟩ := hv
  have hn : max t.dep t'.dep + 1 ≤ n := hn
  obtain ⟨n, rfl⟩ : ∃ k, n = k + 1 := ⟨n - 1, by omega⟩
  refine .tup (SqT.of ea) (SqT.of eb) rfl fun j x y e1 e2 => ?_
  match j with
  | 0 => cases e1; cases e2; exact .str _
  | 1 => cases e1; cases e2; exact kC (by omega) h1 g1
  | 2 => cases e1; cases e2; exact kC (by omega) h2 g2
  | j + 3 => cases e1
theorem yP {α : Type} {F : Hp → α → V → Prop} {H : Hp} {n : Nat} {xs : List α} {us vs : List V} (p1 : Paired (F H) xs us) (p2 : Paired (F H) xs vs) (d : ∀ x ∈ xs, ∀ u v, F H x u → F H x v → DEq K H n u v) : ∀ (j : Nat) x y, us[j]? = some x → vs[j]? = some y → DEq K H n x y := fun j x y e1 e2 => by
 obtain ⟨r, er⟩ : ∃ b, xs[j]? = some b := ⟨_, List.getElem?_eq_getElem (by rw [p1.length]; exact (List.getElem?_eq_some_iff.mp e1).1)⟩
 exact d r (List.mem_of_getElem? er) x y (xV p1 er e1) (xV p2 er e2)
theorem box_deq {H : Hp} {n : Nat} {b : Str × Int} {u v : V} (h : BoxIn H b u) (g : BoxIn H b v) : DEq K H (n + 1) u v := by
 obtain ⟨a, rfl, ea⟩ := h
 obtain ⟨b, rfl, eb⟩ := g
 refine .tup (SqT.of ea) (SqT.of eb) rfl fun j x y e1 e2 => ?_
 match j with
 | 0 => cases e1; cases e2; exact .str _
 | 1 => cases e1; cases e2; exact .int _
 | j + 2 => cases e1
theorem change_deq {H : Hp} {n : Nat} {c : Str × Th} {u v : V} (hd : c.2.dep ≤ n) (h : ChangeIn H c u) (g : ChangeIn H c v) : DEq K H (n + 1) u v := by
 obtain ⟨a, u1, rfl, ea, h1⟩ := h
 obtain ⟨b, v1, rfl, eb, g1⟩ := g
 refine .tup (SqT.of ea) (SqT.of eb) rfl fun j x y e1 e2 => ?_
 match j with
 | 0 => cases e1; cases e2; exact .str _
 | 1 => cases e1; cases e2; exact kC hd h1 g1
 | j + 2 => cases e1
theorem look_deq {H : Hp} {n : Nat} {c : Look} {u v : V} (hd : c.part.dep ≤ n) (h : LookIn H c u) (g : LookIn H c v) : DEq K H (n + 1) u v := by
 obtain ⟨a, u1, rfl, ea, h1⟩ := h
 obtain ⟨b, v1, rfl, eb, g1⟩ := g
 refine .tup (SqT.of ea) (SqT.of eb) rfl fun j x y e1 e2 => ?_
 match j with
 | 0 => cases e1; cases e2; exact .str _
 | 1 => cases e1; cases e2; exact .int _
 | 2 => cases e1; cases e2; exact kC hd h1 g1
 | j + 3 => cases e1
theorem way_deq {H : Hp} {n : Nat} {c : List (Str × Th)} {u v : V} (hd : ∀ x ∈ c, x.2.dep ≤ n) (h : WayIn H c u) (g : WayIn H c v) : DEq K H (n + 2) u v := by
 obtain ⟨a, us, rfl, ea, h1⟩ := h
 obtain ⟨b, vs, rfl, eb, g1⟩ := g
 exact .lst (SqL.of ea) (SqL.of eb) (h1.length.symm.trans g1.length) (yP h1 g1 fun x hx u v p q => change_deq (hd x hx) p q)
structure Deep (d : Deed) : Prop where
 need : d.need.dep ≤ 4
 ways : ∀ wy ∈ d.ways, ∀ c ∈ wy, c.2.dep ≤ 2
theorem deed_deq {H : Hp} {d : Deed} {u v : V} (hd : Deep d) (h : DeedIn H d u) (g : DeedIn H d v) : DEq K H 6 u v := by
 obtain ⟨a, nv, wa, us, rfl, ea, h1, h2, h3⟩ := h
 obtain ⟨b, nv', wb, vs, rfl, eb, g1, g2, g3⟩ := g
 refine .tup (SqT.of ea) (SqT.of eb) rfl fun j x y e1 e2 => ?_
 match j with
 | 0 => cases e1; cases e2; exact .str _
 | 1 => cases e1; cases e2; exact .int _
 | 2 => cases e1; cases e2; exact kC (by have := hd.need; omega) h1 g1
 | 3 => cases e1; cases e2; exact .lst (SqL.of h2) (SqL.of g2) (h3.length.symm.trans g3.length) (yP h3 g3 fun x hx u v p q => way_deq (hd.ways x hx) p q)
 | j + 4 => cases e1
theorem chM_dep {bs : List (Str × Int)} (hb : bs ≠ []) (a : Int) (s : S3) (j : Nat) : ∀ c ∈ (chM bs a j s).1, c.2.dep ≤ 2 := by
 induction j with
 | zero => exact fun c h => nomatch h
 | succ j ih =>
  intro c hc
  have hc : c ∈ (chM bs a j s).1 ++ [(nameAt bs ((a + (0 + (j : Int))) % bs.length), (exprM bs 1 (chM bs a j s).2).1)] := hc
  rcases List.mem_append.mp hc with h | h
  ·exact ih c h
  ·rw [List.mem_singleton.mp h]; exact (kO hb 1 _).2
theorem waysM_dep {bs : List (Str × Int)} (hb : bs ≠ []) (s : S3) (i : Nat) : ∀ wy ∈ (waysM bs i s).1, ∀ c ∈ wy, c.2.dep ≤ 2 := by
 induction i with
 | zero => exact fun c h => nomatch h
 | succ i ih =>
  intro wy hw
  have hw : wy ∈ (waysM bs i s).1 ++ [(wayM bs (waysM bs i s).2).1] := hw
  rcases List.mem_append.mp hw with h | h
  ·exact ih wy h
  ·rw [List.mem_singleton.mp h]; exact chM_dep hb _ _ _
theorem deed_deep {bs : List (Str × Int)} (hb : bs ≠ []) (c : Int) (x : Str) : Deep (deedM bs c x) := by
 refine ⟨?_, ?_⟩
 ·show (needM bs (deedS c)).1.dep ≤ 4
  unfold needM
  split
  ·exact (kR hb 1 _).2
  ·show 1 ≤ 4; decide
 ·exact waysM_dep hb _ _
theorem world_deq {H : Hp} {ns : List Int} {bx dx lx bx' dx' lx' : Addr} {bv gv bv' gv' : V} (h : WLie H (worldM ns) bx dx lx bv gv) (g : WLie H (worldM ns) bx' dx' lx' bv' gv') :
  ∀ (j : Nat) x y, [V.ref bx, V.ref dx, V.ref lx, bv, gv][j]? = some x → [V.ref bx', V.ref dx', V.ref lx', bv', gv'][j]? = some y → DEq K H 7 x y := fun j x y e1 e2 => by
 have ok := world_ok ns
 have hb : wBs ns ≠ [] := ok.b1
 obtain ⟨u1, a1, p1⟩ := h.boxes
 obtain ⟨u2, a2, p2⟩ := h.deeds
 obtain ⟨u3, a3, p3⟩ := h.looks
 obtain ⟨v1, b1, q1⟩ := g.boxes
 obtain ⟨v2, b2, q2⟩ := g.deeds
 obtain ⟨v3, b3, q3⟩ := g.looks
 match j with
 | 0 => cases e1; cases e2; exact .lst (SqL.of a1) (SqL.of b1) (p1.length.symm.trans q1.length) (yP p1 q1 fun x _ u v p q => box_deq p q)
 | 1 => cases e1; cases e2; exact .lst (SqL.of a2) (SqL.of b2) (p2.length.symm.trans q2.length) (yP p2 q2 fun x hx u v p q => by
   have hx : x ∈ wDs ns (wDn ns) := hx
   obtain ⟨i, _, rfl⟩ := List.mem_map.mp hx
   exact deed_deq (deed_deep hb _ _) p q)
 | 2 => cases e1; cases e2; exact .lst (SqL.of a3) (SqL.of b3) (p3.length.symm.trans q3.length) (yP p3 q3 fun x hx u v p q => look_deq (n := 5) (by have := (ok.lp x hx).2; omega) p q)
 | 3 =>
  cases e1; cases e2
  refine kC ?_ h.beg g.beg
  show (wBt ns).dep ≤ 7
  unfold wBt
  split
  ·show 1 ≤ 7; decide
  ·have := (kR hb 1 (wS6 ns)).2
   show (condM (wBs ns) 1 (wS6 ns)).1.dep ≤ 7
   omega
 | 4 =>
  cases e1; cases e2
  refine kC ?_ h.goal g.goal
  show (wG ns).dep ≤ 7
  unfold wG
  split
  ·have := (kR hb 1 (takeS (wB0 ns).2 3)).2
   omega
  ·show 1 ≤ 7; decide
 | j + 5 => cases e1
theorem firsts_of {α : Type} {nm : α → Str} {F : Hp → α → V → Prop} {H : Hp} (h : ∀ x u, F H x u → ∃ a ys, u = .ref a ∧ H a = some (.tup (.str (nm x) :: ys))) {xs : List α} {us : List V} (p : Paired (F H) xs us) : Paired (fun x u => ∃ a ys, u = .ref a ∧ H a = some (.tup (.str x :: ys))) (xs.map nm) us := by
 induction p with
 | nil => exact .nil
 | cons r _ ih => exact .cons (h _ _ r) ih
theorem WAt.names {H : Hp} {W : Wd} {v : V} (h : WAt H W v) : NamesW H v (W.ds.map Deed.name) (W.ls.map Look.name) := by
 obtain ⟨p, bx, dx, lx, bv, gv, e, ep, L⟩ := h
 obtain ⟨u2, a2, p2⟩ := L.deeds
 obtain ⟨u3, a3, p3⟩ := L.looks
 exact ⟨p, _, _, _, dx, lx, e, ep, ⟨u2, a2, firsts_of (fun x u y => let ⟨a, _, _, _, e, q, _⟩ := y; ⟨a, _, e, q⟩) p2⟩, ⟨u3, a3, firsts_of (fun x u y => let ⟨a, _, e, q, _⟩ := y; ⟨a, _, e, q⟩) p3⟩⟩
noncomputable def Due (ds ls : List Str) (ns : List Nd) (d : Str) : Prop := (d = "NoPlan" ∧ Bad ns) ∨ (d = "NoName" ∧ ¬ Bad ns ∧ ∃ n ∈ ns, ¬ n.Known ds ls) ∨ (d = "good" ∧ ¬ Bad ns ∧ ∀ n ∈ ns, n.Known ds ls)
theorem Due.one {ds ls : List Str} {ns : List Nd} {d d' : Str} (h : Due ds ls ns d) (g : Due ds ls ns d') : d = d' := by
 rcases h with ⟨rfl, b⟩ | ⟨rfl, b, n, hn, k⟩ | ⟨rfl, b, k⟩ <;> rcases g with ⟨rfl, b'⟩ | ⟨rfl, b', n', hn', k'⟩ | ⟨rfl, b', k'⟩
 ·rfl
 ·exact absurd b b'
 ·exact absurd b b'
 ·exact absurd b' b
 ·rfl
 ·exact absurd (k' n hn) k
 ·exact absurd b' b
 ·exact absurd (k n' hn') k'
 ·rfl
theorem due_one {vs : List V} {H : Hp} {Q : VK} {E : XK} (h : ∃ (wv : V) (ds ls : List Str) (la : Addr) (us : List V) (ns : List Nd), vs = [wv, .ref la] ∧ NamesW H wv ds ls ∧ ds.length ≤ 1000 ∧ ls.length ≤ 1000 ∧ H la = some (.lst us) ∧ Paired (NdAt H) ns us ∧ (∀ n ∈ ns, n.Fine) ∧ ns.length ≤ 1000 ∧
  ∀ d H', Same H H' → Due ds ls ns d → Q (.str d) H') : spDue vs H Q E := by
 obtain ⟨wv, ds, ls, la, us, ns, e, a, b, c, d, f, g, i, q⟩ := h
 exact ⟨wv, ds, ls, la, us, ns, e, a, b, c, d, f, g, i, fun x H' S => q _ H' S (.inl ⟨rfl, x⟩), fun x y H' S => q _ H' S (.inr (.inl ⟨rfl, x, y⟩)), fun x y H' S => q _ H' S (.inr (.inr ⟨rfl, x, y⟩))⟩
theorem told_one {vs : List V} {H : Hp} {Q : VK} {E : XK} (h : ∃ (wv : V) (ds ls : List Str) (la : Addr) (us : List V) (ns : List Nd), vs = [wv, .ref la] ∧ NamesW H wv ds ls ∧ H la = some (.lst us) ∧ Paired (NdAt H) ns us ∧ (∀ n ∈ ns, n.Fine) ∧ ns.length ≤ 1000 ∧
  ∀ d H', Same H H' → Due ds ls ns d → Q (.str d) H') : spTold vs H Q E := by
 obtain ⟨wv, ds, ls, la, us, ns, e, a, d, f, g, i, q⟩ := h
 exact ⟨wv, ds, ls, la, us, ns, e, a, d, f, g, i, fun x H' S => q _ H' S (.inl ⟨rfl, x⟩), fun x y H' S => q _ H' S (.inr (.inl ⟨rfl, x, y⟩)), fun x y H' S => q _ H' S (.inr (.inr ⟨rfl, x, y⟩))⟩
theorem cells_read {σ : St} {H : Hp} {W : It → Hp → Prop} {j : Nat} {a : Addr} {ns : List Int} {c0 lo hi : Int} (hj : σ[j]? = some (some (.ref a))) (hS : SqL K H a (ns.map V.int)) (h63 : ns.length ≤ 63)
  (q : ∀ (l : Addr) (xs : List V) (H' : Hp), Same H H' → H' l = some (.lst xs) → (∀ x ∈ xs, ∃ c : Int, x = .int c) → W (Itl K l) H') :
  iList K (tOp rCat (tLst (tCons (tC (.int c0)) tNil)) (tSl (rSlL K) (tVar j) (tPart (tC (.int lo))) (tPart (tC (.int hi))))) σ H W := by
 refine ⟨(by show 1 ≤ sizeLine; decide), fun l1 hl1 => ?_⟩
 refine ⟨_, hj, lo, rfl, hi, rfl, a, _, rfl, (qV hl1 _).seq hS, fun l2 hl2 => ?_⟩
 have n12 : l1 ≠ l2 := qB qW hl2
 have cl63 : (cutV (ns.map V.int) (some lo) (some hi)).length ≤ 63 := by
  have := jF (ns.map V.int) (some lo) (some hi)
  rw [List.length_map] at this
  omega
 refine ⟨l1, l2, _, _, rfl, rfl, by rw [qA n12]; exact qW, qW, ?_, fun l3 hl3 => ?_⟩
 ·show 1 + _ ≤ sizeLine
  exact smallE (by omega)
 refine ⟨l3, rfl, ⟨_, SqL.of qW⟩, q l3 _ _ ((qV hl1 _).trans ((qV hl2 _).trans (qV hl3 _))) qW fun x hx => ?_⟩
 rcases List.mem_append.mp hx with h | h
 ·exact ⟨c0, List.mem_singleton.mp h⟩
 ·obtain ⟨c, _, rfl⟩ := List.mem_map.mp (cut_mem h)
  exact ⟨c, rfl⟩
theorem wE {H H' : Hp} {us : List V} (h : NodesAt H us) {n : Nat} : ∀ (j : Nat) x y, us[j]? = some x → us[j]? = some y → DEq K H' n x y := fun j x y e1 e2 => by
 rw [e1] at e2
 cases e2
 obtain ⟨nd, _, hn⟩ := h x (List.mem_of_getElem? e1)
 obtain ⟨a, rfl⟩ := hn.ref
 exact .same a
theorem kA : FnScope ["script", "world", "nodes", "cell", "some", "handed", "due", "found"] ["script"] (xB (top 42)) := ⟨rfl, rfl, rfl, by decide +kernel, rfl, by decide +kernel, by decide +kernel⟩
noncomputable def spLaw (K : PySem.W.Frag) : Sp := fun vs H Q _ => ∃ (a : Addr) (ns : List Int), vs = [.ref a] ∧ SqL K H a (ns.map V.int) ∧ ns.length ≤ 63 ∧ ∀ H', Q (.bl true) H'
theorem ok_law {CP CN : Addr} {f : Addr} {fd : FuncData} (F : Fun K "law" "law" (top 42) f fd) (B : Bl mg) (D_law_world : Dn P w K mg base "_law_world" 18 ["script"] (spWorld K)) (D_law_plan : Dn P w K mg base "_law_plan" 12 ["script", "world", "first"] (spLPlan K)) (D_law_told : Dn P w K mg base "_law_told" 5 ["world", "nodes"] spTold)
  (D_law_spoiled : Dn P w K mg base "_law_spoiled" 3 ["nodes", "world", "cell"] spSpoiled) (D_law_due : Dn P w K mg base "_law_due" 2 ["world", "nodes"] spDue) (D_plan_of : Dn P w K mg base "plan_of" 4 ["world", "nodes"] (fun vs H Q _ => spPlan CP CN vs H Q fun _ _ _ => False)) : FnOk P w K mg base CX0 60 f fd ["script"] (spLaw K) := by
 refine F.ok (k := 59) kA (fun vs H Q E h => ?_) (fun cdv A outer s H vs Q E hr h => ?_)
 ·obtain ⟨_, _, rfl, _⟩ := h
  rfl
 obtain ⟨a, ns, rfl, hS, h63, q⟩ := h
 refine ⟨_, (qZ (qN (i := 1) kA.nd rfl (by wtm_at "zo") (qD D_law_world hr (qQ (pv 0) qX)))
  (qZ (qN (i := 2) kA.nd rfl (by wtm_at "zo") (qD D_law_plan hr (qQ (pv 0) (qQ (pv 1) (qQ qF qX)))))
  (qZ (zJ (qS op_ne (qD D_law_told hr (qQ (pv 1) (qQ (xP qX) qX))) qG (xE _)) (qJ (qO pe_bl)) qY)
  (qZ (zT PassesOwn.never rfl (xQ (K := K) (xX kB (xP (qQ qF qX)) (pe_slice (sl_listK (K := K)) (pv 0) (po_some qF) (po_some qF)))) (qH (i := 3) kA.nd rfl (by wtm_at "zo")) (qZ (qN (i := 4) kA.nd rfl (by wtm_at "zo") (qD D_law_spoiled hr (qQ (pv 2) (qQ (pv 1) (qQ (pv 3) qX)))))
  (qZ (qN (i := 5) kA.nd rfl (by wtm_at "zo") (xZ (yX (K := K)) rfl B.list' vU (qQ (pv 4) qX)))
  (qZ (qN (i := 6) kA.nd rfl (by wtm_at "zo") (qD D_law_due hr (qQ (pv 1) (qQ (pv 4) qX))))
  (qZ (zJ (PW.pt (pw_or (qS op_ne (qD D_law_told hr (qQ (pv 1) (qQ (pv 5) qX))) (pv 6) (xE _)) (pw_or1 (qS (op_neLK (K := K) hr.units) (pv 5) (pv 4) (xE _))))) (qJ (qO pe_bl)) qY)
  (qJ (zJ (qS zD (pv 6) qG (xE _)) (qZ (qN (i := 7) kA.nd rfl (by wtm_at "zo") (qD D_plan_of hr (qQ (pv 1) (qQ (pv 5) qX))))
  (qZ (qR (pe_bm0K (K := K) PySem.F.plainAttrs_list PySem.F.slot_list_clear PySem.F.type_list_clear mt_clear (pv 5)))
  (qJ (zJ (qS (op_neLK (K := K) hr.units) (pv 7) (pv 4) (xE _)) (qJ (qO pe_bl)) qY)))) qY)))))))
  (qJ (qO (jC (op_eqTK (K := K) hr.units) (pv 1) (qD D_law_world hr (qQ (pv 0) qX)) (xE _)))))))), ?_⟩
 wtm_at "zw"
 refine ⟨a, ns, rfl, hS, fun wv H1 S1 W1 => ?_⟩
 have ok := world_ok ns
 have lds : ((worldM ns).ds.map Deed.name).length ≤ 1000 := by rw [List.length_map]; have := ok.d4; omega
 have lls : ((worldM ns).ls.map Look.name).length ≤ 1000 := by rw [List.length_map]; have := ok.l3; omega
 wtm_at "zw"
 refine ⟨a, ns, wv, worldM ns, 8, rfl, S1.seq hS, W1, ok, fun la us nds H2 nla S2 ela pn fine n1 n10 => ?_⟩
 have lu := pn.length
 have nus := NodesAt.of pn fine
 wtm_at "zw"
 refine ⟨xF (show 0 ≤ 1000000 by decide), fun e0 he0 => ?_⟩
 have S3' := qV he0 (.lst [])
 have ee0 : upd H2 e0 (.lst []) e0 = some (.lst []) := qW
 generalize upd H2 e0 (.lst []) = H3 at S3' ee0
 wtm_at "zw"
 refine ⟨wv, _, _, e0, [], [], rfl, (W1.names.same S2).same S3', ee0, .nil, (fun n h => nomatch h), by decide, fun _ H4 S4 => ?_, fun nb => absurd (.inl rfl) nb, fun nb => absurd (.inl rfl) nb⟩
 wtm_at "zw"
 rw [yQ]
 refine iteNT ?_
 have S24 := S3'.trans S4
 wtm_at "zw"
 refine cells_read (a := a) (ns := ns) rfl ((S1.trans (S2.trans S24)).seq hS) h63 fun l3 xs H5 S5 el3 items => ?_
 have S25 := S24.trans S5
 refine vG (xs := xs) (fun i σ' H' => ∃ z3 z4 z5 z6 z7 : Option V, σ' = [some (.ref a), some wv, some (.ref la), z3, z4, z5, z6, z7] ∧ Same H5 H') ⟨none, none, none, none, none, rfl, .refl _⟩ (fun i σ' H' _ hP => ?_) (fun N rt bk i x σ' H6 ex hP hN => ?_) (fun σ' H6 hP => ?_)
 ·obtain ⟨_, _, _, _, _, _, S⟩ := hP
  exact S.seq (SqL.of el3)
 ·obtain ⟨z3, z4, z5, z6, z7, rfl, S6⟩ := hP
  obtain ⟨c, rfl⟩ := items x (List.mem_of_getElem? ex)
  have S26 := S25.trans S6
  wtm_at "zw"
  refine ⟨la, us, wv, worldM ns, c, rfl, S26 _ _ ela, nus.tups (qC S26), by omega, by omega, W1.same (S2.trans S26), ok, fun r vs H7 nr S7 er nv lv => ?_⟩
  obtain ⟨nd7, pn7, fine7⟩ := nv.paired
  have l7 := pn7.length
  have nm7 := (W1.same ((S2.trans S26).trans S7)).names
  wtm_at "zw"
  refine ⟨r, vs, rfl, .inl (SqL.of er), fun h hh => ?_⟩
  have S8 := qV hh (.lst vs)
  have eh : upd H7 h (.lst vs) h = some (.lst vs) := qW
  have nrh : r ≠ h := qB er hh
  have h5 : H5 h = none := S6.free (S7.free hh)
  generalize upd H7 h (.lst vs) = H8 at S8 eh
  wtm_at "zw"
  refine due_one ⟨wv, _, _, r, vs, nd7, rfl, nm7.same S8, lds, lls, S8 _ _ er, Paired.mapP pn7 fun _ _ y => y.same S8, fine7, by omega, fun d H9 S9 hd => ?_⟩
  have S79 := S8.trans S9
  wtm_at "zw"
  refine told_one ⟨wv, _, _, h, vs, nd7, rfl, nm7.same S79, S9 _ _ eh, Paired.mapP pn7 fun _ _ y => y.same S79, fine7, by omega, fun d' H10 S10 hd' => ?_⟩
  have ed : d' = d := hd'.one hd
  subst ed
  wtm_at "zw"
  rw [yQ]
  refine iteNT ?_
  have eh10 := S10 _ _ (S9 _ _ eh)
  have er10 := S10 _ _ (S79 _ _ er)
  wtm_at "zw"
  refine ⟨1, h, r, vs, vs, by decide, rfl, rfl, SqL.of eh10, SqL.of er10, rfl, wE nv, ?_⟩
  refine ⟨false, rfl, iteF ?_⟩
  have S710 := S79.trans S10
  have S510 := S6.trans (S7.trans S710)
  wtm_at "zw"
  refine ite2 (fun g => ?_) (fun g => ?_)
  ·have g : d' = "good" := V.str.inj (of_decide_eq_true g)
   obtain ⟨nb, kn⟩ : ¬ Bad nd7 ∧ ∀ n ∈ nd7, n.Known ((worldM ns).ds.map Deed.name) ((worldM ns).ls.map Look.name) := by
    rcases hd with ⟨e, _⟩ | ⟨e, _⟩ | ⟨_, z⟩
    ·rw [g] at e; exact absurd e (by decide)
    ·rw [g] at e; exact absurd e (by decide)
    ·exact z
   wtm_at "zw"
   refine ⟨wv, _, _, h, vs, nd7, rfl, nm7.same S710, eh10, Paired.mapP pn7 fun _ _ y => y.same S710, fine7, by omega, fun b => absurd b nb, fun _ ⟨n, hn, k⟩ => absurd (kn n hn) k, fun _ _ l H11 nl S11 el => ?_⟩
   have nlh : l ≠ h := Ne.symm (qB eh10 nl)
   have eh11 := S11 _ _ eh10
   wtm_at "zw"
   refine ⟨.inl ⟨rfl, _, SqL.of eh11⟩, ?_⟩
   wtm_at "zw"
   refine ⟨h, vs, rfl, rfl, eh11, ?_⟩
   have el12 : upd H11 h (.lst []) l = some (.lst vs) := by rw [qA nlh]; exact el
   have er12 : upd H11 h (.lst []) r = some (.lst vs) := by rw [qA nrh]; exact S11 _ _ er10
   have S12 : Same H5 (upd H11 h (.lst [])) := fun b o e => by rw [qA (qB e h5)]; exact S11 _ _ (S510 _ _ e)
   generalize upd H11 h (.lst []) = H12 at el12 er12 S12
   wtm_at "zw"
   refine ⟨1, l, r, vs, vs, by decide, rfl, rfl, SqL.of el12, SqL.of er12, rfl, wE nv, ?_⟩
   refine ⟨false, rfl, iteF ?_⟩
   exact hN _ _ ⟨_, _, _, _, _, rfl, S12⟩
  ·exact hN _ _ ⟨_, _, _, _, _, rfl, S510⟩
 ·obtain ⟨z3, z4, z5, z6, z7, rfl, S6⟩ := hP
  have S26 := S25.trans S6
  wtm_at "zw"
  refine ⟨a, ns, rfl, (S1.trans (S2.trans S26)).seq hS, fun wv' H7 S7 W7 => ?_⟩
  obtain ⟨p, bx, dx, lx, bv, gv, rfl, ep, L⟩ := W1.same ((S2.trans S26).trans S7)
  obtain ⟨p', bx', dx', lx', bv', gv', rfl, ep', L'⟩ := W7
  wtm_at "zw"
  exact ⟨7, p, p', _, _, by decide, rfl, rfl, SqT.of ep, SqT.of ep', rfl, world_deq L L', q _⟩

end
theorem len1 {C : List Value → Prop} (h : ∀ a0 : Value, C [a0]) (us : List Value) (e : us.length = 1) : C us := by
 cases us with
 | nil => cases e
 | cons a r =>
  cases r with
  | nil => exact h a
  | cons _ _ => exact absurd (Nat.succ.inj e) (Nat.succ_ne_zero _)

theorem len2 {C : List Value → Prop} (h : ∀ a0 a1 : Value, C [a0, a1]) (us : List Value) (e : us.length = 2) : C us := by
 cases us with
 | nil => cases e
 | cons a r => exact len1 (C := fun r => C (a :: r)) (h a) r (Nat.succ.inj e)

theorem len3 {C : List Value → Prop} (h : ∀ a0 a1 a2 : Value, C [a0, a1, a2]) (us : List Value) (e : us.length = 3) : C us := by
 cases us with
 | nil => cases e
 | cons a r => exact len2 (C := fun r => C (a :: r)) (h a) r (Nat.succ.inj e)

theorem len4 {C : List Value → Prop} (h : ∀ a0 a1 a2 a3 : Value, C [a0, a1, a2, a3]) (us : List Value) (e : us.length = 4) : C us := by
 cases us with
 | nil => cases e
 | cons a r => exact len3 (C := fun r => C (a :: r)) (h a) r (Nat.succ.inj e)

theorem all_mk {l : PySem.W.OpenLaw} {w : World} {K : PySem.W.Frag} {h : Heap} {mg : Str → Option Value} {fa f0 f1 f2 f3 f4 f5 f6 f7 f8 f9 f10 f11 f12 f13 f14 f15 f16 f17 f18 f19 f20 f21 f22 f23 f24 f25 f26 f27 f28 : Addr} (X : K.In h) (G : h.Ns mainGlobals mg) (hfa : mg "law" = some (.ref fa))
  {od0 an0 od1 an1 od2 an2 od3 an3 od4 an4 od5 an5 od6 an6 od7 an7 od8 an8 od9 an9 od10 an10 od11 an11 od12 an12 od13 an13 od14 an14 od15 an15 od16 an16 od17 an17 od18 an18 od19 an19 od20 an20 od21 an21 od22 an22 od23 an23 od24 an24 od25 an25 od26 an26 od27 an27 od28 an28 : Option Addr} {sl0 sl1 sl2 sl3 sl4 sl5 sl6 sl7 sl8 sl9 sl10 sl11 sl12 sl13 sl14 sl15 sl16 sl17 sl18 sl19 sl20 sl21 sl22 sl23 sl24 sl25 sl26 sl27 sl28 : Array (Option Value)} {oc0 kV0 dc0 pm0 cd0 ct0 oc1 kV1 dc1 pm1 cd1 ct1 oc2 kV2 dc2 pm2 cd2 ct2 oc3 kV3 dc3 pm3 cd3 ct3 oc4 kV4 dc4 pm4 cd4 ct4 oc5 kV5 dc5 pm5 cd5 ct5 oc6 kV6 dc6 pm6 cd6 ct6 oc7 kV7 dc7 pm7 cd7 ct7 oc8 kV8 dc8 pm8 cd8 ct8 oc9 kV9 dc9 pm9 cd9 ct9 oc10 kV10 dc10 pm10 cd10 ct10 oc11 kV11 dc11 pm11 cd11 ct11 oc12 kV12 dc12 pm12 cd12 ct12 oc13 kV13 dc13 pm13 cd13 ct13 oc14 kV14 dc14 pm14 cd14 ct14 oc15 kV15 dc15 pm15 cd15 ct15 oc16 kV16 dc16 pm16 cd16 ct16 oc17 kV17 dc17 pm17 cd17 ct17 oc18 kV18 dc18 pm18 cd18 ct18 oc19 kV19 dc19 pm19 cd19 ct19 oc20 kV20 dc20 pm20 cd20 ct20 oc21 kV21 dc21 pm21 cd21 ct21 oc22 kV22 dc22 pm22 cd22 ct22 oc23 kV23 dc23 pm23 cd23 ct23 oc24 kV24 dc24 pm24 cd24 ct24 oc25 kV25 dc25 pm25 cd25 ct25 oc26 kV26 dc26 pm26 cd26 ct26 oc27 kV27 dc27 pm27 cd27 ct27 oc28 kV28 dc28 pm28 cd28 ct28 : Value}
  (a0 : PySem.W.nsIn K mainGlobals "named" = some (some (.ref f0))) (l0 : K.lookup f0 = some ⟨oc0, od0, .func (PySem.W.fnOf "named" "named" (xD (top 12)) (xC (top 12)) (xB (top 12)) .none kV0 dc0 pm0 an0 cd0 ct0), sl0⟩) (c0 : PySem.W.codeIn K cd0 "named" = true) (k0 : PySem.W.keepIn K (.ref f0) = true)
  (a1 : PySem.W.nsIn K mainGlobals "plan_of" = some (some (.ref f1))) (l1 : K.lookup f1 = some ⟨oc1, od1, .func (PySem.W.fnOf "plan_of" "plan_of" (xD (top 15)) (xC (top 15)) (xB (top 15)) .none kV1 dc1 pm1 an1 cd1 ct1), sl1⟩) (c1 : PySem.W.codeIn K cd1 "plan_of" = true) (k1 : PySem.W.keepIn K (.ref f1) = true)
  (a2 : PySem.W.nsIn K mainGlobals "followers_of" = some (some (.ref f2))) (l2 : K.lookup f2 = some ⟨oc2, od2, .func (PySem.W.fnOf "followers_of" "followers_of" (xD (top 16)) (xC (top 16)) (xB (top 16)) .none kV2 dc2 pm2 an2 cd2 ct2), sl2⟩) (c2 : PySem.W.codeIn K cd2 "followers_of" = true) (k2 : PySem.W.keepIn K (.ref f2) = true)
  (a3 : PySem.W.nsIn K mainGlobals "is_whole" = some (some (.ref f3))) (l3 : K.lookup f3 = some ⟨oc3, od3, .func (PySem.W.fnOf "is_whole" "is_whole" (xD (top 13)) (xC (top 13)) (xB (top 13)) .none kV3 dc3 pm3 an3 cd3 ct3), sl3⟩) (c3 : PySem.W.codeIn K cd3 "is_whole" = true) (k3 : PySem.W.keepIn K (.ref f3) = true)
  (a4 : PySem.W.nsIn K mainGlobals "is_node_number" = some (some (.ref f4))) (l4 : K.lookup f4 = some ⟨oc4, od4, .func (PySem.W.fnOf "is_node_number" "is_node_number" (xD (top 17)) (xC (top 17)) (xB (top 17)) .none kV4 dc4 pm4 an4 cd4 ct4), sl4⟩) (c4 : PySem.W.codeIn K cd4 "is_node_number" = true) (k4 : PySem.W.keepIn K (.ref f4) = true)
  (a5 : PySem.W.nsIn K mainGlobals "refuse_followers" = some (some (.ref f5))) (l5 : K.lookup f5 = some ⟨oc5, od5, .func (PySem.W.fnOf "refuse_followers" "refuse_followers" (xD (top 18)) (xC (top 18)) (xB (top 18)) .none kV5 dc5 pm5 an5 cd5 ct5), sl5⟩) (c5 : PySem.W.codeIn K cd5 "refuse_followers" = true) (k5 : PySem.W.keepIn K (.ref f5) = true)
  (a6 : PySem.W.nsIn K mainGlobals "refuse_forks" = some (some (.ref f6))) (l6 : K.lookup f6 = some ⟨oc6, od6, .func (PySem.W.fnOf "refuse_forks" "refuse_forks" (xD (top 19)) (xC (top 19)) (xB (top 19)) .none kV6 dc6 pm6 an6 cd6 ct6), sl6⟩) (c6 : PySem.W.codeIn K cd6 "refuse_forks" = true) (k6 : PySem.W.keepIn K (.ref f6) = true)
  (a7 : PySem.W.nsIn K mainGlobals "thing_named_at" = some (some (.ref f7))) (l7 : K.lookup f7 = some ⟨oc7, od7, .func (PySem.W.fnOf "thing_named_at" "thing_named_at" (xD (top 21)) (xC (top 21)) (xB (top 21)) .none kV7 dc7 pm7 an7 cd7 ct7), sl7⟩) (c7 : PySem.W.codeIn K cd7 "thing_named_at" = true) (k7 : PySem.W.keepIn K (.ref f7) = true)
  (a8 : PySem.W.nsIn K mainGlobals "refuse_name" = some (some (.ref f8))) (l8 : K.lookup f8 = some ⟨oc8, od8, .func (PySem.W.fnOf "refuse_name" "refuse_name" (xD (top 20)) (xC (top 20)) (xB (top 20)) .none kV8 dc8 pm8 an8 cd8 ct8), sl8⟩) (c8 : PySem.W.codeIn K cd8 "refuse_name" = true) (k8 : PySem.W.keepIn K (.ref f8) = true)
  (a9 : PySem.W.nsIn K mainGlobals "_law_cell" = some (some (.ref f9))) (l9 : K.lookup f9 = some ⟨oc9, od9, .func (PySem.W.fnOf "_law_cell" "_law_cell" (xD (top 23)) (xC (top 23)) (xB (top 23)) .none kV9 dc9 pm9 an9 cd9 ct9), sl9⟩) (c9 : PySem.W.codeIn K cd9 "_law_cell" = true) (k9 : PySem.W.keepIn K (.ref f9) = true)
  (a10 : PySem.W.nsIn K mainGlobals "_law_stir" = some (some (.ref f10))) (l10 : K.lookup f10 = some ⟨oc10, od10, .func (PySem.W.fnOf "_law_stir" "_law_stir" (xD (top 24)) (xC (top 24)) (xB (top 24)) .none kV10 dc10 pm10 an10 cd10 ct10), sl10⟩) (c10 : PySem.W.codeIn K cd10 "_law_stir" = true) (k10 : PySem.W.keepIn K (.ref f10) = true)
  (a11 : PySem.W.nsIn K mainGlobals "_law_state" = some (some (.ref f11))) (l11 : K.lookup f11 = some ⟨oc11, od11, .func (PySem.W.fnOf "_law_state" "_law_state" (xD (top 25)) (xC (top 25)) (xB (top 25)) .none kV11 dc11 pm11 an11 cd11 ct11), sl11⟩) (c11 : PySem.W.codeIn K cd11 "_law_state" = true) (k11 : PySem.W.keepIn K (.ref f11) = true)
  (a12 : PySem.W.nsIn K mainGlobals "_law_take" = some (some (.ref f12))) (l12 : K.lookup f12 = some ⟨oc12, od12, .func (PySem.W.fnOf "_law_take" "_law_take" (xD (top 26)) (xC (top 26)) (xB (top 26)) .none kV12 dc12 pm12 an12 cd12 ct12), sl12⟩) (c12 : PySem.W.codeIn K cd12 "_law_take" = true) (k12 : PySem.W.keepIn K (.ref f12) = true)
  (a13 : PySem.W.nsIn K mainGlobals "_law_expression" = some (some (.ref f13))) (l13 : K.lookup f13 = some ⟨oc13, od13, .func (PySem.W.fnOf "_law_expression" "_law_expression" (xD (top 27)) (xC (top 27)) (xB (top 27)) .none kV13 dc13 pm13 an13 cd13 ct13), sl13⟩) (c13 : PySem.W.codeIn K cd13 "_law_expression" = true) (k13 : PySem.W.keepIn K (.ref f13) = true)
  (a14 : PySem.W.nsIn K mainGlobals "_law_condition" = some (some (.ref f14))) (l14 : K.lookup f14 = some ⟨oc14, od14, .func (PySem.W.fnOf "_law_condition" "_law_condition" (xD (top 28)) (xC (top 28)) (xB (top 28)) .none kV14 dc14 pm14 an14 cd14 ct14), sl14⟩) (c14 : PySem.W.codeIn K cd14 "_law_condition" = true) (k14 : PySem.W.keepIn K (.ref f14) = true)
  (a15 : PySem.W.nsIn K mainGlobals "_law_deed" = some (some (.ref f15))) (l15 : K.lookup f15 = some ⟨oc15, od15, .func (PySem.W.fnOf "_law_deed" "_law_deed" (xD (top 29)) (xC (top 29)) (xB (top 29)) .none kV15 dc15 pm15 an15 cd15 ct15), sl15⟩) (c15 : PySem.W.codeIn K cd15 "_law_deed" = true) (k15 : PySem.W.keepIn K (.ref f15) = true)
  (a16 : PySem.W.nsIn K mainGlobals "_law_words" = some (some (.ref f16))) (l16 : K.lookup f16 = some ⟨oc16, od16, .func (PySem.W.fnOf "_law_words" "_law_words" (xD (top 30)) (xC (top 30)) (xB (top 30)) .none kV16 dc16 pm16 an16 cd16 ct16), sl16⟩) (c16 : PySem.W.codeIn K cd16 "_law_words" = true) (k16 : PySem.W.keepIn K (.ref f16) = true)
  (a17 : PySem.W.nsIn K mainGlobals "_law_world" = some (some (.ref f17))) (l17 : K.lookup f17 = some ⟨oc17, od17, .func (PySem.W.fnOf "_law_world" "_law_world" (xD (top 31)) (xC (top 31)) (xB (top 31)) .none kV17 dc17 pm17 an17 cd17 ct17), sl17⟩) (c17 : PySem.W.codeIn K cd17 "_law_world" = true) (k17 : PySem.W.keepIn K (.ref f17) = true)
  (a18 : PySem.W.nsIn K mainGlobals "_law_standings" = some (some (.ref f18))) (l18 : K.lookup f18 = some ⟨oc18, od18, .func (PySem.W.fnOf "_law_standings" "_law_standings" (xD (top 32)) (xC (top 32)) (xB (top 32)) .none kV18 dc18 pm18 an18 cd18 ct18), sl18⟩) (c18 : PySem.W.codeIn K cd18 "_law_standings" = true) (k18 : PySem.W.keepIn K (.ref f18) = true)
  (a19 : PySem.W.nsIn K mainGlobals "_law_worth" = some (some (.ref f19))) (l19 : K.lookup f19 = some ⟨oc19, od19, .func (PySem.W.fnOf "_law_worth" "_law_worth" (xD (top 33)) (xC (top 33)) (xB (top 33)) .none kV19 dc19 pm19 an19 cd19 ct19), sl19⟩) (c19 : PySem.W.codeIn K cd19 "_law_worth" = true) (k19 : PySem.W.keepIn K (.ref f19) = true)
  (a20 : PySem.W.nsIn K mainGlobals "_law_holds" = some (some (.ref f20))) (l20 : K.lookup f20 = some ⟨oc20, od20, .func (PySem.W.fnOf "_law_holds" "_law_holds" (xD (top 34)) (xC (top 34)) (xB (top 34)) .none kV20 dc20 pm20 an20 cd20 ct20), sl20⟩) (c20 : PySem.W.codeIn K cd20 "_law_holds" = true) (k20 : PySem.W.keepIn K (.ref f20) = true)
  (a21 : PySem.W.nsIn K mainGlobals "_law_shown" = some (some (.ref f21))) (l21 : K.lookup f21 = some ⟨oc21, od21, .func (PySem.W.fnOf "_law_shown" "_law_shown" (xD (top 35)) (xC (top 35)) (xB (top 35)) .none kV21 dc21 pm21 an21 cd21 ct21), sl21⟩) (c21 : PySem.W.codeIn K cd21 "_law_shown" = true) (k21 : PySem.W.keepIn K (.ref f21) = true)
  (a22 : PySem.W.nsIn K mainGlobals "_law_node" = some (some (.ref f22))) (l22 : K.lookup f22 = some ⟨oc22, od22, .func (PySem.W.fnOf "_law_node" "_law_node" (xD (top 36)) (xC (top 36)) (xB (top 36)) .none kV22 dc22 pm22 an22 cd22 ct22), sl22⟩) (c22 : PySem.W.codeIn K cd22 "_law_node" = true) (k22 : PySem.W.keepIn K (.ref f22) = true)
  (a23 : PySem.W.nsIn K mainGlobals "_law_plan" = some (some (.ref f23))) (l23 : K.lookup f23 = some ⟨oc23, od23, .func (PySem.W.fnOf "_law_plan" "_law_plan" (xD (top 37)) (xC (top 37)) (xB (top 37)) .none kV23 dc23 pm23 an23 cd23 ct23), sl23⟩) (c23 : PySem.W.codeIn K cd23 "_law_plan" = true) (k23 : PySem.W.keepIn K (.ref f23) = true)
  (a24 : PySem.W.nsIn K mainGlobals "_law_leads" = some (some (.ref f24))) (l24 : K.lookup f24 = some ⟨oc24, od24, .func (PySem.W.fnOf "_law_leads" "_law_leads" (xD (top 38)) (xC (top 38)) (xB (top 38)) .none kV24 dc24 pm24 an24 cd24 ct24), sl24⟩) (c24 : PySem.W.codeIn K cd24 "_law_leads" = true) (k24 : PySem.W.keepIn K (.ref f24) = true)
  (a25 : PySem.W.nsIn K mainGlobals "_law_due" = some (some (.ref f25))) (l25 : K.lookup f25 = some ⟨oc25, od25, .func (PySem.W.fnOf "_law_due" "_law_due" (xD (top 39)) (xC (top 39)) (xB (top 39)) .none kV25 dc25 pm25 an25 cd25 ct25), sl25⟩) (c25 : PySem.W.codeIn K cd25 "_law_due" = true) (k25 : PySem.W.keepIn K (.ref f25) = true)
  (a26 : PySem.W.nsIn K mainGlobals "_law_spoiled" = some (some (.ref f26))) (l26 : K.lookup f26 = some ⟨oc26, od26, .func (PySem.W.fnOf "_law_spoiled" "_law_spoiled" (xD (top 40)) (xC (top 40)) (xB (top 40)) .none kV26 dc26 pm26 an26 cd26 ct26), sl26⟩) (c26 : PySem.W.codeIn K cd26 "_law_spoiled" = true) (k26 : PySem.W.keepIn K (.ref f26) = true)
  (a27 : PySem.W.nsIn K mainGlobals "_law_told" = some (some (.ref f27))) (l27 : K.lookup f27 = some ⟨oc27, od27, .func (PySem.W.fnOf "_law_told" "_law_told" (xD (top 41)) (xC (top 41)) (xB (top 41)) .none kV27 dc27 pm27 an27 cd27 ct27), sl27⟩) (c27 : PySem.W.codeIn K cd27 "_law_told" = true) (k27 : PySem.W.keepIn K (.ref f27) = true)
  (a28 : PySem.W.nsIn K mainGlobals "law" = some (some (.ref f28))) (l28 : K.lookup f28 = some ⟨oc28, od28, .func (PySem.W.fnOf "law" "law" (xD (top 42)) (xC (top 42)) (xB (top 42)) .none kV28 dc28 pm28 an28 cd28 ct28), sl28⟩) (c28 : PySem.W.codeIn K cd28 "law" = true) (k28 : PySem.W.keepIn K (.ref f28) = true)
  {C_ForkError N_ForkError : Addr} {nm_ForkError q_ForkError : Str} {bs_ForkError su_ForkError : List Value} {hd_ForkError ab_ForkError : Bool} {sn_ForkError : List Str} {cl_ForkError : Option Bool} {dd_ForkError nd_ForkError : Option Addr} {j0_ForkError j1_ForkError j2_ForkError j3_ForkError j5_ForkError : Option Value} {nc_ForkError : Value} {es_ForkError : Array DictEntry} {ne_ForkError : Nat} {ns_ForkError : Array (Option Value)}
  (ra_ForkError : PySem.W.nsIn K mainGlobals "ForkError" = some (some (.ref C_ForkError))) (rl_ForkError : K.lookup C_ForkError = some (excClassObj nm_ForkError q_ForkError C_ForkError N_ForkError bs_ForkError bmV hd_ForkError sn_ForkError su_ForkError ab_ForkError cl_ForkError dd_ForkError j0_ForkError j1_ForkError j2_ForkError j3_ForkError j5_ForkError "ValueError.__new__"))
  (rn_ForkError : K.lookup N_ForkError = some ⟨nc_ForkError, nd_ForkError, .dict es_ForkError ne_ForkError, ns_ForkError⟩) (rw_ForkError : wordKeys es_ForkError.toList = true) (ri_ForkError : PySem.W.nsIn K N_ForkError "__init__" = some none)
  (r1_ForkError : PySem.W.findIn K (.ref C_ForkError) "__getattribute__" = some (some (.builtin "BaseException.__getattribute__"))) (r2_ForkError : PySem.W.findIn K (.ref C_ForkError) "__getattr__" = some none) (r3_ForkError : PySem.W.findIn K (.ref C_ForkError) "__class__" = some (some (.builtin "object.__class__")))
  {C_NoPlan N_NoPlan : Addr} {nm_NoPlan q_NoPlan : Str} {bs_NoPlan su_NoPlan : List Value} {hd_NoPlan ab_NoPlan : Bool} {sn_NoPlan : List Str} {cl_NoPlan : Option Bool} {dd_NoPlan nd_NoPlan : Option Addr} {j0_NoPlan j1_NoPlan j2_NoPlan j3_NoPlan j5_NoPlan : Option Value} {nc_NoPlan : Value} {es_NoPlan : Array DictEntry} {ne_NoPlan : Nat} {ns_NoPlan : Array (Option Value)}
  (ra_NoPlan : PySem.W.nsIn K mainGlobals "NoPlan" = some (some (.ref C_NoPlan))) (rl_NoPlan : K.lookup C_NoPlan = some (excClassObj nm_NoPlan q_NoPlan C_NoPlan N_NoPlan bs_NoPlan (.ref C_ForkError :: bmV) hd_NoPlan sn_NoPlan su_NoPlan ab_NoPlan cl_NoPlan dd_NoPlan j0_NoPlan j1_NoPlan j2_NoPlan j3_NoPlan j5_NoPlan "ValueError.__new__"))
  (rn_NoPlan : K.lookup N_NoPlan = some ⟨nc_NoPlan, nd_NoPlan, .dict es_NoPlan ne_NoPlan, ns_NoPlan⟩) (rw_NoPlan : wordKeys es_NoPlan.toList = true) (ri_NoPlan : PySem.W.nsIn K N_NoPlan "__init__" = some none)
  (r1_NoPlan : PySem.W.findIn K (.ref C_NoPlan) "__getattribute__" = some (some (.builtin "BaseException.__getattribute__"))) (r2_NoPlan : PySem.W.findIn K (.ref C_NoPlan) "__getattr__" = some none) (r3_NoPlan : PySem.W.findIn K (.ref C_NoPlan) "__class__" = some (some (.builtin "object.__class__")))
  {C_NoName N_NoName : Addr} {nm_NoName q_NoName : Str} {bs_NoName su_NoName : List Value} {hd_NoName ab_NoName : Bool} {sn_NoName : List Str} {cl_NoName : Option Bool} {dd_NoName nd_NoName : Option Addr} {j0_NoName j1_NoName j2_NoName j3_NoName j5_NoName : Option Value} {nc_NoName : Value} {es_NoName : Array DictEntry} {ne_NoName : Nat} {ns_NoName : Array (Option Value)}
  (ra_NoName : PySem.W.nsIn K mainGlobals "NoName" = some (some (.ref C_NoName))) (rl_NoName : K.lookup C_NoName = some (excClassObj nm_NoName q_NoName C_NoName N_NoName bs_NoName (.ref C_ForkError :: bmV) hd_NoName sn_NoName su_NoName ab_NoName cl_NoName dd_NoName j0_NoName j1_NoName j2_NoName j3_NoName j5_NoName "ValueError.__new__"))
  (rn_NoName : K.lookup N_NoName = some ⟨nc_NoName, nd_NoName, .dict es_NoName ne_NoName, ns_NoName⟩) (rw_NoName : wordKeys es_NoName.toList = true) (ri_NoName : PySem.W.nsIn K N_NoName "__init__" = some none)
  (r1_NoName : PySem.W.findIn K (.ref C_NoName) "__getattribute__" = some (some (.builtin "BaseException.__getattribute__"))) (r2_NoName : PySem.W.findIn K (.ref C_NoName) "__getattr__" = some none) (r3_NoName : PySem.W.findIn K (.ref C_NoName) "__class__" = some (some (.builtin "object.__class__")))
  {C_NoOrder N_NoOrder : Addr} {nm_NoOrder q_NoOrder : Str} {bs_NoOrder su_NoOrder : List Value} {hd_NoOrder ab_NoOrder : Bool} {sn_NoOrder : List Str} {cl_NoOrder : Option Bool} {dd_NoOrder nd_NoOrder : Option Addr} {j0_NoOrder j1_NoOrder j2_NoOrder j3_NoOrder j5_NoOrder : Option Value} {nc_NoOrder : Value} {es_NoOrder : Array DictEntry} {ne_NoOrder : Nat} {ns_NoOrder : Array (Option Value)}
  (ra_NoOrder : PySem.W.nsIn K mainGlobals "NoOrder" = some (some (.ref C_NoOrder))) (rl_NoOrder : K.lookup C_NoOrder = some (excClassObj nm_NoOrder q_NoOrder C_NoOrder N_NoOrder bs_NoOrder (.ref C_ForkError :: bmV) hd_NoOrder sn_NoOrder su_NoOrder ab_NoOrder cl_NoOrder dd_NoOrder j0_NoOrder j1_NoOrder j2_NoOrder j3_NoOrder j5_NoOrder "ValueError.__new__"))
  (rn_NoOrder : K.lookup N_NoOrder = some ⟨nc_NoOrder, nd_NoOrder, .dict es_NoOrder ne_NoOrder, ns_NoOrder⟩) (rw_NoOrder : wordKeys es_NoOrder.toList = true) (ri_NoOrder : PySem.W.nsIn K N_NoOrder "__init__" = some none)
  (r1_NoOrder : PySem.W.findIn K (.ref C_NoOrder) "__getattribute__" = some (some (.builtin "BaseException.__getattribute__"))) (r2_NoOrder : PySem.W.findIn K (.ref C_NoOrder) "__getattr__" = some none) (r3_NoOrder : PySem.W.findIn K (.ref C_NoOrder) "__class__" = some (some (.builtin "object.__class__")))
  {C_NoText N_NoText : Addr} {nm_NoText q_NoText : Str} {bs_NoText su_NoText : List Value} {hd_NoText ab_NoText : Bool} {sn_NoText : List Str} {cl_NoText : Option Bool} {dd_NoText nd_NoText : Option Addr} {j0_NoText j1_NoText j2_NoText j3_NoText j5_NoText : Option Value} {nc_NoText : Value} {es_NoText : Array DictEntry} {ne_NoText : Nat} {ns_NoText : Array (Option Value)}
  (ra_NoText : PySem.W.nsIn K mainGlobals "NoText" = some (some (.ref C_NoText))) (rl_NoText : K.lookup C_NoText = some (excClassObj nm_NoText q_NoText C_NoText N_NoText bs_NoText (.ref C_ForkError :: bmV) hd_NoText sn_NoText su_NoText ab_NoText cl_NoText dd_NoText j0_NoText j1_NoText j2_NoText j3_NoText j5_NoText "ValueError.__new__"))
  (rn_NoText : K.lookup N_NoText = some ⟨nc_NoText, nd_NoText, .dict es_NoText ne_NoText, ns_NoText⟩) (rw_NoText : wordKeys es_NoText.toList = true) (ri_NoText : PySem.W.nsIn K N_NoText "__init__" = some none)
  (r1_NoText : PySem.W.findIn K (.ref C_NoText) "__getattribute__" = some (some (.builtin "BaseException.__getattribute__"))) (r2_NoText : PySem.W.findIn K (.ref C_NoText) "__getattr__" = some none) (r3_NoText : PySem.W.findIn K (.ref C_NoText) "__class__" = some (some (.builtin "object.__class__")))
  {C_NotPlain N_NotPlain : Addr} {nm_NotPlain q_NotPlain : Str} {bs_NotPlain su_NotPlain : List Value} {hd_NotPlain ab_NotPlain : Bool} {sn_NotPlain : List Str} {cl_NotPlain : Option Bool} {dd_NotPlain nd_NotPlain : Option Addr} {j0_NotPlain j1_NotPlain j2_NotPlain j3_NotPlain j5_NotPlain : Option Value} {nc_NotPlain : Value} {es_NotPlain : Array DictEntry} {ne_NotPlain : Nat} {ns_NotPlain : Array (Option Value)}
  (ra_NotPlain : PySem.W.nsIn K mainGlobals "NotPlain" = some (some (.ref C_NotPlain))) (rl_NotPlain : K.lookup C_NotPlain = some (excClassObj nm_NotPlain q_NotPlain C_NotPlain N_NotPlain bs_NotPlain (.ref C_ForkError :: bmV) hd_NotPlain sn_NotPlain su_NotPlain ab_NotPlain cl_NotPlain dd_NotPlain j0_NotPlain j1_NotPlain j2_NotPlain j3_NotPlain j5_NotPlain "ValueError.__new__"))
  (rn_NotPlain : K.lookup N_NotPlain = some ⟨nc_NotPlain, nd_NotPlain, .dict es_NotPlain ne_NotPlain, ns_NotPlain⟩) (rw_NotPlain : wordKeys es_NotPlain.toList = true) (ri_NotPlain : PySem.W.nsIn K N_NotPlain "__init__" = some none)
  (r1_NotPlain : PySem.W.findIn K (.ref C_NotPlain) "__getattribute__" = some (some (.builtin "BaseException.__getattribute__"))) (r2_NotPlain : PySem.W.findIn K (.ref C_NotPlain) "__getattr__" = some none) (r3_NotPlain : PySem.W.findIn K (.ref C_NotPlain) "__class__" = some (some (.builtin "object.__class__")))
  {C_NotSure N_NotSure : Addr} {nm_NotSure q_NotSure : Str} {bs_NotSure su_NotSure : List Value} {hd_NotSure ab_NotSure : Bool} {sn_NotSure : List Str} {cl_NotSure : Option Bool} {dd_NotSure nd_NotSure : Option Addr} {j0_NotSure j1_NotSure j2_NotSure j3_NotSure j5_NotSure : Option Value} {nc_NotSure : Value} {es_NotSure : Array DictEntry} {ne_NotSure : Nat} {ns_NotSure : Array (Option Value)}
  (ra_NotSure : PySem.W.nsIn K mainGlobals "NotSure" = some (some (.ref C_NotSure))) (rl_NotSure : K.lookup C_NotSure = some (excClassObj nm_NotSure q_NotSure C_NotSure N_NotSure bs_NotSure (.ref C_ForkError :: bmV) hd_NotSure sn_NotSure su_NotSure ab_NotSure cl_NotSure dd_NotSure j0_NotSure j1_NotSure j2_NotSure j3_NotSure j5_NotSure "ValueError.__new__"))
  (rn_NotSure : K.lookup N_NotSure = some ⟨nc_NotSure, nd_NotSure, .dict es_NotSure ne_NotSure, ns_NotSure⟩) (rw_NotSure : wordKeys es_NotSure.toList = true) (ri_NotSure : PySem.W.nsIn K N_NotSure "__init__" = some none)
  (r1_NotSure : PySem.W.findIn K (.ref C_NotSure) "__getattribute__" = some (some (.builtin "BaseException.__getattribute__"))) (r2_NotSure : PySem.W.findIn K (.ref C_NotSure) "__getattr__" = some none) (r3_NotSure : PySem.W.findIn K (.ref C_NotSure) "__class__" = some (some (.builtin "object.__class__")))
  {C_NoWeights N_NoWeights : Addr} {nm_NoWeights q_NoWeights : Str} {bs_NoWeights su_NoWeights : List Value} {hd_NoWeights ab_NoWeights : Bool} {sn_NoWeights : List Str} {cl_NoWeights : Option Bool} {dd_NoWeights nd_NoWeights : Option Addr} {j0_NoWeights j1_NoWeights j2_NoWeights j3_NoWeights j5_NoWeights : Option Value} {nc_NoWeights : Value} {es_NoWeights : Array DictEntry} {ne_NoWeights : Nat} {ns_NoWeights : Array (Option Value)}
  (ra_NoWeights : PySem.W.nsIn K mainGlobals "NoWeights" = some (some (.ref C_NoWeights))) (rl_NoWeights : K.lookup C_NoWeights = some (excClassObj nm_NoWeights q_NoWeights C_NoWeights N_NoWeights bs_NoWeights (.ref C_ForkError :: bmV) hd_NoWeights sn_NoWeights su_NoWeights ab_NoWeights cl_NoWeights dd_NoWeights j0_NoWeights j1_NoWeights j2_NoWeights j3_NoWeights j5_NoWeights "ValueError.__new__"))
  (rn_NoWeights : K.lookup N_NoWeights = some ⟨nc_NoWeights, nd_NoWeights, .dict es_NoWeights ne_NoWeights, ns_NoWeights⟩) (rw_NoWeights : wordKeys es_NoWeights.toList = true) (ri_NoWeights : PySem.W.nsIn K N_NoWeights "__init__" = some none)
  (r1_NoWeights : PySem.W.findIn K (.ref C_NoWeights) "__getattribute__" = some (some (.builtin "BaseException.__getattribute__"))) (r2_NoWeights : PySem.W.findIn K (.ref C_NoWeights) "__getattr__" = some none) (r3_NoWeights : PySem.W.findIn K (.ref C_NoWeights) "__class__" = some (some (.builtin "object.__class__")))
  {C_NoWorld N_NoWorld : Addr} {nm_NoWorld q_NoWorld : Str} {bs_NoWorld su_NoWorld : List Value} {hd_NoWorld ab_NoWorld : Bool} {sn_NoWorld : List Str} {cl_NoWorld : Option Bool} {dd_NoWorld nd_NoWorld : Option Addr} {j0_NoWorld j1_NoWorld j2_NoWorld j3_NoWorld j5_NoWorld : Option Value} {nc_NoWorld : Value} {es_NoWorld : Array DictEntry} {ne_NoWorld : Nat} {ns_NoWorld : Array (Option Value)}
  (ra_NoWorld : PySem.W.nsIn K mainGlobals "NoWorld" = some (some (.ref C_NoWorld))) (rl_NoWorld : K.lookup C_NoWorld = some (excClassObj nm_NoWorld q_NoWorld C_NoWorld N_NoWorld bs_NoWorld (.ref C_ForkError :: bmV) hd_NoWorld sn_NoWorld su_NoWorld ab_NoWorld cl_NoWorld dd_NoWorld j0_NoWorld j1_NoWorld j2_NoWorld j3_NoWorld j5_NoWorld "ValueError.__new__"))
  (rn_NoWorld : K.lookup N_NoWorld = some ⟨nc_NoWorld, nd_NoWorld, .dict es_NoWorld ne_NoWorld, ns_NoWorld⟩) (rw_NoWorld : wordKeys es_NoWorld.toList = true) (ri_NoWorld : PySem.W.nsIn K N_NoWorld "__init__" = some none)
  (r1_NoWorld : PySem.W.findIn K (.ref C_NoWorld) "__getattribute__" = some (some (.builtin "BaseException.__getattribute__"))) (r2_NoWorld : PySem.W.findIn K (.ref C_NoWorld) "__getattr__" = some none) (r3_NoWorld : PySem.W.findIn K (.ref C_NoWorld) "__class__" = some (some (.builtin "object.__class__")))
  {C_TooMany N_TooMany : Addr} {nm_TooMany q_TooMany : Str} {bs_TooMany su_TooMany : List Value} {hd_TooMany ab_TooMany : Bool} {sn_TooMany : List Str} {cl_TooMany : Option Bool} {dd_TooMany nd_TooMany : Option Addr} {j0_TooMany j1_TooMany j2_TooMany j3_TooMany j5_TooMany : Option Value} {nc_TooMany : Value} {es_TooMany : Array DictEntry} {ne_TooMany : Nat} {ns_TooMany : Array (Option Value)}
  (ra_TooMany : PySem.W.nsIn K mainGlobals "TooMany" = some (some (.ref C_TooMany))) (rl_TooMany : K.lookup C_TooMany = some (excClassObj nm_TooMany q_TooMany C_TooMany N_TooMany bs_TooMany (.ref C_ForkError :: bmV) hd_TooMany sn_TooMany su_TooMany ab_TooMany cl_TooMany dd_TooMany j0_TooMany j1_TooMany j2_TooMany j3_TooMany j5_TooMany "ValueError.__new__"))
  (rn_TooMany : K.lookup N_TooMany = some ⟨nc_TooMany, nd_TooMany, .dict es_TooMany ne_TooMany, ns_TooMany⟩) (rw_TooMany : wordKeys es_TooMany.toList = true) (ri_TooMany : PySem.W.nsIn K N_TooMany "__init__" = some none)
  (r1_TooMany : PySem.W.findIn K (.ref C_TooMany) "__getattribute__" = some (some (.builtin "BaseException.__getattribute__"))) (r2_TooMany : PySem.W.findIn K (.ref C_TooMany) "__getattr__" = some none) (r3_TooMany : PySem.W.findIn K (.ref C_TooMany) "__class__" = some (some (.builtin "object.__class__")))
  (ko1 : PySem.W.kitAny K (.ref C_NoPlan) ([C_NoOrder, C_NoText, C_NotPlain, C_NotSure, C_NoWeights, C_NoWorld, C_TooMany].map Value.ref) = some false)
  (ko2 : PySem.W.kitAny K (.ref C_NoName) ([C_NoOrder, C_NoText, C_NotPlain, C_NotSure, C_NoWeights, C_NoWorld, C_TooMany].map Value.ref) = some false)
  (kv1 : PySem.W.kitOne K (.ref C_NoPlan) (.type "ValueError") = some true)
  (kv2 : PySem.W.kitOne K (.ref C_NoName) (.type "ValueError") = some true)
  (kpp : PySem.W.kitOne K (.ref C_NoPlan) (.ref C_NoPlan) = some true)
  (kpn : PySem.W.kitOne K (.ref C_NoPlan) (.ref C_NoName) = some false)
  (knp : PySem.W.kitOne K (.ref C_NoName) (.ref C_NoPlan) = some false)
  (knn : PySem.W.kitOne K (.ref C_NoName) (.ref C_NoName) = some true)
  (z_len : PySem.W.nsIn K mainGlobals "len" = some none)
  (z_range : PySem.W.nsIn K mainGlobals "range" = some none)
  (z_min : PySem.W.nsIn K mainGlobals "min" = some none)
  (z_isinstance : PySem.W.nsIn K mainGlobals "isinstance" = some none)
  (z_list : PySem.W.nsIn K mainGlobals "list" = some none)
  (z_reversed : PySem.W.nsIn K mainGlobals "reversed" = some none)
  (z_tuple : PySem.W.nsIn K mainGlobals "tuple" = some none)
  (z_int : PySem.W.nsIn K mainGlobals "int" = some none)
  (z_bool : PySem.W.nsIn K mainGlobals "bool" = some none)
  (z_dict : PySem.W.nsIn K mainGlobals "dict" = some none)
  (z_zip : PySem.W.nsIn K mainGlobals "zip" = some none)
  (z_set : PySem.W.nsIn K mainGlobals "set" = some none)
  (z_sorted : PySem.W.nsIn K mainGlobals "sorted" = some none)
  (z_ValueError : PySem.W.nsIn K mainGlobals "ValueError" = some none) :
  ∃ fd : FuncData, (∀ (s : Shared) (v : Value), BindsTo s fd ⟨[v], []⟩ [("script", v)]) ∧ ∀ base : Heap, K.In base → base.Ns mainGlobals mg → FnOk l.prog w K mg base CX0 60 fa fd ["script"] (spLaw K) := by
 have e := hfa.symm.trans (PySem.W.mg_of X G a28)
 cases e
 have F0 := zY (st := top 12) l0 c0 k0
 have b0 := F0.binds (ps := ["things", "name", "kind"]) fun _ _ _ _ _ _ => len3 (fun _ _ _ => rfl)
 have E0 : FunE K mg "named" f0 _ ["things", "name", "kind"] := ⟨PySem.W.mg_of X G a0, k0, b0⟩
 have FD_named : Fd K mg "named" (top 12) ["things", "name", "kind"] := ⟨f0, _, F0, E0.mg, E0.kp, E0.bd⟩
 have F1 := zY (st := top 15) l1 c1 k1
 have b1 := F1.binds (ps := ["world", "nodes"]) fun _ _ _ _ _ _ => len2 (fun _ _ => rfl)
 have E1 : FunE K mg "plan_of" f1 _ ["world", "nodes"] := ⟨PySem.W.mg_of X G a1, k1, b1⟩
 have FD_plan_of : Fd K mg "plan_of" (top 15) ["world", "nodes"] := ⟨f1, _, F1, E1.mg, E1.kp, E1.bd⟩
 have F2 := zY (st := top 16) l2 c2 k2
 have b2 := F2.binds (ps := ["node"]) fun _ _ _ _ _ _ => len1 (fun _ => rfl)
 have E2 : FunE K mg "followers_of" f2 _ ["node"] := ⟨PySem.W.mg_of X G a2, k2, b2⟩
 have FD_followers_of : Fd K mg "followers_of" (top 16) ["node"] := ⟨f2, _, F2, E2.mg, E2.kp, E2.bd⟩
 have F3 := zY (st := top 13) l3 c3 k3
 have b3 := F3.binds (ps := ["thing"]) fun _ _ _ _ _ _ => len1 (fun _ => rfl)
 have E3 : FunE K mg "is_whole" f3 _ ["thing"] := ⟨PySem.W.mg_of X G a3, k3, b3⟩
 have FD_is_whole : Fd K mg "is_whole" (top 13) ["thing"] := ⟨f3, _, F3, E3.mg, E3.kp, E3.bd⟩
 have F4 := zY (st := top 17) l4 c4 k4
 have b4 := F4.binds (ps := ["number", "size"]) fun _ _ _ _ _ _ => len2 (fun _ _ => rfl)
 have E4 : FunE K mg "is_node_number" f4 _ ["number", "size"] := ⟨PySem.W.mg_of X G a4, k4, b4⟩
 have FD_is_node_number : Fd K mg "is_node_number" (top 17) ["number", "size"] := ⟨f4, _, F4, E4.mg, E4.kp, E4.bd⟩
 have F5 := zY (st := top 18) l5 c5 k5
 have b5 := F5.binds (ps := ["node", "size"]) fun _ _ _ _ _ _ => len2 (fun _ _ => rfl)
 have E5 : FunE K mg "refuse_followers" f5 _ ["node", "size"] := ⟨PySem.W.mg_of X G a5, k5, b5⟩
 have FD_refuse_followers : Fd K mg "refuse_followers" (top 18) ["node", "size"] := ⟨f5, _, F5, E5.mg, E5.kp, E5.bd⟩
 have F6 := zY (st := top 19) l6 c6 k6
 have b6 := F6.binds (ps := ["node"]) fun _ _ _ _ _ _ => len1 (fun _ => rfl)
 have E6 : FunE K mg "refuse_forks" f6 _ ["node"] := ⟨PySem.W.mg_of X G a6, k6, b6⟩
 have FD_refuse_forks : Fd K mg "refuse_forks" (top 19) ["node"] := ⟨f6, _, F6, E6.mg, E6.kp, E6.bd⟩
 have F7 := zY (st := top 21) l7 c7 k7
 have b7 := F7.binds (ps := ["world", "node"]) fun _ _ _ _ _ _ => len2 (fun _ _ => rfl)
 have E7 : FunE K mg "thing_named_at" f7 _ ["world", "node"] := ⟨PySem.W.mg_of X G a7, k7, b7⟩
 have FD_thing_named_at : Fd K mg "thing_named_at" (top 21) ["world", "node"] := ⟨f7, _, F7, E7.mg, E7.kp, E7.bd⟩
 have F8 := zY (st := top 20) l8 c8 k8
 have b8 := F8.binds (ps := ["world", "node"]) fun _ _ _ _ _ _ => len2 (fun _ _ => rfl)
 have E8 : FunE K mg "refuse_name" f8 _ ["world", "node"] := ⟨PySem.W.mg_of X G a8, k8, b8⟩
 have FD_refuse_name : Fd K mg "refuse_name" (top 20) ["world", "node"] := ⟨f8, _, F8, E8.mg, E8.kp, E8.bd⟩
 have F9 := zY (st := top 23) l9 c9 k9
 have b9 := F9.binds (ps := ["script", "k"]) fun _ _ _ _ _ _ => len2 (fun _ _ => rfl)
 have E9 : FunE K mg "_law_cell" f9 _ ["script", "k"] := ⟨PySem.W.mg_of X G a9, k9, b9⟩
 have FD_law_cell : Fd K mg "_law_cell" (top 23) ["script", "k"] := ⟨f9, _, F9, E9.mg, E9.kp, E9.bd⟩
 have F10 := zY (st := top 24) l10 c10 k10
 have b10 := F10.binds (ps := ["cell", "k"]) fun _ _ _ _ _ _ => len2 (fun _ _ => rfl)
 have E10 : FunE K mg "_law_stir" f10 _ ["cell", "k"] := ⟨PySem.W.mg_of X G a10, k10, b10⟩
 have FD_law_stir : Fd K mg "_law_stir" (top 24) ["cell", "k"] := ⟨f10, _, F10, E10.mg, E10.kp, E10.bd⟩
 have F11 := zY (st := top 25) l11 c11 k11
 have b11 := F11.binds (ps := ["cell"]) fun _ _ _ _ _ _ => len1 (fun _ => rfl)
 have E11 : FunE K mg "_law_state" f11 _ ["cell"] := ⟨PySem.W.mg_of X G a11, k11, b11⟩
 have FD_law_state : Fd K mg "_law_state" (top 25) ["cell"] := ⟨f11, _, F11, E11.mg, E11.kp, E11.bd⟩
 have F12 := zY (st := top 26) l12 c12 k12
 have b12 := F12.binds (ps := ["state", "many"]) fun _ _ _ _ _ _ => len2 (fun _ _ => rfl)
 have E12 : FunE K mg "_law_take" f12 _ ["state", "many"] := ⟨PySem.W.mg_of X G a12, k12, b12⟩
 have FD_law_take : Fd K mg "_law_take" (top 26) ["state", "many"] := ⟨f12, _, F12, E12.mg, E12.kp, E12.bd⟩
 have F13 := zY (st := top 27) l13 c13 k13
 have b13 := F13.binds (ps := ["state", "boxes", "deep"]) fun _ _ _ _ _ _ => len3 (fun _ _ _ => rfl)
 have E13 : FunE K mg "_law_expression" f13 _ ["state", "boxes", "deep"] := ⟨PySem.W.mg_of X G a13, k13, b13⟩
 have FD_law_expression : Fd K mg "_law_expression" (top 27) ["state", "boxes", "deep"] := ⟨f13, _, F13, E13.mg, E13.kp, E13.bd⟩
 have F14 := zY (st := top 28) l14 c14 k14
 have b14 := F14.binds (ps := ["state", "boxes", "deep"]) fun _ _ _ _ _ _ => len3 (fun _ _ _ => rfl)
 have E14 : FunE K mg "_law_condition" f14 _ ["state", "boxes", "deep"] := ⟨PySem.W.mg_of X G a14, k14, b14⟩
 have FD_law_condition : Fd K mg "_law_condition" (top 28) ["state", "boxes", "deep"] := ⟨f14, _, F14, E14.mg, E14.kp, E14.bd⟩
 have F15 := zY (st := top 29) l15 c15 k15
 have b15 := F15.binds (ps := ["cell", "name", "boxes"]) fun _ _ _ _ _ _ => len3 (fun _ _ _ => rfl)
 have E15 : FunE K mg "_law_deed" f15 _ ["cell", "name", "boxes"] := ⟨PySem.W.mg_of X G a15, k15, b15⟩
 have FD_law_deed : Fd K mg "_law_deed" (top 29) ["cell", "name", "boxes"] := ⟨f15, _, F15, E15.mg, E15.kp, E15.bd⟩
 have F16 := zY (st := top 30) l16 c16 k16
 have b16 := F16.binds (ps := ["state", "many"]) fun _ _ _ _ _ _ => len2 (fun _ _ => rfl)
 have E16 : FunE K mg "_law_words" f16 _ ["state", "many"] := ⟨PySem.W.mg_of X G a16, k16, b16⟩
 have FD_law_words : Fd K mg "_law_words" (top 30) ["state", "many"] := ⟨f16, _, F16, E16.mg, E16.kp, E16.bd⟩
 have F17 := zY (st := top 31) l17 c17 k17
 have b17 := F17.binds (ps := ["script"]) fun _ _ _ _ _ _ => len1 (fun _ => rfl)
 have E17 : FunE K mg "_law_world" f17 _ ["script"] := ⟨PySem.W.mg_of X G a17, k17, b17⟩
 have FD_law_world : Fd K mg "_law_world" (top 31) ["script"] := ⟨f17, _, F17, E17.mg, E17.kp, E17.bd⟩
 have F18 := zY (st := top 32) l18 c18 k18
 have b18 := F18.binds (ps := ["boxes"]) fun _ _ _ _ _ _ => len1 (fun _ => rfl)
 have E18 : FunE K mg "_law_standings" f18 _ ["boxes"] := ⟨PySem.W.mg_of X G a18, k18, b18⟩
 have FD_law_standings : Fd K mg "_law_standings" (top 32) ["boxes"] := ⟨f18, _, F18, E18.mg, E18.kp, E18.bd⟩
 have F19 := zY (st := top 33) l19 c19 k19
 have b19 := F19.binds (ps := ["e", "boxes", "standing"]) fun _ _ _ _ _ _ => len3 (fun _ _ _ => rfl)
 have E19 : FunE K mg "_law_worth" f19 _ ["e", "boxes", "standing"] := ⟨PySem.W.mg_of X G a19, k19, b19⟩
 have FD_law_worth : Fd K mg "_law_worth" (top 33) ["e", "boxes", "standing"] := ⟨f19, _, F19, E19.mg, E19.kp, E19.bd⟩
 have F20 := zY (st := top 34) l20 c20 k20
 have b20 := F20.binds (ps := ["c", "boxes", "standing"]) fun _ _ _ _ _ _ => len3 (fun _ _ _ => rfl)
 have E20 : FunE K mg "_law_holds" f20 _ ["c", "boxes", "standing"] := ⟨PySem.W.mg_of X G a20, k20, b20⟩
 have FD_law_holds : Fd K mg "_law_holds" (top 34) ["c", "boxes", "standing"] := ⟨f20, _, F20, E20.mg, E20.kp, E20.bd⟩
 have F21 := zY (st := top 35) l21 c21 k21
 have b21 := F21.binds (ps := ["world", "name", "standing"]) fun _ _ _ _ _ _ => len3 (fun _ _ _ => rfl)
 have E21 : FunE K mg "_law_shown" f21 _ ["world", "name", "standing"] := ⟨PySem.W.mg_of X G a21, k21, b21⟩
 have FD_law_shown : Fd K mg "_law_shown" (top 35) ["world", "name", "standing"] := ⟨f21, _, F21, E21.mg, E21.kp, E21.bd⟩
 have F22 := zY (st := top 36) l22 c22 k22
 have b22 := F22.binds (ps := ["state", "world", "many", "k"]) fun _ _ _ _ _ _ => len4 (fun _ _ _ _ => rfl)
 have E22 : FunE K mg "_law_node" f22 _ ["state", "world", "many", "k"] := ⟨PySem.W.mg_of X G a22, k22, b22⟩
 have FD_law_node : Fd K mg "_law_node" (top 36) ["state", "world", "many", "k"] := ⟨f22, _, F22, E22.mg, E22.kp, E22.bd⟩
 have F23 := zY (st := top 37) l23 c23 k23
 have b23 := F23.binds (ps := ["script", "world", "first"]) fun _ _ _ _ _ _ => len3 (fun _ _ _ => rfl)
 have E23 : FunE K mg "_law_plan" f23 _ ["script", "world", "first"] := ⟨PySem.W.mg_of X G a23, k23, b23⟩
 have FD_law_plan : Fd K mg "_law_plan" (top 37) ["script", "world", "first"] := ⟨f23, _, F23, E23.mg, E23.kp, E23.bd⟩
 have F24 := zY (st := top 38) l24 c24 k24
 have b24 := F24.binds (ps := ["node"]) fun _ _ _ _ _ _ => len1 (fun _ => rfl)
 have E24 : FunE K mg "_law_leads" f24 _ ["node"] := ⟨PySem.W.mg_of X G a24, k24, b24⟩
 have FD_law_leads : Fd K mg "_law_leads" (top 38) ["node"] := ⟨f24, _, F24, E24.mg, E24.kp, E24.bd⟩
 have F25 := zY (st := top 39) l25 c25 k25
 have b25 := F25.binds (ps := ["world", "nodes"]) fun _ _ _ _ _ _ => len2 (fun _ _ => rfl)
 have E25 : FunE K mg "_law_due" f25 _ ["world", "nodes"] := ⟨PySem.W.mg_of X G a25, k25, b25⟩
 have FD_law_due : Fd K mg "_law_due" (top 39) ["world", "nodes"] := ⟨f25, _, F25, E25.mg, E25.kp, E25.bd⟩
 have F26 := zY (st := top 40) l26 c26 k26
 have b26 := F26.binds (ps := ["nodes", "world", "cell"]) fun _ _ _ _ _ _ => len3 (fun _ _ _ => rfl)
 have E26 : FunE K mg "_law_spoiled" f26 _ ["nodes", "world", "cell"] := ⟨PySem.W.mg_of X G a26, k26, b26⟩
 have FD_law_spoiled : Fd K mg "_law_spoiled" (top 40) ["nodes", "world", "cell"] := ⟨f26, _, F26, E26.mg, E26.kp, E26.bd⟩
 have F27 := zY (st := top 41) l27 c27 k27
 have b27 := F27.binds (ps := ["world", "nodes"]) fun _ _ _ _ _ _ => len2 (fun _ _ => rfl)
 have E27 : FunE K mg "_law_told" f27 _ ["world", "nodes"] := ⟨PySem.W.mg_of X G a27, k27, b27⟩
 have FD_law_told : Fd K mg "_law_told" (top 41) ["world", "nodes"] := ⟨f27, _, F27, E27.mg, E27.kp, E27.bd⟩
 have F28 := zY (st := top 42) l28 c28 k28
 have R_ForkError := yY (x := "ForkError") X G (fun _ _ => .base) ra_ForkError rl_ForkError rn_ForkError rw_ForkError ri_ForkError r1_ForkError r2_ForkError r3_ForkError
 have R_NoPlan := yY (x := "NoPlan") X G R_ForkError.tail ra_NoPlan rl_NoPlan rn_NoPlan rw_NoPlan ri_NoPlan r1_NoPlan r2_NoPlan r3_NoPlan
 have R_NoName := yY (x := "NoName") X G R_ForkError.tail ra_NoName rl_NoName rn_NoName rw_NoName ri_NoName r1_NoName r2_NoName r3_NoName
 have R_NoOrder := yY (x := "NoOrder") X G R_ForkError.tail ra_NoOrder rl_NoOrder rn_NoOrder rw_NoOrder ri_NoOrder r1_NoOrder r2_NoOrder r3_NoOrder
 have R_NoText := yY (x := "NoText") X G R_ForkError.tail ra_NoText rl_NoText rn_NoText rw_NoText ri_NoText r1_NoText r2_NoText r3_NoText
 have R_NotPlain := yY (x := "NotPlain") X G R_ForkError.tail ra_NotPlain rl_NotPlain rn_NotPlain rw_NotPlain ri_NotPlain r1_NotPlain r2_NotPlain r3_NotPlain
 have R_NotSure := yY (x := "NotSure") X G R_ForkError.tail ra_NotSure rl_NotSure rn_NotSure rw_NotSure ri_NotSure r1_NotSure r2_NotSure r3_NotSure
 have R_NoWeights := yY (x := "NoWeights") X G R_ForkError.tail ra_NoWeights rl_NoWeights rn_NoWeights rw_NoWeights ri_NoWeights r1_NoWeights r2_NoWeights r3_NoWeights
 have R_NoWorld := yY (x := "NoWorld") X G R_ForkError.tail ra_NoWorld rl_NoWorld rn_NoWorld rw_NoWorld ri_NoWorld r1_NoWorld r2_NoWorld r3_NoWorld
 have R_TooMany := yY (x := "TooMany") X G R_ForkError.tail ra_TooMany rl_TooMany rn_TooMany rw_TooMany ri_TooMany r1_TooMany r2_TooMany r3_TooMany
 have B : Bl mg := ⟨PySem.W.mg_none_of X G z_len, PySem.W.mg_none_of X G z_range, PySem.W.mg_none_of X G z_min, PySem.W.mg_none_of X G z_isinstance, PySem.W.mg_none_of X G z_list, PySem.W.mg_none_of X G z_reversed, PySem.W.mg_none_of X G z_tuple, PySem.W.mg_none_of X G z_int, PySem.W.mg_none_of X G z_bool, PySem.W.mg_none_of X G z_dict, PySem.W.mg_none_of X G z_zip⟩
 have B_set : mg "set" = none := PySem.W.mg_none_of X G z_set
 have B_sorted : mg "sorted" = none := PySem.W.mg_none_of X G z_sorted
 have B_ValueError : mg "ValueError" = none := PySem.W.mg_none_of X G z_ValueError
 refine ⟨PySem.W.fnOf "law" "law" (xD (top 42)) (xC (top 42)) (xB (top 42)) .none kV28 dc28 pm28 an28 cd28 ct28, fun s v => .of_eq rfl, fun base YK _ => ?_⟩
 have RR : Refs K mg C_ForkError C_NoPlan C_NoName [C_NoOrder, C_NoText, C_NotPlain, C_NotSure, C_NoWeights, C_NoWorld, C_TooMany] := ⟨R_ForkError, R_NoPlan, R_NoName, fun C h => h.elim (fun e => by rw [e]; exact ko1) (fun e => by rw [e]; exact ko2), fun C h => h.elim (fun e => by rw [e]; exact kv1) (fun e => by rw [e]; exact kv2), kpp, kpn, knp, knn⟩
 have D_cell := dn_cell (P := l.prog) (w := w) (K := K) (mg := mg) (base := base) FD_law_cell B
 have D_state := dn_state (P := l.prog) (w := w) (K := K) (mg := mg) (base := base) FD_law_state
 have D_take := dn_take FD_law_take (dn_stir (P := l.prog) (w := w) (K := K) (mg := mg) (base := base) FD_law_stir)
 have D_expr := dn_expr FD_law_expression B D_take 3
 have D_cond := dn_cond FD_law_condition B D_take D_expr 3
 have D_words := dn_words FD_law_words B D_take
 have D_deed := dn_deed FD_law_deed B D_state D_take D_expr D_cond
 have D_stand := dn_lstand (P := l.prog) (w := w) (K := K) (mg := mg) (base := base) FD_law_standings B
 have D_worth := dn_worth (P := l.prog) (w := w) (K := K) (mg := mg) (base := base) FD_law_worth B 8
 have D_holds := dn_holds FD_law_holds B D_worth 8
 have D_world := dn_world FD_law_world B D_cell D_state D_take D_words D_deed D_expr D_cond D_stand D_holds
 have D_node := dn_node FD_law_node B B_set B_sorted D_take D_stand (dn_shown FD_law_shown D_worth)
 have D_plan := dn_lplan FD_law_plan B D_cell D_state D_take D_node
 have X_named := dx_named (P := l.prog) (w := w) (K := K) (mg := mg) (base := base) FD_named (R_NoName.own base YK)
 have X_refF := dx_refF FD_refuse_followers (R_NoPlan.own base YK) (dn_follow (P := l.prog) (w := w) (K := K) (mg := mg) (base := base) FD_followers_of) (dn_nodeno FD_is_node_number (dn_whole (P := l.prog) (w := w) (K := K) (mg := mg) (base := base) FD_is_whole B))
 have X_refK := dx_refK (P := l.prog) (w := w) (K := K) (mg := mg) (base := base) FD_refuse_forks B (R_NoPlan.own base YK)
 have X_plan := dx_plan FD_plan_of B (R_NoPlan.own base YK) X_refF X_refK (dx_refN FD_refuse_name (dx_thing FD_thing_named_at X_named))
 have D_told := dn_told YK FD_law_told B B_ValueError RR R_NoOrder R_NoText R_NotPlain R_NotSure R_NoWeights R_NoWorld R_TooMany X_plan
 have D_due := dn_due FD_law_due B B_set (dn_leads (P := l.prog) (w := w) (K := K) (mg := mg) (base := base) FD_law_leads)
 exact ok_law F28 B D_world D_plan D_told (dn_spoiled FD_law_spoiled B D_state D_take) D_due X_plan.calm
theorem walk {l : PySem.W.OpenLaw} {q : Program} {loose : List Str} {XP : (Str → Option Value) → Heap → Prop} {YP : World → Heap → Prop} {d : DefRec} {K : Params → PySem.W.Frag} (hn : l.most = some 63) (hdf : d.params.defaults = [])
  (hY : ∀ (w : World) (h : Heap), YP w h → (K w.params).In h)
  (F : ∀ (w : World) (mg : Str → Option Value) (fa : Addr) (h : Heap), (K w.params).In h → h.Ns mainGlobals mg → mg d.name = some (.ref fa) →
   ∃ fd : FuncData, (∀ (s : Shared) (u : Value), BindsTo s fd ⟨[u], []⟩ [("script", u)]) ∧ ∀ base : Heap, (K w.params).In base → base.Ns mainGlobals mg → FnOk l.prog w (K w.params) mg base CX0 60 fa fd ["script"] (spLaw (K w.params))) :
  PySem.W.WalkO q loose XP YP l.row.toRowW d [] (fun f vs => PySem.call f vs) :=
 L2.walk_of (n := 63) (k := 60) (x := "script") (CX := fun _ => CX0) (sp := fun w => spLaw (K w.params)) hn (by decide) hdf ⟨rfl, by decide, by decide⟩ hY F (fun _ _ a ns hl _ hS => ⟨a, ns, rfl, hS, hl, fun _ => rfl⟩) fun _ _ _ _ _ z => z
end FP
open PySem PySem.W PyProof.Rows
set_option maxRecDepth 100000 in
set_option maxHeartbeats 0 in
theorem PySem.Challenge.cw_forkplan_k21_plans_made_holds : PySem.Challenge.rw_forkplan_k21_plans_made.Holds := by
 w_on
 refine PySem.W.holds_law (by decide +kernel) fun said => ?_
 refine PySem.W.holds_open (q := FP.topView) (loose := []) (N := 6168) (YP := InK FP.topLeft) (XP := XL FP.topView [])
  (Xt := fun s => xlAt FP.topView [] s && recOk (RowW.records (OpenRow.toRowW (PySem.W.OpenLaw.row PySem.Challenge.rw_forkplan_k21_plans_made))) s)
  (Yf := Hook.obs FP.topHook) (Ya := Hook.val FP.topHook) FP.topRuns
  (Hook.of FP.topHook) (Hook.keeps FP.topHook) (fun s e => xl_of s (Bool.and_eq_true_iff.mp e).1)
  XL.keeps (by rfl) (by rfl) (by rfl) (fun s e => recFacts_of (Bool.and_eq_true_iff.mp e).2)
  (by rfl) (by first | assumption | decide +kernel) (by decide +kernel)
  ⟨rfl, rfl, rfl, rfl, rfl, by decide +kernel⟩ ?hw ?hc
 case hw => w_witness2
 k_fill
 refine FP.walk (l := PySem.Challenge.rw_forkplan_k21_plans_made) (K := FP.topLeft) rfl rfl (fun w h Y => Y) ?F
 case F =>
  intro w mg fa h KX G hmg
  refine' FP.all_mk KX G hmg ?a0 ?l0 ?c0 ?k0 ?a1 ?l1 ?c1 ?k1 ?a2 ?l2 ?c2 ?k2 ?a3 ?l3 ?c3 ?k3 ?a4 ?l4 ?c4 ?k4 ?a5 ?l5 ?c5 ?k5 ?a6 ?l6 ?c6 ?k6 ?a7 ?l7 ?c7 ?k7 ?a8 ?l8 ?c8 ?k8 ?a9 ?l9 ?c9 ?k9 ?a10 ?l10 ?c10 ?k10 ?a11 ?l11 ?c11 ?k11 ?a12 ?l12 ?c12 ?k12 ?a13 ?l13 ?c13 ?k13 ?a14 ?l14 ?c14 ?k14 ?a15 ?l15 ?c15 ?k15 ?a16 ?l16 ?c16 ?k16 ?a17 ?l17 ?c17 ?k17 ?a18 ?l18 ?c18 ?k18 ?a19 ?l19 ?c19 ?k19 ?a20 ?l20 ?c20 ?k20 ?a21 ?l21 ?c21 ?k21 ?a22 ?l22 ?c22 ?k22 ?a23 ?l23 ?c23 ?k23 ?a24 ?l24 ?c24 ?k24 ?a25 ?l25 ?c25 ?k25 ?a26 ?l26 ?c26 ?k26 ?a27 ?l27 ?c27 ?k27 ?a28 ?l28 ?c28 ?k28 ?ra_ForkError ?rl_ForkError ?rn_ForkError ?rw_ForkError ?ri_ForkError ?r1_ForkError ?r2_ForkError ?r3_ForkError ?ra_NoPlan ?rl_NoPlan ?rn_NoPlan ?rw_NoPlan ?ri_NoPlan ?r1_NoPlan ?r2_NoPlan ?r3_NoPlan ?ra_NoName ?rl_NoName ?rn_NoName ?rw_NoName ?ri_NoName ?r1_NoName ?r2_NoName ?r3_NoName ?ra_NoOrder ?rl_NoOrder ?rn_NoOrder ?rw_NoOrder ?ri_NoOrder ?r1_NoOrder ?r2_NoOrder ?r3_NoOrder ?ra_NoText ?rl_NoText ?rn_NoText ?rw_NoText ?ri_NoText ?r1_NoText ?r2_NoText ?r3_NoText ?ra_NotPlain ?rl_NotPlain ?rn_NotPlain ?rw_NotPlain ?ri_NotPlain ?r1_NotPlain ?r2_NotPlain ?r3_NotPlain ?ra_NotSure ?rl_NotSure ?rn_NotSure ?rw_NotSure ?ri_NotSure ?r1_NotSure ?r2_NotSure ?r3_NotSure ?ra_NoWeights ?rl_NoWeights ?rn_NoWeights ?rw_NoWeights ?ri_NoWeights ?r1_NoWeights ?r2_NoWeights ?r3_NoWeights ?ra_NoWorld ?rl_NoWorld ?rn_NoWorld ?rw_NoWorld ?ri_NoWorld ?r1_NoWorld ?r2_NoWorld ?r3_NoWorld ?ra_TooMany ?rl_TooMany ?rn_TooMany ?rw_TooMany ?ri_TooMany ?r1_TooMany ?r2_TooMany ?r3_TooMany ?ko1 ?ko2 ?kv1 ?kv2 ?kpp ?kpn ?knp ?knn ?z_len ?z_range ?z_min ?z_isinstance ?z_list ?z_reversed ?z_tuple ?z_int ?z_bool ?z_dict ?z_zip ?z_set ?z_sorted ?z_ValueError
  (case a0 => k_is); (case l0 => k_is); (case c0 => k_is); (case k0 => k_is)
  (case a1 => k_is); (case l1 => k_is); (case c1 => k_is); (case k1 => k_is)
  (case a2 => k_is); (case l2 => k_is); (case c2 => k_is); (case k2 => k_is)
  (case a3 => k_is); (case l3 => k_is); (case c3 => k_is); (case k3 => k_is)
  (case a4 => k_is); (case l4 => k_is); (case c4 => k_is); (case k4 => k_is)
  (case a5 => k_is); (case l5 => k_is); (case c5 => k_is); (case k5 => k_is)
  (case a6 => k_is); (case l6 => k_is); (case c6 => k_is); (case k6 => k_is)
  (case a7 => k_is); (case l7 => k_is); (case c7 => k_is); (case k7 => k_is)
  (case a8 => k_is); (case l8 => k_is); (case c8 => k_is); (case k8 => k_is)
  (case a9 => k_is); (case l9 => k_is); (case c9 => k_is); (case k9 => k_is)
  (case a10 => k_is); (case l10 => k_is); (case c10 => k_is); (case k10 => k_is)
  (case a11 => k_is); (case l11 => k_is); (case c11 => k_is); (case k11 => k_is)
  (case a12 => k_is); (case l12 => k_is); (case c12 => k_is); (case k12 => k_is)
  (case a13 => k_is); (case l13 => k_is); (case c13 => k_is); (case k13 => k_is)
  (case a14 => k_is); (case l14 => k_is); (case c14 => k_is); (case k14 => k_is)
  (case a15 => k_is); (case l15 => k_is); (case c15 => k_is); (case k15 => k_is)
  (case a16 => k_is); (case l16 => k_is); (case c16 => k_is); (case k16 => k_is)
  (case a17 => k_is); (case l17 => k_is); (case c17 => k_is); (case k17 => k_is)
  (case a18 => k_is); (case l18 => k_is); (case c18 => k_is); (case k18 => k_is)
  (case a19 => k_is); (case l19 => k_is); (case c19 => k_is); (case k19 => k_is)
  (case a20 => k_is); (case l20 => k_is); (case c20 => k_is); (case k20 => k_is)
  (case a21 => k_is); (case l21 => k_is); (case c21 => k_is); (case k21 => k_is)
  (case a22 => k_is); (case l22 => k_is); (case c22 => k_is); (case k22 => k_is)
  (case a23 => k_is); (case l23 => k_is); (case c23 => k_is); (case k23 => k_is)
  (case a24 => k_is); (case l24 => k_is); (case c24 => k_is); (case k24 => k_is)
  (case a25 => k_is); (case l25 => k_is); (case c25 => k_is); (case k25 => k_is)
  (case a26 => k_is); (case l26 => k_is); (case c26 => k_is); (case k26 => k_is)
  (case a27 => k_is); (case l27 => k_is); (case c27 => k_is); (case k27 => k_is)
  (case a28 => k_is); (case l28 => k_is); (case c28 => k_is); (case k28 => k_is)
  (case ra_ForkError => first | k_is | rfl | decide)
  (case rl_ForkError => first | k_is | rfl | decide)
  (case rn_ForkError => first | k_is | rfl | decide)
  (case rw_ForkError => first | k_is | rfl | decide)
  (case ri_ForkError => first | k_is | rfl | decide)
  (case r1_ForkError => first | k_is | rfl | decide)
  (case r2_ForkError => first | k_is | rfl | decide)
  (case r3_ForkError => first | k_is | rfl | decide)
  (case ra_NoPlan => first | k_is | rfl | decide)
  (case rl_NoPlan => first | k_is | rfl | decide)
  (case rn_NoPlan => first | k_is | rfl | decide)
  (case rw_NoPlan => first | k_is | rfl | decide)
  (case ri_NoPlan => first | k_is | rfl | decide)
  (case r1_NoPlan => first | k_is | rfl | decide)
  (case r2_NoPlan => first | k_is | rfl | decide)
  (case r3_NoPlan => first | k_is | rfl | decide)
  (case ra_NoName => first | k_is | rfl | decide)
  (case rl_NoName => first | k_is | rfl | decide)
  (case rn_NoName => first | k_is | rfl | decide)
  (case rw_NoName => first | k_is | rfl | decide)
  (case ri_NoName => first | k_is | rfl | decide)
  (case r1_NoName => first | k_is | rfl | decide)
  (case r2_NoName => first | k_is | rfl | decide)
  (case r3_NoName => first | k_is | rfl | decide)
  (case ra_NoOrder => first | k_is | rfl | decide)
  (case rl_NoOrder => first | k_is | rfl | decide)
  (case rn_NoOrder => first | k_is | rfl | decide)
  (case rw_NoOrder => first | k_is | rfl | decide)
  (case ri_NoOrder => first | k_is | rfl | decide)
  (case r1_NoOrder => first | k_is | rfl | decide)
  (case r2_NoOrder => first | k_is | rfl | decide)
  (case r3_NoOrder => first | k_is | rfl | decide)
  (case ra_NoText => first | k_is | rfl | decide)
  (case rl_NoText => first | k_is | rfl | decide)
  (case rn_NoText => first | k_is | rfl | decide)
  (case rw_NoText => first | k_is | rfl | decide)
  (case ri_NoText => first | k_is | rfl | decide)
  (case r1_NoText => first | k_is | rfl | decide)
  (case r2_NoText => first | k_is | rfl | decide)
  (case r3_NoText => first | k_is | rfl | decide)
  (case ra_NotPlain => first | k_is | rfl | decide)
  (case rl_NotPlain => first | k_is | rfl | decide)
  (case rn_NotPlain => first | k_is | rfl | decide)
  (case rw_NotPlain => first | k_is | rfl | decide)
  (case ri_NotPlain => first | k_is | rfl | decide)
  (case r1_NotPlain => first | k_is | rfl | decide)
  (case r2_NotPlain => first | k_is | rfl | decide)
  (case r3_NotPlain => first | k_is | rfl | decide)
  (case ra_NotSure => first | k_is | rfl | decide)
  (case rl_NotSure => first | k_is | rfl | decide)
  (case rn_NotSure => first | k_is | rfl | decide)
  (case rw_NotSure => first | k_is | rfl | decide)
  (case ri_NotSure => first | k_is | rfl | decide)
  (case r1_NotSure => first | k_is | rfl | decide)
  (case r2_NotSure => first | k_is | rfl | decide)
  (case r3_NotSure => first | k_is | rfl | decide)
  (case ra_NoWeights => first | k_is | rfl | decide)
  (case rl_NoWeights => first | k_is | rfl | decide)
  (case rn_NoWeights => first | k_is | rfl | decide)
  (case rw_NoWeights => first | k_is | rfl | decide)
  (case ri_NoWeights => first | k_is | rfl | decide)
  (case r1_NoWeights => first | k_is | rfl | decide)
  (case r2_NoWeights => first | k_is | rfl | decide)
  (case r3_NoWeights => first | k_is | rfl | decide)
  (case ra_NoWorld => first | k_is | rfl | decide)
  (case rl_NoWorld => first | k_is | rfl | decide)
  (case rn_NoWorld => first | k_is | rfl | decide)
  (case rw_NoWorld => first | k_is | rfl | decide)
  (case ri_NoWorld => first | k_is | rfl | decide)
  (case r1_NoWorld => first | k_is | rfl | decide)
  (case r2_NoWorld => first | k_is | rfl | decide)
  (case r3_NoWorld => first | k_is | rfl | decide)
  (case ra_TooMany => first | k_is | rfl | decide)
  (case rl_TooMany => first | k_is | rfl | decide)
  (case rn_TooMany => first | k_is | rfl | decide)
  (case rw_TooMany => first | k_is | rfl | decide)
  (case ri_TooMany => first | k_is | rfl | decide)
  (case r1_TooMany => first | k_is | rfl | decide)
  (case r2_TooMany => first | k_is | rfl | decide)
  (case r3_TooMany => first | k_is | rfl | decide)
  (case ko1 => first | k_is | rfl | decide)
  (case ko2 => first | k_is | rfl | decide)
  (case kv1 => first | k_is | rfl | decide)
  (case kv2 => first | k_is | rfl | decide)
  (case kpp => first | k_is | rfl | decide)
  (case kpn => first | k_is | rfl | decide)
  (case knp => first | k_is | rfl | decide)
  (case knn => first | k_is | rfl | decide)
  (case z_len => k_is); (case z_range => k_is); (case z_min => k_is); (case z_isinstance => k_is); (case z_list => k_is); (case z_reversed => k_is); (case z_tuple => k_is); (case z_int => k_is); (case z_bool => k_is); (case z_dict => k_is); (case z_zip => k_is); (case z_set => k_is); (case z_sorted => k_is); (case z_ValueError => k_is)
