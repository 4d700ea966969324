import PyProof.Rows.All
import Wide.All
import OpenK.AllK
import Wide.FinOn
import Lean
import PyProof.EqAt
import PyProof.EqKinds
import PyProof.TupleCall
import PyProof.NeKinds
import KE.KRevIter
import PyProof.AttrMissHeap
import PyProof.ZipIter
import PyProof.DictList
import KE.KItemsList
import KE.KDictOf
import PyProof.Rows.SetFrom
import PyProof.ConsumeWalk
import PyProof.RaisesMany
import PyProof.Rows.Own
import PyProof.FString
import PyProof.PureStr
import PyProof.FactsAll.str_2
import PyProof.RulesTry
import PyProof.RulesAs
import PyProof.RulesDel
import PyProof.ExcArgsOwn
import PyProof.ExcAttrAll.ValueError
import KE.KIsAll
import OpenK.KOwn
import PyProof.ExcBaseAll.ValueError
import PyProof.StationsW
import PyProof.Rows.CatchTuple
import KE.KIntText
import PyProof.Rows.StrSplitJoin
import PyProof.Rows.StrSplitAre
import PyProof.StrWalks
import PyProof.DictWalks
import PyProof.EnumMake
import PyProof.Rows.Range3
import PyProof.StrLawsTight
import PyProof.Rows.StrDigitsNeg
import PyProof.Rows.StrIntSpec
import PySem.Challenge.RW_forkplan_k09_no_such_name
set_option maxHeartbeats 4000000
set_option Elab.async false
set_option linter.all false
set_option maxRecDepth 100000
namespace L2
open PySem
noncomputable def xD (s : Stmt) : Arguments := match s with
 | .FunctionDef _ a _ _ _ _ _ _ _ _ => a
 | _ => { posonlyargs := [], args := [], vararg := none, kwonlyargs := [], kw_defaults := [], kwarg := none, defaults := [] }
noncomputable def xC (s : Stmt) : List Stmt := match s with
 | .FunctionDef _ _ b _ _ _ _ _ _ _ => b
 | _ => []
noncomputable def xB (s : Stmt) : Scope := match s with
 | .FunctionDef _ _ _ _ _ _ sc _ _ _ => sc
 | _ => { kind := .function, names := [], isGenerator := false, isCoroutine := false }
end L2
namespace FP
open PySem
noncomputable def top (i : Nat) : Stmt := PySem.Challenge.pw_forkplan_k09_no_such_name.main.body.getD i (.Pass ⟨0, 0, 0, 0⟩)
noncomputable abbrev oF (x : String) (i : Nat) (m : String) (n c : Nat) : Obj := Obj.mk (.type "function") none (Data.func (PySem.W.fnOf (Str.ofString x) (Str.ofString x) (L2.xD (top i)) (L2.xC (top i)) (L2.xB (top i)) .none .none .none (.str (Str.ofString m) n) none (.ref c) .none)) #[]
noncomputable abbrev oG (x : String) (i : Nat) : Obj := Obj.mk .none none (Data.func { PySem.W.fnOf (Str.ofString x) (Str.ofString x) (L2.xD (top i)) (L2.xC (top i)) (L2.xB (top i)) .none .none .none .none none .none .none with globals := 0 }) #[]
noncomputable abbrev oE (P : Params) (k : String) (n : Nat) (v : Value) : DictEntry := DictEntry.mk (PyData.keyHash P (Str.ofString k)) (.str (Str.ofString k) n) v
noncomputable abbrev oS (x : String) (n : Nat) : Value := .str (Str.ofString x) n
noncomputable abbrev oR (n : Nat) : Value := .ref n
noncomputable abbrev oI (n : Int) : Value := .int n 0
noncomputable abbrev oN : Obj := Obj.mk .none none (Data.fields #[]) #[]
noncomputable abbrev oT (x : Array Value) : Obj := Obj.mk (.type "tuple") none (Data.seq x 0) #[]
noncomputable abbrev oC (x : Array Value) : Obj := Obj.mk (.type "code") none (Data.fields x) #[]
open PySem.W
noncomputable def topObjs (P : Params) : List Obj := [boot_o_0 P,
  boot_o_1 P,
  boot_o_2 P,
  (Obj.mk (.type "dict") none (Data.dict #[(oE P "__name__" 165 (oS "law_forkplan_k09_no_such_name" 530)), (oE P "__doc__" 166 .none), (oE P "__package__" 167 .none), (oE P "__loader__" 168 (.builtin "__main__.__loader__#opaque")), (oE P "__spec__" 169 .none), (oE P "__annotations__" 170 (oR 6)), (oE P "__builtins__" 171 (oR 4)), (oE P "__file__" 173 (oS "/claim/cut.py" 172)), (oE P "__cached__" 174 .none), (oE P "ForkError" 206 (oR 24)), (oE P "NoWorld" 222 (oR 37)), (oE P "NoName" 238 (oR 49)), (oE P "NoPlan" 254 (oR 61)), (oE P "NotSure" 270 (oR 73)), (oE P "NotPlain" 286 (oR 85)), (oE P "NoWeights" 302 (oR 97)), (oE P "TooMany" 318 (oR 109)), (oE P "NoText" 334 (oR 121)), (oE P "NoOrder" 350 (oR 133)), (oE P "worth" 361 (oR 142)), (oE P "holds" 370 (oR 149)), (oE P "names_in" 379 (oR 156)), (oE P "values_by_name" 385 (oR 161)), (oE P "worth_by" 396 (oR 168)), (oE P "holds_by" 407 (oR 175)), (oE P "LEAST_SIZE" 411 (.int 2 410)), (oE P "GREATEST_SIZE" 413 (.int 5 412)), (oE P "LEAST_PRICE" 415 (.int 1 414)), (oE P "WORDS_OF_CONDITIONS" 419 (oR 176)), (oE P "world_of" 425 (oR 181)), (oE P "comes_of" 431 (oR 186)), (oE P "shown" 440 (oR 193)), (oE P "named" 450 (oR 200)), (oE P "standings_of_boxes" 456 (oR 205)), (oE P "behind_way" 462 (oR 210)), (oE P "copied_deed" 468 (oR 215)), (oE P "is_whole" 475 (oR 222)), (oE P "refuse_boxes" 481 (oR 227)), (oE P "refuse_twice" 489 (oR 234)), (oE P "refuse_price" 497 (oR 241)), (oE P "refuse_ways" 503 (oR 246)), (oE P "refuse_strange_name" 511 (oR 253)), (oE P "refuse_strange_names" 520 (oR 260)), (oE P "refuse_begin" 529 (oR 267)), (oE P "_law_cell_at" 539 (oR 274)), (oE P "_law_stir" 548 (oR 281)), (oE P "_law_drawn" 559 (oR 288)), (oE P "_law_deck" 566 (oR 295)), (oE P "_law_take" 575 (oR 302)), (oE P "_law_unlike" 591 (oR 309)), (oE P "_law_boxes" 604 (oR 316)), (oE P "_law_expr" 615 (oR 323)), (oE P "_law_cond" 626 (oR 330)), (oE P "_law_worth" 638 (oR 337)), (oE P "_law_holds" 647 (oR 344)), (oE P "_law_values" 653 (oR 349)), (oE P "_law_standings" 659 (oR 354)), (oE P "_law_deed" 674 (oR 361)), (oE P "_law_world" 680 (oR 366)), (oE P "_law_refused" 692 (oR 373)), (oE P "_law_name" 698 (oR 378)), (oE P "law" 704 (oR 383))] 62) #[]),
  boot_o_4 P,
  boot_o_5 P,
  boot_o_6 P,
  boot_o_7 P,
  boot_o_8 P,
  boot_o_9 P,
  boot_o_10 P,
  oT #[],
  (Obj.mk .none none (Data.fields #[(oI 2), (oI 0), (oR 20), (oI 4), (oI 0), (oR 33), (oI 6), (oI 0), (oR 45), (oI 8), (oI 0), (oR 57), (oI 10), (oI 0), (oR 69), (oI 12), (oI 0), (oR 81), (oI 14), (oI 0), (oR 93), (oI 16), (oI 0), (oR 105), (oI 18), (oI 0), (oR 117), (oI 20), (oI 0), (oR 129), (oI 23), (oI 0), (oR 141), (oI 25), (oI 0), (oR 148), (oI 27), (oI 0), (oR 155), (oI 35), (oI 0), (oR 160), (oI 37), (oI 0), (oR 167), (oI 46), (oI 0), (oR 174), (oI 62), (oI 0), (oR 180), (oI 77), (oI 0), (oR 185), (oI 80), (oI 0), (oR 192), (oI 82), (oI 0), (oR 199), (oI 87), (oI 0), (oR 204), (oI 95), (oI 0), (oR 209), (oI 102), (oI 0), (oR 214), (oI 104), (oI 0), (oR 221), (oI 106), (oI 0), (oR 226), (oI 115), (oI 0), (oR 233), (oI 118), (oI 0), (oR 240), (oI 121), (oI 0), (oR 245), (oI 129), (oI 0), (oR 252), (oI 132), (oI 0), (oR 259), (oI 135), (oI 0), (oR 266), (oI 141), (oI 0), (oR 273), (oI 145), (oI 0), (oR 280), (oI 149), (oI 0), (oR 287), (oI 159), (oI 0), (oR 294), (oI 163), (oI 0), (oR 301), (oI 167), (oI 0), (oR 308), (oI 178), (oI 0), (oR 315), (oI 191), (oI 0), (oR 322), (oI 199), (oI 0), (oR 329), (oI 210), (oI 0), (oR 336), (oI 223), (oI 0), (oR 343), (oI 232), (oI 0), (oR 348), (oI 234), (oI 0), (oR 353), (oI 242), (oI 0), (oR 360), (oI 255), (oI 0), (oR 365), (oI 276), (oI 0), (oR 372), (oI 288), (oI 0), (oR 377), (oI 299), (oI 0), (oR 382)]) #[]),
  oC #[(oS "<module>" 182), (oS "<module>" 183), (oS "/claim/cut.py" 184), (oI 1), (oI 0), (oI 0), (oI 0), (oI 0), (oR 11), (.bool Bool.false), (oI 181), (oR 12), .none, .none, .none, .none, (oI 185), (oI 1), (oS "/claim/cut.py" 186)],
  (Obj.mk (.type "frame") none Data.plain #[(some (oR 13)), (some (oR 3)), (some (oR 3)), none, (some (oS "__main__" 164)), none, (some (oR 0))]),
  oT #[(.type "ValueError")],
  (Obj.mk (.type "builtin_function_or_method") none (Data.fields #[(.builtin "type.__prepare__"), (.type "type")]) #[]),
  (Obj.mk (.type "dict") none (Data.dict #[(oE P "__module__" 196 (oS "forkplan.errors" 187)), (oE P "__qualname__" 198 (oS "ForkError" 197)), (oE P "__firstlineno__" 200 (.int 2 199)), (oE P "__static_attributes__" 201 (oR 22))] 4) #[]),
  oT #[],
  oN,
  oC #[(oS "ForkError" 191), (oS "ForkError" 192), (oS "/claim/cut.py" 193), (oI 2), (oI 0), (oI 0), (oI 0), (oI 0), (oR 18), (.bool Bool.false), (oI 181), (oR 19), .none, .none, .none, .none, (oI 194), (oI 2), (oS "/claim/cut.py" 195)],
  (Obj.mk (.type "frame") none Data.plain #[(some (oR 20)), (some (oR 3)), (some (oR 17)), none, (some (oS "forkplan.errors" 187)), none, (some (oR 0))]),
  oT #[],
  (Obj.mk (.type "dict") none (Data.dict #[(oE P "__module__" 196 (oS "forkplan.errors" 187)), (oE P "__firstlineno__" 200 (.int 2 199)), (oE P "__static_attributes__" 201 (oR 22)), (oE P "__weakref__" 203 (oR 25)), (oE P "__doc__" 204 .none)] 3) #[]),
  (Obj.mk (.type "type") none (Data.cls (ClassData.mk (Str.ofString "ForkError") [(.type "ValueError")] [(oR 24), (.type "ValueError"), (.type "Exception"), (.type "BaseException"), (.type "object")] 23 (Str.ofString "ForkError") Bool.true [] [(oR 37), (oR 49), (oR 61), (oR 73), (oR 85), (oR 97), (oR 109), (oR 121), (oR 133)] Bool.false none Bool.false)) #[(some (oR 15)), none, (some (oS "ForkError" 189)), (some (oS "ForkError" 197)), (some (.builtin "ValueError.__new__")), (some (.bool Bool.true))]),
  (Obj.mk (.type "getset_descriptor") none (Data.fields #[(oS "__weakref__" 202), (oR 24), (.builtin "ExceptionGroup.__weakref__"), .none]) #[]),
  (Obj.mk (.type "super") none (Data.fields #[(oR 24), (oR 24), (oR 24)]) #[]),
  (Obj.mk (.type "builtin_function_or_method") none (Data.fields #[(.builtin "object.__init_subclass__"), (oR 24)]) #[]),
  oT #[(oR 24)],
  (Obj.mk (.type "builtin_function_or_method") none (Data.fields #[(.builtin "type.__prepare__"), (.type "type")]) #[]),
  (Obj.mk (.type "dict") none (Data.dict #[(oE P "__module__" 214 (oS "forkplan.errors" 187)), (oE P "__qualname__" 216 (oS "NoWorld" 215)), (oE P "__firstlineno__" 218 (.int 4 217)), (oE P "__static_attributes__" 219 (oR 35))] 4) #[]),
  oT #[],
  oN,
  oC #[(oS "NoWorld" 209), (oS "NoWorld" 210), (oS "/claim/cut.py" 211), (oI 4), (oI 0), (oI 0), (oI 0), (oI 0), (oR 31), (.bool Bool.false), (oI 181), (oR 32), .none, .none, .none, .none, (oI 212), (oI 4), (oS "/claim/cut.py" 213)],
  (Obj.mk (.type "frame") none Data.plain #[(some (oR 33)), (some (oR 3)), (some (oR 30)), none, (some (oS "forkplan.errors" 187)), none, (some (oR 0))]),
  oT #[],
  (Obj.mk (.type "dict") none (Data.dict #[(oE P "__module__" 214 (oS "forkplan.errors" 187)), (oE P "__firstlineno__" 218 (.int 4 217)), (oE P "__static_attributes__" 219 (oR 35)), (oE P "__doc__" 220 .none)] 2) #[]),
  (Obj.mk (.type "type") none (Data.cls (ClassData.mk (Str.ofString "NoWorld") [(oR 24)] [(oR 37), (oR 24), (.type "ValueError"), (.type "Exception"), (.type "BaseException"), (.type "object")] 36 (Str.ofString "NoWorld") Bool.true [] [] Bool.false none Bool.false)) #[(some (oR 28)), none, (some (oS "NoWorld" 207)), (some (oS "NoWorld" 215)), (some (.builtin "ValueError.__new__")), (some (.bool Bool.true))]),
  (Obj.mk (.type "super") none (Data.fields #[(oR 37), (oR 37), (oR 37)]) #[]),
  (Obj.mk (.type "builtin_function_or_method") none (Data.fields #[(.builtin "object.__init_subclass__"), (oR 37)]) #[]),
  oT #[(oR 24)],
  (Obj.mk (.type "builtin_function_or_method") none (Data.fields #[(.builtin "type.__prepare__"), (.type "type")]) #[]),
  (Obj.mk (.type "dict") none (Data.dict #[(oE P "__module__" 230 (oS "forkplan.errors" 187)), (oE P "__qualname__" 232 (oS "NoName" 231)), (oE P "__firstlineno__" 234 (.int 6 233)), (oE P "__static_attributes__" 235 (oR 47))] 4) #[]),
  oT #[],
  oN,
  oC #[(oS "NoName" 225), (oS "NoName" 226), (oS "/claim/cut.py" 227), (oI 6), (oI 0), (oI 0), (oI 0), (oI 0), (oR 43), (.bool Bool.false), (oI 181), (oR 44), .none, .none, .none, .none, (oI 228), (oI 6), (oS "/claim/cut.py" 229)],
  (Obj.mk (.type "frame") none Data.plain #[(some (oR 45)), (some (oR 3)), (some (oR 42)), none, (some (oS "forkplan.errors" 187)), none, (some (oR 0))]),
  oT #[],
  (Obj.mk (.type "dict") none (Data.dict #[(oE P "__module__" 230 (oS "forkplan.errors" 187)), (oE P "__firstlineno__" 234 (.int 6 233)), (oE P "__static_attributes__" 235 (oR 47)), (oE P "__doc__" 236 .none)] 2) #[]),
  (Obj.mk (.type "type") none (Data.cls (ClassData.mk (Str.ofString "NoName") [(oR 24)] [(oR 49), (oR 24), (.type "ValueError"), (.type "Exception"), (.type "BaseException"), (.type "object")] 48 (Str.ofString "NoName") Bool.true [] [] Bool.false none Bool.false)) #[(some (oR 40)), none, (some (oS "NoName" 223)), (some (oS "NoName" 231)), (some (.builtin "ValueError.__new__")), (some (.bool Bool.true))]),
  (Obj.mk (.type "super") none (Data.fields #[(oR 49), (oR 49), (oR 49)]) #[]),
  (Obj.mk (.type "builtin_function_or_method") none (Data.fields #[(.builtin "object.__init_subclass__"), (oR 49)]) #[]),
  oT #[(oR 24)],
  (Obj.mk (.type "builtin_function_or_method") none (Data.fields #[(.builtin "type.__prepare__"), (.type "type")]) #[]),
  (Obj.mk (.type "dict") none (Data.dict #[(oE P "__module__" 246 (oS "forkplan.errors" 187)), (oE P "__qualname__" 248 (oS "NoPlan" 247)), (oE P "__firstlineno__" 250 (.int 8 249)), (oE P "__static_attributes__" 251 (oR 59))] 4) #[]),
  oT #[],
  oN,
  oC #[(oS "NoPlan" 241), (oS "NoPlan" 242), (oS "/claim/cut.py" 243), (oI 8), (oI 0), (oI 0), (oI 0), (oI 0), (oR 55), (.bool Bool.false), (oI 181), (oR 56), .none, .none, .none, .none, (oI 244), (oI 8), (oS "/claim/cut.py" 245)],
  (Obj.mk (.type "frame") none Data.plain #[(some (oR 57)), (some (oR 3)), (some (oR 54)), none, (some (oS "forkplan.errors" 187)), none, (some (oR 0))]),
  oT #[],
  (Obj.mk (.type "dict") none (Data.dict #[(oE P "__module__" 246 (oS "forkplan.errors" 187)), (oE P "__firstlineno__" 250 (.int 8 249)), (oE P "__static_attributes__" 251 (oR 59)), (oE P "__doc__" 252 .none)] 2) #[]),
  (Obj.mk (.type "type") none (Data.cls (ClassData.mk (Str.ofString "NoPlan") [(oR 24)] [(oR 61), (oR 24), (.type "ValueError"), (.type "Exception"), (.type "BaseException"), (.type "object")] 60 (Str.ofString "NoPlan") Bool.true [] [] Bool.false none Bool.false)) #[(some (oR 52)), none, (some (oS "NoPlan" 239)), (some (oS "NoPlan" 247)), (some (.builtin "ValueError.__new__")), (some (.bool Bool.true))]),
  (Obj.mk (.type "super") none (Data.fields #[(oR 61), (oR 61), (oR 61)]) #[]),
  (Obj.mk (.type "builtin_function_or_method") none (Data.fields #[(.builtin "object.__init_subclass__"), (oR 61)]) #[]),
  oT #[(oR 24)],
  (Obj.mk (.type "builtin_function_or_method") none (Data.fields #[(.builtin "type.__prepare__"), (.type "type")]) #[]),
  (Obj.mk (.type "dict") none (Data.dict #[(oE P "__module__" 262 (oS "forkplan.errors" 187)), (oE P "__qualname__" 264 (oS "NotSure" 263)), (oE P "__firstlineno__" 266 (.int 10 265)), (oE P "__static_attributes__" 267 (oR 71))] 4) #[]),
  oT #[],
  oN,
  oC #[(oS "NotSure" 257), (oS "NotSure" 258), (oS "/claim/cut.py" 259), (oI 10), (oI 0), (oI 0), (oI 0), (oI 0), (oR 67), (.bool Bool.false), (oI 181), (oR 68), .none, .none, .none, .none, (oI 260), (oI 10), (oS "/claim/cut.py" 261)],
  (Obj.mk (.type "frame") none Data.plain #[(some (oR 69)), (some (oR 3)), (some (oR 66)), none, (some (oS "forkplan.errors" 187)), none, (some (oR 0))]),
  oT #[],
  (Obj.mk (.type "dict") none (Data.dict #[(oE P "__module__" 262 (oS "forkplan.errors" 187)), (oE P "__firstlineno__" 266 (.int 10 265)), (oE P "__static_attributes__" 267 (oR 71)), (oE P "__doc__" 268 .none)] 2) #[]),
  (Obj.mk (.type "type") none (Data.cls (ClassData.mk (Str.ofString "NotSure") [(oR 24)] [(oR 73), (oR 24), (.type "ValueError"), (.type "Exception"), (.type "BaseException"), (.type "object")] 72 (Str.ofString "NotSure") Bool.true [] [] Bool.false none Bool.false)) #[(some (oR 64)), none, (some (oS "NotSure" 255)), (some (oS "NotSure" 263)), (some (.builtin "ValueError.__new__")), (some (.bool Bool.true))]),
  (Obj.mk (.type "super") none (Data.fields #[(oR 73), (oR 73), (oR 73)]) #[]),
  (Obj.mk (.type "builtin_function_or_method") none (Data.fields #[(.builtin "object.__init_subclass__"), (oR 73)]) #[]),
  oT #[(oR 24)],
  (Obj.mk (.type "builtin_function_or_method") none (Data.fields #[(.builtin "type.__prepare__"), (.type "type")]) #[]),
  (Obj.mk (.type "dict") none (Data.dict #[(oE P "__module__" 278 (oS "forkplan.errors" 187)), (oE P "__qualname__" 280 (oS "NotPlain" 279)), (oE P "__firstlineno__" 282 (.int 12 281)), (oE P "__static_attributes__" 283 (oR 83))] 4) #[]),
  oT #[],
  oN,
  oC #[(oS "NotPlain" 273), (oS "NotPlain" 274), (oS "/claim/cut.py" 275), (oI 12), (oI 0), (oI 0), (oI 0), (oI 0), (oR 79), (.bool Bool.false), (oI 181), (oR 80), .none, .none, .none, .none, (oI 276), (oI 12), (oS "/claim/cut.py" 277)],
  (Obj.mk (.type "frame") none Data.plain #[(some (oR 81)), (some (oR 3)), (some (oR 78)), none, (some (oS "forkplan.errors" 187)), none, (some (oR 0))]),
  oT #[],
  (Obj.mk (.type "dict") none (Data.dict #[(oE P "__module__" 278 (oS "forkplan.errors" 187)), (oE P "__firstlineno__" 282 (.int 12 281)), (oE P "__static_attributes__" 283 (oR 83)), (oE P "__doc__" 284 .none)] 2) #[]),
  (Obj.mk (.type "type") none (Data.cls (ClassData.mk (Str.ofString "NotPlain") [(oR 24)] [(oR 85), (oR 24), (.type "ValueError"), (.type "Exception"), (.type "BaseException"), (.type "object")] 84 (Str.ofString "NotPlain") Bool.true [] [] Bool.false none Bool.false)) #[(some (oR 76)), none, (some (oS "NotPlain" 271)), (some (oS "NotPlain" 279)), (some (.builtin "ValueError.__new__")), (some (.bool Bool.true))]),
  (Obj.mk (.type "super") none (Data.fields #[(oR 85), (oR 85), (oR 85)]) #[]),
  (Obj.mk (.type "builtin_function_or_method") none (Data.fields #[(.builtin "object.__init_subclass__"), (oR 85)]) #[]),
  oT #[(oR 24)],
  (Obj.mk (.type "builtin_function_or_method") none (Data.fields #[(.builtin "type.__prepare__"), (.type "type")]) #[]),
  (Obj.mk (.type "dict") none (Data.dict #[(oE P "__module__" 294 (oS "forkplan.errors" 187)), (oE P "__qualname__" 296 (oS "NoWeights" 295)), (oE P "__firstlineno__" 298 (.int 14 297)), (oE P "__static_attributes__" 299 (oR 95))] 4) #[]),
  oT #[],
  oN,
  oC #[(oS "NoWeights" 289), (oS "NoWeights" 290), (oS "/claim/cut.py" 291), (oI 14), (oI 0), (oI 0), (oI 0), (oI 0), (oR 91), (.bool Bool.false), (oI 181), (oR 92), .none, .none, .none, .none, (oI 292), (oI 14), (oS "/claim/cut.py" 293)],
  (Obj.mk (.type "frame") none Data.plain #[(some (oR 93)), (some (oR 3)), (some (oR 90)), none, (some (oS "forkplan.errors" 187)), none, (some (oR 0))]),
  oT #[],
  (Obj.mk (.type "dict") none (Data.dict #[(oE P "__module__" 294 (oS "forkplan.errors" 187)), (oE P "__firstlineno__" 298 (.int 14 297)), (oE P "__static_attributes__" 299 (oR 95)), (oE P "__doc__" 300 .none)] 2) #[]),
  (Obj.mk (.type "type") none (Data.cls (ClassData.mk (Str.ofString "NoWeights") [(oR 24)] [(oR 97), (oR 24), (.type "ValueError"), (.type "Exception"), (.type "BaseException"), (.type "object")] 96 (Str.ofString "NoWeights") Bool.true [] [] Bool.false none Bool.false)) #[(some (oR 88)), none, (some (oS "NoWeights" 287)), (some (oS "NoWeights" 295)), (some (.builtin "ValueError.__new__")), (some (.bool Bool.true))]),
  (Obj.mk (.type "super") none (Data.fields #[(oR 97), (oR 97), (oR 97)]) #[]),
  (Obj.mk (.type "builtin_function_or_method") none (Data.fields #[(.builtin "object.__init_subclass__"), (oR 97)]) #[]),
  oT #[(oR 24)],
  (Obj.mk (.type "builtin_function_or_method") none (Data.fields #[(.builtin "type.__prepare__"), (.type "type")]) #[]),
  (Obj.mk (.type "dict") none (Data.dict #[(oE P "__module__" 310 (oS "forkplan.errors" 187)), (oE P "__qualname__" 312 (oS "TooMany" 311)), (oE P "__firstlineno__" 314 (.int 16 313)), (oE P "__static_attributes__" 315 (oR 107))] 4) #[]),
  oT #[],
  oN,
  oC #[(oS "TooMany" 305), (oS "TooMany" 306), (oS "/claim/cut.py" 307), (oI 16), (oI 0), (oI 0), (oI 0), (oI 0), (oR 103), (.bool Bool.false), (oI 181), (oR 104), .none, .none, .none, .none, (oI 308), (oI 16), (oS "/claim/cut.py" 309)],
  (Obj.mk (.type "frame") none Data.plain #[(some (oR 105)), (some (oR 3)), (some (oR 102)), none, (some (oS "forkplan.errors" 187)), none, (some (oR 0))]),
  oT #[],
  (Obj.mk (.type "dict") none (Data.dict #[(oE P "__module__" 310 (oS "forkplan.errors" 187)), (oE P "__firstlineno__" 314 (.int 16 313)), (oE P "__static_attributes__" 315 (oR 107)), (oE P "__doc__" 316 .none)] 2) #[]),
  (Obj.mk (.type "type") none (Data.cls (ClassData.mk (Str.ofString "TooMany") [(oR 24)] [(oR 109), (oR 24), (.type "ValueError"), (.type "Exception"), (.type "BaseException"), (.type "object")] 108 (Str.ofString "TooMany") Bool.true [] [] Bool.false none Bool.false)) #[(some (oR 100)), none, (some (oS "TooMany" 303)), (some (oS "TooMany" 311)), (some (.builtin "ValueError.__new__")), (some (.bool Bool.true))]),
  (Obj.mk (.type "super") none (Data.fields #[(oR 109), (oR 109), (oR 109)]) #[]),
  (Obj.mk (.type "builtin_function_or_method") none (Data.fields #[(.builtin "object.__init_subclass__"), (oR 109)]) #[]),
  oT #[(oR 24)],
  (Obj.mk (.type "builtin_function_or_method") none (Data.fields #[(.builtin "type.__prepare__"), (.type "type")]) #[]),
  (Obj.mk (.type "dict") none (Data.dict #[(oE P "__module__" 326 (oS "forkplan.errors" 187)), (oE P "__qualname__" 328 (oS "NoText" 327)), (oE P "__firstlineno__" 330 (.int 18 329)), (oE P "__static_attributes__" 331 (oR 119))] 4) #[]),
  oT #[],
  oN,
  oC #[(oS "NoText" 321), (oS "NoText" 322), (oS "/claim/cut.py" 323), (oI 18), (oI 0), (oI 0), (oI 0), (oI 0), (oR 115), (.bool Bool.false), (oI 181), (oR 116), .none, .none, .none, .none, (oI 324), (oI 18), (oS "/claim/cut.py" 325)],
  (Obj.mk (.type "frame") none Data.plain #[(some (oR 117)), (some (oR 3)), (some (oR 114)), none, (some (oS "forkplan.errors" 187)), none, (some (oR 0))]),
  oT #[],
  (Obj.mk (.type "dict") none (Data.dict #[(oE P "__module__" 326 (oS "forkplan.errors" 187)), (oE P "__firstlineno__" 330 (.int 18 329)), (oE P "__static_attributes__" 331 (oR 119)), (oE P "__doc__" 332 .none)] 2) #[]),
  (Obj.mk (.type "type") none (Data.cls (ClassData.mk (Str.ofString "NoText") [(oR 24)] [(oR 121), (oR 24), (.type "ValueError"), (.type "Exception"), (.type "BaseException"), (.type "object")] 120 (Str.ofString "NoText") Bool.true [] [] Bool.false none Bool.false)) #[(some (oR 112)), none, (some (oS "NoText" 319)), (some (oS "NoText" 327)), (some (.builtin "ValueError.__new__")), (some (.bool Bool.true))]),
  (Obj.mk (.type "super") none (Data.fields #[(oR 121), (oR 121), (oR 121)]) #[]),
  (Obj.mk (.type "builtin_function_or_method") none (Data.fields #[(.builtin "object.__init_subclass__"), (oR 121)]) #[]),
  oT #[(oR 24)],
  (Obj.mk (.type "builtin_function_or_method") none (Data.fields #[(.builtin "type.__prepare__"), (.type "type")]) #[]),
  (Obj.mk (.type "dict") none (Data.dict #[(oE P "__module__" 342 (oS "forkplan.errors" 187)), (oE P "__qualname__" 344 (oS "NoOrder" 343)), (oE P "__firstlineno__" 346 (.int 20 345)), (oE P "__static_attributes__" 347 (oR 131))] 4) #[]),
  oT #[],
  oN,
  oC #[(oS "NoOrder" 337), (oS "NoOrder" 338), (oS "/claim/cut.py" 339), (oI 20), (oI 0), (oI 0), (oI 0), (oI 0), (oR 127), (.bool Bool.false), (oI 181), (oR 128), .none, .none, .none, .none, (oI 340), (oI 20), (oS "/claim/cut.py" 341)],
  (Obj.mk (.type "frame") none Data.plain #[(some (oR 129)), (some (oR 3)), (some (oR 126)), none, (some (oS "forkplan.errors" 187)), none, (some (oR 0))]),
  oT #[],
  (Obj.mk (.type "dict") none (Data.dict #[(oE P "__module__" 342 (oS "forkplan.errors" 187)), (oE P "__firstlineno__" 346 (.int 20 345)), (oE P "__static_attributes__" 347 (oR 131)), (oE P "__doc__" 348 .none)] 2) #[]),
  (Obj.mk (.type "type") none (Data.cls (ClassData.mk (Str.ofString "NoOrder") [(oR 24)] [(oR 133), (oR 24), (.type "ValueError"), (.type "Exception"), (.type "BaseException"), (.type "object")] 132 (Str.ofString "NoOrder") Bool.true [] [] Bool.false none Bool.false)) #[(some (oR 124)), none, (some (oS "NoOrder" 335)), (some (oS "NoOrder" 343)), (some (.builtin "ValueError.__new__")), (some (.bool Bool.true))]),
  (Obj.mk (.type "super") none (Data.fields #[(oR 133), (oR 133), (oR 133)]) #[]),
  (Obj.mk (.type "builtin_function_or_method") none (Data.fields #[(.builtin "object.__init_subclass__"), (oR 133)]) #[]),
  oT #[],
  oN,
  oT #[(oS "expression" 356), (oS "boxes" 357), (oS "standing" 358)],
  oT #[],
  oG "worth" 12,
  oC #[(oS "worth" 353), (oS "worth" 354), (oS "/claim/cut.py" 355), (oI 23), (oI 3), (oI 0), (oI 0), (oI 3), (oR 136), (.bool Bool.true), (oI 181), (oR 137), .none, (oR 138), (oR 139), (oR 140), (oI 359), (oI 23), (oS "/claim/cut.py" 360)],
  oF "worth" 12 "forkplan.exprs" 351 141,
  oT #[],
  oN,
  oT #[(oS "condition" 365), (oS "boxes" 366), (oS "standing" 367)],
  oT #[],
  oG "holds" 13,
  oC #[(oS "holds" 362), (oS "holds" 363), (oS "/claim/cut.py" 364), (oI 25), (oI 3), (oI 0), (oI 0), (oI 3), (oR 143), (.bool Bool.true), (oI 181), (oR 144), .none, (oR 145), (oR 146), (oR 147), (oI 368), (oI 25), (oS "/claim/cut.py" 369)],
  oF "holds" 13 "forkplan.exprs" 351 148,
  oT #[],
  oN,
  oT #[(oS "thing" 374), (oS "names" 375), (oS "part" 376)],
  oT #[],
  oG "names_in" 14,
  oC #[(oS "names_in" 371), (oS "names_in" 372), (oS "/claim/cut.py" 373), (oI 27), (oI 1), (oI 0), (oI 0), (oI 3), (oR 150), (.bool Bool.true), (oI 181), (oR 151), .none, (oR 152), (oR 153), (oR 154), (oI 377), (oI 27), (oS "/claim/cut.py" 378)],
  oF "names_in" 14 "forkplan.exprs" 351 155,
  oT #[],
  oN,
  oG "values_by_name" 15,
  oC #[(oS "values_by_name" 380), (oS "values_by_name" 381), (oS "/claim/cut.py" 382), (oI 35), (oI 2), (oI 0), (oI 0), (oI 3), (oR 157), (.bool Bool.true), (oI 181), (oR 158), .none, .none, .none, (oR 159), (oI 383), (oI 35), (oS "/claim/cut.py" 384)],
  oF "values_by_name" 15 "forkplan.exprs" 351 160,
  oT #[],
  oN,
  oT #[(oS "expression" 389), (oS "values" 390), (oS "kind" 391), (oS "one" 392), (oS "other" 393)],
  oT #[],
  oG "worth_by" 16,
  oC #[(oS "worth_by" 386), (oS "worth_by" 387), (oS "/claim/cut.py" 388), (oI 37), (oI 2), (oI 0), (oI 0), (oI 3), (oR 162), (.bool Bool.true), (oI 181), (oR 163), .none, (oR 164), (oR 165), (oR 166), (oI 394), (oI 37), (oS "/claim/cut.py" 395)],
  oF "worth_by" 16 "forkplan.exprs" 351 167,
  oT #[],
  oN,
  oT #[(oS "condition" 400), (oS "values" 401), (oS "kind" 402), (oS "one" 403), (oS "other" 404)],
  oT #[],
  oG "holds_by" 17,
  oC #[(oS "holds_by" 397), (oS "holds_by" 398), (oS "/claim/cut.py" 399), (oI 46), (oI 2), (oI 0), (oI 0), (oI 3), (oR 169), (.bool Bool.true), (oI 181), (oR 170), .none, (oR 171), (oR 172), (oR 173), (oI 405), (oI 46), (oS "/claim/cut.py" 406)],
  oF "holds_by" 17 "forkplan.exprs" 351 174,
  oT #[(oS "not" 416), (oS "and" 417), (oS "yes" 418)],
  oT #[],
  oN,
  oG "world_of" 23,
  oC #[(oS "world_of" 420), (oS "world_of" 421), (oS "/claim/cut.py" 422), (oI 62), (oI 5), (oI 0), (oI 0), (oI 3), (oR 177), (.bool Bool.true), (oI 181), (oR 178), .none, .none, .none, (oR 179), (oI 423), (oI 62), (oS "/claim/cut.py" 424)],
  oF "world_of" 23 "forkplan.worlds" 408 180,
  oT #[],
  oN,
  oG "comes_of" 24,
  oC #[(oS "comes_of" 426), (oS "comes_of" 427), (oS "/claim/cut.py" 428), (oI 77), (oI 3), (oI 0), (oI 0), (oI 3), (oR 182), (.bool Bool.true), (oI 181), (oR 183), .none, .none, .none, (oR 184), (oI 429), (oI 77), (oS "/claim/cut.py" 430)],
  oF "comes_of" 24 "forkplan.worlds" 408 185,
  oT #[],
  oN,
  oT #[(oS "world" 435), (oS "name" 436), (oS "standing" 437)],
  oT #[],
  oG "shown" 25,
  oC #[(oS "shown" 432), (oS "shown" 433), (oS "/claim/cut.py" 434), (oI 80), (oI 3), (oI 0), (oI 0), (oI 3), (oR 187), (.bool Bool.true), (oI 181), (oR 188), .none, (oR 189), (oR 190), (oR 191), (oI 438), (oI 80), (oS "/claim/cut.py" 439)],
  oF "shown" 25 "forkplan.worlds" 408 192,
  oT #[],
  oN,
  oT #[(oS "things" 444), (oS "name" 445), (oS "kind" 446), (oS "thing" 447)],
  oT #[],
  oG "named" 26,
  oC #[(oS "named" 441), (oS "named" 442), (oS "/claim/cut.py" 443), (oI 82), (oI 3), (oI 0), (oI 0), (oI 3), (oR 194), (.bool Bool.true), (oI 181), (oR 195), .none, (oR 196), (oR 197), (oR 198), (oI 448), (oI 82), (oS "/claim/cut.py" 449)],
  oF "named" 26 "forkplan.worlds" 408 199,
  oT #[],
  oN,
  oG "standings_of_boxes" 27,
  oC #[(oS "standings_of_boxes" 451), (oS "standings_of_boxes" 452), (oS "/claim/cut.py" 453), (oI 87), (oI 1), (oI 0), (oI 0), (oI 3), (oR 201), (.bool Bool.true), (oI 181), (oR 202), .none, .none, .none, (oR 203), (oI 454), (oI 87), (oS "/claim/cut.py" 455)],
  oF "standings_of_boxes" 27 "forkplan.worlds" 408 204,
  oT #[],
  oN,
  oG "behind_way" 28,
  oC #[(oS "behind_way" 457), (oS "behind_way" 458), (oS "/claim/cut.py" 459), (oI 95), (oI 3), (oI 0), (oI 0), (oI 3), (oR 206), (.bool Bool.true), (oI 181), (oR 207), .none, .none, .none, (oR 208), (oI 460), (oI 95), (oS "/claim/cut.py" 461)],
  oF "behind_way" 28 "forkplan.worlds" 408 209,
  oT #[],
  oN,
  oG "copied_deed" 29,
  oC #[(oS "copied_deed" 463), (oS "copied_deed" 464), (oS "/claim/cut.py" 465), (oI 102), (oI 1), (oI 0), (oI 0), (oI 3), (oR 211), (.bool Bool.true), (oI 181), (oR 212), .none, .none, .none, (oR 213), (oI 466), (oI 102), (oS "/claim/cut.py" 467)],
  oF "copied_deed" 29 "forkplan.worlds" 408 214,
  oT #[],
  oN,
  oT #[(oS "thing" 472)],
  oT #[],
  oG "is_whole" 30,
  oC #[(oS "is_whole" 469), (oS "is_whole" 470), (oS "/claim/cut.py" 471), (oI 104), (oI 1), (oI 0), (oI 0), (oI 3), (oR 216), (.bool Bool.true), (oI 181), (oR 217), .none, (oR 218), (oR 219), (oR 220), (oI 473), (oI 104), (oS "/claim/cut.py" 474)],
  oF "is_whole" 30 "forkplan.worlds" 408 221,
  oT #[],
  oN,
  oG "refuse_boxes" 31,
  oC #[(oS "refuse_boxes" 476), (oS "refuse_boxes" 477), (oS "/claim/cut.py" 478), (oI 106), (oI 1), (oI 0), (oI 0), (oI 3), (oR 223), (.bool Bool.true), (oI 181), (oR 224), .none, .none, .none, (oR 225), (oI 479), (oI 106), (oS "/claim/cut.py" 480)],
  oF "refuse_boxes" 31 "forkplan.worlds" 408 226,
  oT #[],
  oN,
  oT #[(oS "names" 485), (oS "kind" 486)],
  oT #[],
  oG "refuse_twice" 32,
  oC #[(oS "refuse_twice" 482), (oS "refuse_twice" 483), (oS "/claim/cut.py" 484), (oI 115), (oI 2), (oI 0), (oI 0), (oI 3), (oR 228), (.bool Bool.true), (oI 181), (oR 229), .none, (oR 230), (oR 231), (oR 232), (oI 487), (oI 115), (oS "/claim/cut.py" 488)],
  oF "refuse_twice" 32 "forkplan.worlds" 408 233,
  oT #[],
  oN,
  oT #[(oS "name" 493), (oS "price" 494)],
  oT #[],
  oG "refuse_price" 33,
  oC #[(oS "refuse_price" 490), (oS "refuse_price" 491), (oS "/claim/cut.py" 492), (oI 118), (oI 2), (oI 0), (oI 0), (oI 3), (oR 235), (.bool Bool.true), (oI 181), (oR 236), .none, (oR 237), (oR 238), (oR 239), (oI 495), (oI 118), (oS "/claim/cut.py" 496)],
  oF "refuse_price" 33 "forkplan.worlds" 408 240,
  oT #[],
  oN,
  oG "refuse_ways" 34,
  oC #[(oS "refuse_ways" 498), (oS "refuse_ways" 499), (oS "/claim/cut.py" 500), (oI 121), (oI 3), (oI 0), (oI 0), (oI 3), (oR 242), (.bool Bool.true), (oI 181), (oR 243), .none, .none, .none, (oR 244), (oI 501), (oI 121), (oS "/claim/cut.py" 502)],
  oF "refuse_ways" 34 "forkplan.worlds" 408 245,
  oT #[],
  oN,
  oT #[(oS "name" 507), (oS "names" 508)],
  oT #[],
  oG "refuse_strange_name" 35,
  oC #[(oS "refuse_strange_name" 504), (oS "refuse_strange_name" 505), (oS "/claim/cut.py" 506), (oI 129), (oI 2), (oI 0), (oI 0), (oI 3), (oR 247), (.bool Bool.true), (oI 181), (oR 248), .none, (oR 249), (oR 250), (oR 251), (oI 509), (oI 129), (oS "/claim/cut.py" 510)],
  oF "refuse_strange_name" 35 "forkplan.worlds" 408 252,
  oT #[],
  oN,
  oT #[(oS "thing" 515), (oS "names" 516), (oS "name" 517)],
  oT #[],
  oG "refuse_strange_names" 36,
  oC #[(oS "refuse_strange_names" 512), (oS "refuse_strange_names" 513), (oS "/claim/cut.py" 514), (oI 132), (oI 2), (oI 0), (oI 0), (oI 3), (oR 254), (.bool Bool.true), (oI 181), (oR 255), .none, (oR 256), (oR 257), (oR 258), (oI 518), (oI 132), (oS "/claim/cut.py" 519)],
  oF "refuse_strange_names" 36 "forkplan.worlds" 408 259,
  oT #[],
  oN,
  oT #[(oS "begin" 524), (oS "boxes" 525), (oS "standing" 526)],
  oT #[],
  oG "refuse_begin" 37,
  oC #[(oS "refuse_begin" 521), (oS "refuse_begin" 522), (oS "/claim/cut.py" 523), (oI 135), (oI 2), (oI 0), (oI 0), (oI 3), (oR 261), (.bool Bool.true), (oI 181), (oR 262), .none, (oR 263), (oR 264), (oR 265), (oI 527), (oI 135), (oS "/claim/cut.py" 528)],
  oF "refuse_begin" 37 "forkplan.worlds" 408 266,
  oT #[],
  oN,
  oT #[(oS "script" 535), (oS "k" 536)],
  oT #[],
  oG "_law_cell_at" 39,
  oC #[(oS "_law_cell_at" 532), (oS "_law_cell_at" 533), (oS "/claim/cut.py" 534), (oI 141), (oI 2), (oI 0), (oI 0), (oI 3), (oR 268), (.bool Bool.true), (oI 181), (oR 269), .none, (oR 270), (oR 271), (oR 272), (oI 537), (oI 141), (oS "/claim/cut.py" 538)],
  oF "_law_cell_at" 39 "law_forkplan_k09_no_such_name" 530 273,
  oT #[],
  oN,
  oT #[(oS "cell" 543), (oS "k" 544), (oS "number" 545)],
  oT #[],
  oG "_law_stir" 40,
  oC #[(oS "_law_stir" 540), (oS "_law_stir" 541), (oS "/claim/cut.py" 542), (oI 145), (oI 2), (oI 0), (oI 0), (oI 3), (oR 275), (.bool Bool.true), (oI 181), (oR 276), .none, (oR 277), (oR 278), (oR 279), (oI 546), (oI 145), (oS "/claim/cut.py" 547)],
  oF "_law_stir" 40 "law_forkplan_k09_no_such_name" 530 280,
  oT #[],
  oN,
  oT #[(oS "cell" 552), (oS "sizes" 553), (oS "found" 554), (oS "rest" 555), (oS "k" 556)],
  oT #[],
  oG "_law_drawn" 41,
  oC #[(oS "_law_drawn" 549), (oS "_law_drawn" 550), (oS "/claim/cut.py" 551), (oI 149), (oI 2), (oI 0), (oI 0), (oI 3), (oR 282), (.bool Bool.true), (oI 181), (oR 283), .none, (oR 284), (oR 285), (oR 286), (oI 557), (oI 149), (oS "/claim/cut.py" 558)],
  oF "_law_drawn" 41 "law_forkplan_k09_no_such_name" 530 287,
  oT #[],
  oN,
  oT #[(oS "cell" 563)],
  oT #[],
  oG "_law_deck" 42,
  oC #[(oS "_law_deck" 560), (oS "_law_deck" 561), (oS "/claim/cut.py" 562), (oI 159), (oI 1), (oI 0), (oI 0), (oI 3), (oR 289), (.bool Bool.true), (oI 181), (oR 290), .none, (oR 291), (oR 292), (oR 293), (oI 564), (oI 159), (oS "/claim/cut.py" 565)],
  oF "_law_deck" 42 "law_forkplan_k09_no_such_name" 530 294,
  oT #[],
  oN,
  oT #[(oS "deck" 570), (oS "many" 571), (oS "taken" 572)],
  oT #[],
  oG "_law_take" 43,
  oC #[(oS "_law_take" 567), (oS "_law_take" 568), (oS "/claim/cut.py" 569), (oI 163), (oI 2), (oI 0), (oI 0), (oI 3), (oR 296), (.bool Bool.true), (oI 181), (oR 297), .none, (oR 298), (oR 299), (oR 300), (oI 573), (oI 163), (oS "/claim/cut.py" 574)],
  oF "_law_take" 43 "law_forkplan_k09_no_such_name" 530 301,
  oT #[],
  oN,
  oT #[(oS "number" 579), (oS "many" 580), (oS "letters" 581), (oS "pad" 582), (oS "size" 583), (oS "at" 584), (oS "first" 585), (oS "found" 586), (oS "k" 587), (oS "sign" 588)],
  oT #[],
  oG "_law_unlike" 44,
  oC #[(oS "_law_unlike" 576), (oS "_law_unlike" 577), (oS "/claim/cut.py" 578), (oI 167), (oI 2), (oI 0), (oI 0), (oI 3), (oR 303), (.bool Bool.true), (oI 181), (oR 304), .none, (oR 305), (oR 306), (oR 307), (oI 589), (oI 167), (oS "/claim/cut.py" 590)],
  oF "_law_unlike" 44 "law_forkplan_k09_no_such_name" 530 308,
  oT #[],
  oN,
  oT #[(oS "cell" 595), (oS "drawn" 596), (oS "words" 597), (oS "boxes" 598), (oS "room" 599), (oS "k" 600), (oS "size" 601)],
  oT #[],
  oG "_law_boxes" 45,
  oC #[(oS "_law_boxes" 592), (oS "_law_boxes" 593), (oS "/claim/cut.py" 594), (oI 178), (oI 1), (oI 0), (oI 0), (oI 3), (oR 310), (.bool Bool.true), (oI 181), (oR 311), .none, (oR 312), (oR 313), (oR 314), (oI 602), (oI 178), (oS "/claim/cut.py" 603)],
  oF "_law_boxes" 45 "law_forkplan_k09_no_such_name" 530 315,
  oT #[],
  oN,
  oT #[(oS "deck" 608), (oS "words" 609), (oS "deep" 610), (oS "kind" 611), (oS "one" 612)],
  oT #[],
  oG "_law_expr" 46,
  oC #[(oS "_law_expr" 605), (oS "_law_expr" 606), (oS "/claim/cut.py" 607), (oI 191), (oI 3), (oI 0), (oI 0), (oI 3), (oR 317), (.bool Bool.true), (oI 181), (oR 318), .none, (oR 319), (oR 320), (oR 321), (oI 613), (oI 191), (oS "/claim/cut.py" 614)],
  oF "_law_expr" 46 "law_forkplan_k09_no_such_name" 530 322,
  oT #[],
  oN,
  oT #[(oS "deck" 619), (oS "words" 620), (oS "deep" 621), (oS "kind" 622), (oS "one" 623)],
  oT #[],
  oG "_law_cond" 47,
  oC #[(oS "_law_cond" 616), (oS "_law_cond" 617), (oS "/claim/cut.py" 618), (oI 199), (oI 3), (oI 0), (oI 0), (oI 3), (oR 324), (.bool Bool.true), (oI 181), (oR 325), .none, (oR 326), (oR 327), (oR 328), (oI 624), (oI 199), (oS "/claim/cut.py" 625)],
  oF "_law_cond" 47 "law_forkplan_k09_no_such_name" 530 329,
  oT #[],
  oN,
  oT #[(oS "part" 630), (oS "values" 631), (oS "total" 632), (oS "pile" 633), (oS "one" 634), (oS "sign" 635)],
  oT #[],
  oG "_law_worth" 48,
  oC #[(oS "_law_worth" 627), (oS "_law_worth" 628), (oS "/claim/cut.py" 629), (oI 210), (oI 2), (oI 0), (oI 0), (oI 3), (oR 331), (.bool Bool.true), (oI 181), (oR 332), .none, (oR 333), (oR 334), (oR 335), (oI 636), (oI 210), (oS "/claim/cut.py" 637)],
  oF "_law_worth" 48 "law_forkplan_k09_no_such_name" 530 336,
  oT #[],
  oN,
  oT #[(oS "cond" 642), (oS "values" 643), (oS "apart" 644)],
  oT #[],
  oG "_law_holds" 49,
  oC #[(oS "_law_holds" 639), (oS "_law_holds" 640), (oS "/claim/cut.py" 641), (oI 223), (oI 2), (oI 0), (oI 0), (oI 3), (oR 338), (.bool Bool.true), (oI 181), (oR 339), .none, (oR 340), (oR 341), (oR 342), (oI 645), (oI 223), (oS "/claim/cut.py" 646)],
  oF "_law_holds" 49 "law_forkplan_k09_no_such_name" 530 343,
  oT #[],
  oN,
  oG "_law_values" 50,
  oC #[(oS "_law_values" 648), (oS "_law_values" 649), (oS "/claim/cut.py" 650), (oI 232), (oI 2), (oI 0), (oI 0), (oI 3), (oR 345), (.bool Bool.true), (oI 181), (oR 346), .none, .none, .none, (oR 347), (oI 651), (oI 232), (oS "/claim/cut.py" 652)],
  oF "_law_values" 50 "law_forkplan_k09_no_such_name" 530 348,
  oT #[],
  oN,
  oG "_law_standings" 51,
  oC #[(oS "_law_standings" 654), (oS "_law_standings" 655), (oS "/claim/cut.py" 656), (oI 234), (oI 1), (oI 0), (oI 0), (oI 3), (oR 350), (.bool Bool.true), (oI 181), (oR 351), .none, .none, .none, (oR 352), (oI 657), (oI 234), (oS "/claim/cut.py" 658)],
  oF "_law_standings" 51 "law_forkplan_k09_no_such_name" 530 353,
  oT #[],
  oN,
  oT #[(oS "deck" 663), (oS "name" 664), (oS "words" 665), (oS "price" 666), (oS "need" 667), (oS "ways" 668), (oS "k" 669), (oS "way" 670), (oS "word" 671)],
  oT #[],
  oG "_law_deed" 52,
  oC #[(oS "_law_deed" 660), (oS "_law_deed" 661), (oS "/claim/cut.py" 662), (oI 242), (oI 3), (oI 0), (oI 0), (oI 3), (oR 355), (.bool Bool.true), (oI 181), (oR 356), .none, (oR 357), (oR 358), (oR 359), (oI 672), (oI 242), (oS "/claim/cut.py" 673)],
  oF "_law_deed" 52 "law_forkplan_k09_no_such_name" 530 360,
  oT #[],
  oN,
  oG "_law_world" 53,
  oC #[(oS "_law_world" 675), (oS "_law_world" 676), (oS "/claim/cut.py" 677), (oI 255), (oI 1), (oI 0), (oI 0), (oI 3), (oR 362), (.bool Bool.true), (oI 181), (oR 363), .none, .none, .none, (oR 364), (oI 678), (oI 255), (oS "/claim/cut.py" 679)],
  oF "_law_world" 53 "law_forkplan_k09_no_such_name" 530 365,
  oT #[],
  oN,
  oT #[(oS "world" 684), (oS "name" 685), (oS "standing" 686), (oS "look" 687), (oS "found" 688), (oS "e" 689)],
  oT #[],
  oG "_law_refused" 54,
  oC #[(oS "_law_refused" 681), (oS "_law_refused" 682), (oS "/claim/cut.py" 683), (oI 276), (oI 4), (oI 0), (oI 0), (oI 3), (oR 367), (.bool Bool.true), (oI 181), (oR 368), .none, (oR 369), (oR 370), (oR 371), (oI 690), (oI 276), (oS "/claim/cut.py" 691)],
  oF "_law_refused" 54 "law_forkplan_k09_no_such_name" 530 372,
  oT #[],
  oN,
  oG "_law_name" 55,
  oC #[(oS "_law_name" 693), (oS "_law_name" 694), (oS "/claim/cut.py" 695), (oI 288), (oI 2), (oI 0), (oI 0), (oI 3), (oR 374), (.bool Bool.true), (oI 181), (oR 375), .none, .none, .none, (oR 376), (oI 696), (oI 288), (oS "/claim/cut.py" 697)],
  oF "_law_name" 55 "law_forkplan_k09_no_such_name" 530 377,
  oT #[],
  oN,
  oG "law" 56,
  oC #[(oS "law" 699), (oS "law" 700), (oS "/claim/cut.py" 701), (oI 299), (oI 1), (oI 0), (oI 0), (oI 3), (oR 379), (.bool Bool.true), (oI 181), (oR 380), .none, .none, .none, (oR 381), (oI 702), (oI 299), (oS "/claim/cut.py" 703)],
  oF "law" 56 "law_forkplan_k09_no_such_name" 530 382]
noncomputable def topOpen (P : Params) : List Obj := [boot_o_0 P, boot_o_1 P, boot_o_2 P, boot_o_3 P, boot_o_4 P, boot_o_5 P, boot_o_6 P, boot_o_7 P, boot_o_8 P, boot_o_9 P, boot_o_10 P, oT #[], oN, oC #[(oS "<module>" 182), (oS "<module>" 183), (oS "/claim/cut.py" 184), (oI 1), (oI 0), (oI 0), (oI 0), (oI 0), (oR 11), (.bool Bool.false), (oI 181), (oR 12), .none, .none, .none, .none, (oI 185), (oI 1), (oS "/claim/cut.py" 186)], (Obj.mk (.type "frame") none Data.plain #[(some (oR 13)), (some (oR 3)), (some (oR 3)), none, (some (oS "__main__" 164)), none, (some (oR 0))])]
noncomputable def topTree (os : List Obj) : Nat → Nat → Nat → BT
 | 0, _, _ => .nil
 | f + 1, a, b => match os[b]? with
  | some o => .node o (topTree os f (2 * a) (a + b)) (topTree os f (2 * a) (2 * a + b))
  | none => .nil
noncomputable def topLife : Life := (Life.mk [] [] [] 0 [] [] Bool.false #[] [] 0 Bool.false Bool.false Bool.false 0 [2000, 10, 10] Bool.false 0 Bool.true [] [] 0 Bool.false)
noncomputable def topEnv : Env := { scope := PySem.Challenge.pw_forkplan_k09_no_such_name.main.scope, locals := mainNs, globals := mainNs, cells := [], code := (Value.ref 13), frame := some 14 }
noncomputable def topBody : List Stmt := behindTheImports PySem.Challenge.pw_forkplan_k09_no_such_name
noncomputable def topCode : Code := .body topBody topEnv
noncomputable def topA (w : World) (os : OsState) : Shared := ⟨⟨⟨topOpen w.params⟩, topLife⟩, ⟨[]⟩, (Drawn.mk 0 0 0 0), 187, os⟩
noncomputable def topB (w : World) (os : OsState) : SharedT := ⟨topTree (topOpen w.params) 12 1 0, 15, topLife, ⟨[]⟩, (Drawn.mk 0 0 0 0), 187, os⟩
noncomputable def topZ (w : World) (os : OsState) : SharedT := ⟨topTree (topObjs w.params) 12 1 0, 384, topLife, ⟨[]⟩, (Drawn.mk 0 0 0 0), 705, os⟩
theorem topPre (w : World) (os : OsState) : topGo treeTable PySem.Challenge.pw_forkplan_k09_no_such_name w 11 (some (Value.ref 6)) 12 ⟨boot_heap w.params, ⟨[]⟩, boot_drawn, boot_toks, os⟩ (topStub PySem.Challenge.pw_forkplan_k09_no_such_name) = some (topA w os, ⟨denote treeTable topCode, topCode, (Pos.mk 0 0 0 0), [topFrame (Pos.mk 0 0 0 0)]⟩) := by kernel_rfl
theorem topBlock (w : World) (os : OsState) : segRun treeTable PySem.Challenge.pw_forkplan_k09_no_such_name w 11 (some (Value.ref 6)) 1 1 (topA w os) (blockOf topBody topEnv topCode (Pos.mk 0 0 0 0) [topFrame (Pos.mk 0 0 0 0)]) = some (.next, (topB w os).abs, topCode, (Pos.mk 0 0 0 0)) := by kernel_rfl
theorem topSeg (w : World) (os : OsState) : segRunT treeTable PySem.Challenge.pw_forkplan_k09_no_such_name w 11 (some (Value.ref 6)) 1 3350 (topB w os) (piecesOf topBody topEnv topCode (Pos.mk 0 0 0 0) [topFrame (Pos.mk 0 0 0 0)]) = some (.next, topZ w os, topCode, (Pos.mk 299 0 310 54)) := by kernel_rfl
theorem topFin (w : World) (os : OsState) : topRun treeTable PySem.Challenge.pw_forkplan_k09_no_such_name w 11 (some (Value.ref 6)) 2 (topZ w os).abs ⟨doneF .next, topCode, (Pos.mk 299 0 310 54), [topFrame (Pos.mk 0 0 0 0)]⟩ = some (topZ w os).abs := by kernel_rfl
noncomputable def topLeft (P : Params) : PySem.W.Frag :=
 (nat_lit 2, (Obj.mk .none none (Data.dict #[] 0) #[])) ::
 (nat_lit 3, (Obj.mk (.type "dict") none (Data.dict #[(oE P "__name__" 165 (.str (Str.ofString "law_forkplan_k09_no_such_name") 530)), (oE P "__doc__" 166 .none), (oE P "__package__" 167 .none), (oE P "__loader__" 168 (.builtin "__main__.__loader__#opaque")), (oE P "__spec__" 169 .none), (oE P "__annotations__" 170 (.ref 6)), (oE P "__builtins__" 171 (.ref 4)), (oE P "__file__" 173 (.str (Str.ofString "/claim/cut.py") 172)), (oE P "__cached__" 174 .none), (oE P "ForkError" 206 (.ref 24)), (oE P "NoWorld" 222 (.ref 37)), (oE P "NoName" 238 (.ref 49)), (oE P "NoPlan" 254 (.ref 61)), (oE P "NotSure" 270 (.ref 73)), (oE P "NotPlain" 286 (.ref 85)), (oE P "NoWeights" 302 (.ref 97)), (oE P "TooMany" 318 (.ref 109)), (oE P "NoText" 334 (.ref 121)), (oE P "NoOrder" 350 (.ref 133)), (oE P "worth" 361 (.ref 142)), (oE P "holds" 370 (.ref 149)), (oE P "names_in" 379 (.ref 156)), (oE P "values_by_name" 385 (.ref 161)), (oE P "worth_by" 396 (.ref 168)), (oE P "holds_by" 407 (.ref 175)), (oE P "LEAST_SIZE" 411 (.int 2 410)), (oE P "GREATEST_SIZE" 413 (.int 5 412)), (oE P "LEAST_PRICE" 415 (.int 1 414)), (oE P "WORDS_OF_CONDITIONS" 419 (.ref 176)), (oE P "world_of" 425 (.ref 181)), (oE P "comes_of" 431 (.ref 186)), (oE P "shown" 440 (.ref 193)), (oE P "named" 450 (.ref 200)), (oE P "standings_of_boxes" 456 (.ref 205)), (oE P "behind_way" 462 (.ref 210)), (oE P "copied_deed" 468 (.ref 215)), (oE P "is_whole" 475 (.ref 222)), (oE P "refuse_boxes" 481 (.ref 227)), (oE P "refuse_twice" 489 (.ref 234)), (oE P "refuse_price" 497 (.ref 241)), (oE P "refuse_ways" 503 (.ref 246)), (oE P "refuse_strange_name" 511 (.ref 253)), (oE P "refuse_strange_names" 520 (.ref 260)), (oE P "refuse_begin" 529 (.ref 267)), (oE P "_law_cell_at" 539 (.ref 274)), (oE P "_law_stir" 548 (.ref 281)), (oE P "_law_drawn" 559 (.ref 288)), (oE P "_law_deck" 566 (.ref 295)), (oE P "_law_take" 575 (.ref 302)), (oE P "_law_unlike" 591 (.ref 309)), (oE P "_law_boxes" 604 (.ref 316)), (oE P "_law_expr" 615 (.ref 323)), (oE P "_law_cond" 626 (.ref 330)), (oE P "_law_worth" 638 (.ref 337)), (oE P "_law_holds" 647 (.ref 344)), (oE P "_law_values" 653 (.ref 349)), (oE P "_law_standings" 659 (.ref 354)), (oE P "_law_deed" 674 (.ref 361)), (oE P "_law_world" 680 (.ref 366)), (oE P "_law_refused" 692 (.ref 373)), (oE P "_law_name" 698 (.ref 378)), (oE P "law" 704 (.ref 383))] 62) #[])) ::
 (nat_lit 15, (Obj.mk (.type "tuple") none (Data.seq #[(.type "ValueError")] 0) #[])) ::
 (nat_lit 22, (Obj.mk (.type "tuple") none (Data.seq #[] 0) #[])) ::
 (nat_lit 23, (Obj.mk (.type "dict") none (Data.dict #[(oE P "__module__" 196 (.str (Str.ofString "forkplan.errors") 187)), (oE P "__firstlineno__" 200 (.int 2 199)), (oE P "__static_attributes__" 201 (.ref 22)), (oE P "__weakref__" 203 (.ref 25)), (oE P "__doc__" 204 .none)] 3) #[])) ::
 (nat_lit 24, (Obj.mk (.type "type") none (Data.cls (ClassData.mk (Str.ofString "ForkError") [(.type "ValueError")] [(.ref 24), (.type "ValueError"), (.type "Exception"), (.type "BaseException"), (.type "object")] 23 (Str.ofString "ForkError") Bool.true [] [(.ref 37), (.ref 49), (.ref 61), (.ref 73), (.ref 85), (.ref 97), (.ref 109), (.ref 121), (.ref 133)] Bool.false none Bool.false)) #[(some (.ref 15)), none, (some (.str (Str.ofString "ForkError") 189)), (some (.str (Str.ofString "ForkError") 197)), (some (.builtin "ValueError.__new__")), (some (.bool Bool.true))])) ::
 (nat_lit 25, (Obj.mk (.type "getset_descriptor") none (Data.fields #[(.str (Str.ofString "__weakref__") 202), (.ref 24), (.builtin "ExceptionGroup.__weakref__"), .none]) #[])) ::
 (nat_lit 28, (Obj.mk (.type "tuple") none (Data.seq #[(.ref 24)] 0) #[])) ::
 (nat_lit 35, (Obj.mk (.type "tuple") none (Data.seq #[] 0) #[])) ::
 (nat_lit 36, (Obj.mk (.type "dict") none (Data.dict #[(oE P "__module__" 214 (.str (Str.ofString "forkplan.errors") 187)), (oE P "__firstlineno__" 218 (.int 4 217)), (oE P "__static_attributes__" 219 (.ref 35)), (oE P "__doc__" 220 .none)] 2) #[])) ::
 (nat_lit 37, (Obj.mk (.type "type") none (Data.cls (ClassData.mk (Str.ofString "NoWorld") [(.ref 24)] [(.ref 37), (.ref 24), (.type "ValueError"), (.type "Exception"), (.type "BaseException"), (.type "object")] 36 (Str.ofString "NoWorld") Bool.true [] [] Bool.false none Bool.false)) #[(some (.ref 28)), none, (some (.str (Str.ofString "NoWorld") 207)), (some (.str (Str.ofString "NoWorld") 215)), (some (.builtin "ValueError.__new__")), (some (.bool Bool.true))])) ::
 (nat_lit 40, (Obj.mk (.type "tuple") none (Data.seq #[(.ref 24)] 0) #[])) ::
 (nat_lit 47, (Obj.mk (.type "tuple") none (Data.seq #[] 0) #[])) ::
 (nat_lit 48, (Obj.mk (.type "dict") none (Data.dict #[(oE P "__module__" 230 (.str (Str.ofString "forkplan.errors") 187)), (oE P "__firstlineno__" 234 (.int 6 233)), (oE P "__static_attributes__" 235 (.ref 47)), (oE P "__doc__" 236 .none)] 2) #[])) ::
 (nat_lit 49, (Obj.mk (.type "type") none (Data.cls (ClassData.mk (Str.ofString "NoName") [(.ref 24)] [(.ref 49), (.ref 24), (.type "ValueError"), (.type "Exception"), (.type "BaseException"), (.type "object")] 48 (Str.ofString "NoName") Bool.true [] [] Bool.false none Bool.false)) #[(some (.ref 40)), none, (some (.str (Str.ofString "NoName") 223)), (some (.str (Str.ofString "NoName") 231)), (some (.builtin "ValueError.__new__")), (some (.bool Bool.true))])) ::
 (nat_lit 52, (Obj.mk (.type "tuple") none (Data.seq #[(.ref 24)] 0) #[])) ::
 (nat_lit 59, (Obj.mk (.type "tuple") none (Data.seq #[] 0) #[])) ::
 (nat_lit 60, (Obj.mk (.type "dict") none (Data.dict #[(oE P "__module__" 246 (.str (Str.ofString "forkplan.errors") 187)), (oE P "__firstlineno__" 250 (.int 8 249)), (oE P "__static_attributes__" 251 (.ref 59)), (oE P "__doc__" 252 .none)] 2) #[])) ::
 (nat_lit 61, (Obj.mk (.type "type") none (Data.cls (ClassData.mk (Str.ofString "NoPlan") [(.ref 24)] [(.ref 61), (.ref 24), (.type "ValueError"), (.type "Exception"), (.type "BaseException"), (.type "object")] 60 (Str.ofString "NoPlan") Bool.true [] [] Bool.false none Bool.false)) #[(some (.ref 52)), none, (some (.str (Str.ofString "NoPlan") 239)), (some (.str (Str.ofString "NoPlan") 247)), (some (.builtin "ValueError.__new__")), (some (.bool Bool.true))])) ::
 (nat_lit 64, (Obj.mk (.type "tuple") none (Data.seq #[(.ref 24)] 0) #[])) ::
 (nat_lit 71, (Obj.mk (.type "tuple") none (Data.seq #[] 0) #[])) ::
 (nat_lit 72, (Obj.mk (.type "dict") none (Data.dict #[(oE P "__module__" 262 (.str (Str.ofString "forkplan.errors") 187)), (oE P "__firstlineno__" 266 (.int 10 265)), (oE P "__static_attributes__" 267 (.ref 71)), (oE P "__doc__" 268 .none)] 2) #[])) ::
 (nat_lit 73, (Obj.mk (.type "type") none (Data.cls (ClassData.mk (Str.ofString "NotSure") [(.ref 24)] [(.ref 73), (.ref 24), (.type "ValueError"), (.type "Exception"), (.type "BaseException"), (.type "object")] 72 (Str.ofString "NotSure") Bool.true [] [] Bool.false none Bool.false)) #[(some (.ref 64)), none, (some (.str (Str.ofString "NotSure") 255)), (some (.str (Str.ofString "NotSure") 263)), (some (.builtin "ValueError.__new__")), (some (.bool Bool.true))])) ::
 (nat_lit 76, (Obj.mk (.type "tuple") none (Data.seq #[(.ref 24)] 0) #[])) ::
 (nat_lit 83, (Obj.mk (.type "tuple") none (Data.seq #[] 0) #[])) ::
 (nat_lit 84, (Obj.mk (.type "dict") none (Data.dict #[(oE P "__module__" 278 (.str (Str.ofString "forkplan.errors") 187)), (oE P "__firstlineno__" 282 (.int 12 281)), (oE P "__static_attributes__" 283 (.ref 83)), (oE P "__doc__" 284 .none)] 2) #[])) ::
 (nat_lit 85, (Obj.mk (.type "type") none (Data.cls (ClassData.mk (Str.ofString "NotPlain") [(.ref 24)] [(.ref 85), (.ref 24), (.type "ValueError"), (.type "Exception"), (.type "BaseException"), (.type "object")] 84 (Str.ofString "NotPlain") Bool.true [] [] Bool.false none Bool.false)) #[(some (.ref 76)), none, (some (.str (Str.ofString "NotPlain") 271)), (some (.str (Str.ofString "NotPlain") 279)), (some (.builtin "ValueError.__new__")), (some (.bool Bool.true))])) ::
 (nat_lit 88, (Obj.mk (.type "tuple") none (Data.seq #[(.ref 24)] 0) #[])) ::
 (nat_lit 95, (Obj.mk (.type "tuple") none (Data.seq #[] 0) #[])) ::
 (nat_lit 96, (Obj.mk (.type "dict") none (Data.dict #[(oE P "__module__" 294 (.str (Str.ofString "forkplan.errors") 187)), (oE P "__firstlineno__" 298 (.int 14 297)), (oE P "__static_attributes__" 299 (.ref 95)), (oE P "__doc__" 300 .none)] 2) #[])) ::
 (nat_lit 97, (Obj.mk (.type "type") none (Data.cls (ClassData.mk (Str.ofString "NoWeights") [(.ref 24)] [(.ref 97), (.ref 24), (.type "ValueError"), (.type "Exception"), (.type "BaseException"), (.type "object")] 96 (Str.ofString "NoWeights") Bool.true [] [] Bool.false none Bool.false)) #[(some (.ref 88)), none, (some (.str (Str.ofString "NoWeights") 287)), (some (.str (Str.ofString "NoWeights") 295)), (some (.builtin "ValueError.__new__")), (some (.bool Bool.true))])) ::
 (nat_lit 100, (Obj.mk (.type "tuple") none (Data.seq #[(.ref 24)] 0) #[])) ::
 (nat_lit 107, (Obj.mk (.type "tuple") none (Data.seq #[] 0) #[])) ::
 (nat_lit 108, (Obj.mk (.type "dict") none (Data.dict #[(oE P "__module__" 310 (.str (Str.ofString "forkplan.errors") 187)), (oE P "__firstlineno__" 314 (.int 16 313)), (oE P "__static_attributes__" 315 (.ref 107)), (oE P "__doc__" 316 .none)] 2) #[])) ::
 (nat_lit 109, (Obj.mk (.type "type") none (Data.cls (ClassData.mk (Str.ofString "TooMany") [(.ref 24)] [(.ref 109), (.ref 24), (.type "ValueError"), (.type "Exception"), (.type "BaseException"), (.type "object")] 108 (Str.ofString "TooMany") Bool.true [] [] Bool.false none Bool.false)) #[(some (.ref 100)), none, (some (.str (Str.ofString "TooMany") 303)), (some (.str (Str.ofString "TooMany") 311)), (some (.builtin "ValueError.__new__")), (some (.bool Bool.true))])) ::
 (nat_lit 112, (Obj.mk (.type "tuple") none (Data.seq #[(.ref 24)] 0) #[])) ::
 (nat_lit 119, (Obj.mk (.type "tuple") none (Data.seq #[] 0) #[])) ::
 (nat_lit 120, (Obj.mk (.type "dict") none (Data.dict #[(oE P "__module__" 326 (.str (Str.ofString "forkplan.errors") 187)), (oE P "__firstlineno__" 330 (.int 18 329)), (oE P "__static_attributes__" 331 (.ref 119)), (oE P "__doc__" 332 .none)] 2) #[])) ::
 (nat_lit 121, (Obj.mk (.type "type") none (Data.cls (ClassData.mk (Str.ofString "NoText") [(.ref 24)] [(.ref 121), (.ref 24), (.type "ValueError"), (.type "Exception"), (.type "BaseException"), (.type "object")] 120 (Str.ofString "NoText") Bool.true [] [] Bool.false none Bool.false)) #[(some (.ref 112)), none, (some (.str (Str.ofString "NoText") 319)), (some (.str (Str.ofString "NoText") 327)), (some (.builtin "ValueError.__new__")), (some (.bool Bool.true))])) ::
 (nat_lit 124, (Obj.mk (.type "tuple") none (Data.seq #[(.ref 24)] 0) #[])) ::
 (nat_lit 131, (Obj.mk (.type "tuple") none (Data.seq #[] 0) #[])) ::
 (nat_lit 132, (Obj.mk (.type "dict") none (Data.dict #[(oE P "__module__" 342 (.str (Str.ofString "forkplan.errors") 187)), (oE P "__firstlineno__" 346 (.int 20 345)), (oE P "__static_attributes__" 347 (.ref 131)), (oE P "__doc__" 348 .none)] 2) #[])) ::
 (nat_lit 133, (Obj.mk (.type "type") none (Data.cls (ClassData.mk (Str.ofString "NoOrder") [(.ref 24)] [(.ref 133), (.ref 24), (.type "ValueError"), (.type "Exception"), (.type "BaseException"), (.type "object")] 132 (Str.ofString "NoOrder") Bool.true [] [] Bool.false none Bool.false)) #[(some (.ref 124)), none, (some (.str (Str.ofString "NoOrder") 335)), (some (.str (Str.ofString "NoOrder") 343)), (some (.builtin "ValueError.__new__")), (some (.bool Bool.true))])) ::
 (nat_lit 141, oC #[(oS "worth" 353), (oS "worth" 354), (oS "/claim/cut.py" 355), (oI 23), (oI 3), (oI 0), (oI 0), (oI 3), (oR 136), (.bool Bool.true), (oI 181), (oR 137), .none, (oR 138), (oR 139), (oR 140), (oI 359), (oI 23), (oS "/claim/cut.py" 360)]) ::
 (nat_lit 142, oF "worth" 12 "forkplan.exprs" 351 141) ::
 (nat_lit 148, oC #[(oS "holds" 362), (oS "holds" 363), (oS "/claim/cut.py" 364), (oI 25), (oI 3), (oI 0), (oI 0), (oI 3), (oR 143), (.bool Bool.true), (oI 181), (oR 144), .none, (oR 145), (oR 146), (oR 147), (oI 368), (oI 25), (oS "/claim/cut.py" 369)]) ::
 (nat_lit 149, oF "holds" 13 "forkplan.exprs" 351 148) ::
 (nat_lit 155, oC #[(oS "names_in" 371), (oS "names_in" 372), (oS "/claim/cut.py" 373), (oI 27), (oI 1), (oI 0), (oI 0), (oI 3), (oR 150), (.bool Bool.true), (oI 181), (oR 151), .none, (oR 152), (oR 153), (oR 154), (oI 377), (oI 27), (oS "/claim/cut.py" 378)]) ::
 (nat_lit 156, oF "names_in" 14 "forkplan.exprs" 351 155) ::
 (nat_lit 160, oC #[(oS "values_by_name" 380), (oS "values_by_name" 381), (oS "/claim/cut.py" 382), (oI 35), (oI 2), (oI 0), (oI 0), (oI 3), (oR 157), (.bool Bool.true), (oI 181), (oR 158), .none, .none, .none, (oR 159), (oI 383), (oI 35), (oS "/claim/cut.py" 384)]) ::
 (nat_lit 161, oF "values_by_name" 15 "forkplan.exprs" 351 160) ::
 (nat_lit 167, oC #[(oS "worth_by" 386), (oS "worth_by" 387), (oS "/claim/cut.py" 388), (oI 37), (oI 2), (oI 0), (oI 0), (oI 3), (oR 162), (.bool Bool.true), (oI 181), (oR 163), .none, (oR 164), (oR 165), (oR 166), (oI 394), (oI 37), (oS "/claim/cut.py" 395)]) ::
 (nat_lit 168, oF "worth_by" 16 "forkplan.exprs" 351 167) ::
 (nat_lit 174, oC #[(oS "holds_by" 397), (oS "holds_by" 398), (oS "/claim/cut.py" 399), (oI 46), (oI 2), (oI 0), (oI 0), (oI 3), (oR 169), (.bool Bool.true), (oI 181), (oR 170), .none, (oR 171), (oR 172), (oR 173), (oI 405), (oI 46), (oS "/claim/cut.py" 406)]) ::
 (nat_lit 175, oF "holds_by" 17 "forkplan.exprs" 351 174) ::
 (nat_lit 176, (Obj.mk (.type "tuple") none (Data.seq #[(.str (Str.ofString "not") 416), (.str (Str.ofString "and") 417), (.str (Str.ofString "yes") 418)] 0) #[])) ::
 (nat_lit 180, oC #[(oS "world_of" 420), (oS "world_of" 421), (oS "/claim/cut.py" 422), (oI 62), (oI 5), (oI 0), (oI 0), (oI 3), (oR 177), (.bool Bool.true), (oI 181), (oR 178), .none, .none, .none, (oR 179), (oI 423), (oI 62), (oS "/claim/cut.py" 424)]) ::
 (nat_lit 181, oF "world_of" 23 "forkplan.worlds" 408 180) ::
 (nat_lit 185, oC #[(oS "comes_of" 426), (oS "comes_of" 427), (oS "/claim/cut.py" 428), (oI 77), (oI 3), (oI 0), (oI 0), (oI 3), (oR 182), (.bool Bool.true), (oI 181), (oR 183), .none, .none, .none, (oR 184), (oI 429), (oI 77), (oS "/claim/cut.py" 430)]) ::
 (nat_lit 186, oF "comes_of" 24 "forkplan.worlds" 408 185) ::
 (nat_lit 192, oC #[(oS "shown" 432), (oS "shown" 433), (oS "/claim/cut.py" 434), (oI 80), (oI 3), (oI 0), (oI 0), (oI 3), (oR 187), (.bool Bool.true), (oI 181), (oR 188), .none, (oR 189), (oR 190), (oR 191), (oI 438), (oI 80), (oS "/claim/cut.py" 439)]) ::
 (nat_lit 193, oF "shown" 25 "forkplan.worlds" 408 192) ::
 (nat_lit 199, oC #[(oS "named" 441), (oS "named" 442), (oS "/claim/cut.py" 443), (oI 82), (oI 3), (oI 0), (oI 0), (oI 3), (oR 194), (.bool Bool.true), (oI 181), (oR 195), .none, (oR 196), (oR 197), (oR 198), (oI 448), (oI 82), (oS "/claim/cut.py" 449)]) ::
 (nat_lit 200, oF "named" 26 "forkplan.worlds" 408 199) ::
 (nat_lit 204, oC #[(oS "standings_of_boxes" 451), (oS "standings_of_boxes" 452), (oS "/claim/cut.py" 453), (oI 87), (oI 1), (oI 0), (oI 0), (oI 3), (oR 201), (.bool Bool.true), (oI 181), (oR 202), .none, .none, .none, (oR 203), (oI 454), (oI 87), (oS "/claim/cut.py" 455)]) ::
 (nat_lit 205, oF "standings_of_boxes" 27 "forkplan.worlds" 408 204) ::
 (nat_lit 209, oC #[(oS "behind_way" 457), (oS "behind_way" 458), (oS "/claim/cut.py" 459), (oI 95), (oI 3), (oI 0), (oI 0), (oI 3), (oR 206), (.bool Bool.true), (oI 181), (oR 207), .none, .none, .none, (oR 208), (oI 460), (oI 95), (oS "/claim/cut.py" 461)]) ::
 (nat_lit 210, oF "behind_way" 28 "forkplan.worlds" 408 209) ::
 (nat_lit 214, oC #[(oS "copied_deed" 463), (oS "copied_deed" 464), (oS "/claim/cut.py" 465), (oI 102), (oI 1), (oI 0), (oI 0), (oI 3), (oR 211), (.bool Bool.true), (oI 181), (oR 212), .none, .none, .none, (oR 213), (oI 466), (oI 102), (oS "/claim/cut.py" 467)]) ::
 (nat_lit 215, oF "copied_deed" 29 "forkplan.worlds" 408 214) ::
 (nat_lit 221, oC #[(oS "is_whole" 469), (oS "is_whole" 470), (oS "/claim/cut.py" 471), (oI 104), (oI 1), (oI 0), (oI 0), (oI 3), (oR 216), (.bool Bool.true), (oI 181), (oR 217), .none, (oR 218), (oR 219), (oR 220), (oI 473), (oI 104), (oS "/claim/cut.py" 474)]) ::
 (nat_lit 222, oF "is_whole" 30 "forkplan.worlds" 408 221) ::
 (nat_lit 226, oC #[(oS "refuse_boxes" 476), (oS "refuse_boxes" 477), (oS "/claim/cut.py" 478), (oI 106), (oI 1), (oI 0), (oI 0), (oI 3), (oR 223), (.bool Bool.true), (oI 181), (oR 224), .none, .none, .none, (oR 225), (oI 479), (oI 106), (oS "/claim/cut.py" 480)]) ::
 (nat_lit 227, oF "refuse_boxes" 31 "forkplan.worlds" 408 226) ::
 (nat_lit 233, oC #[(oS "refuse_twice" 482), (oS "refuse_twice" 483), (oS "/claim/cut.py" 484), (oI 115), (oI 2), (oI 0), (oI 0), (oI 3), (oR 228), (.bool Bool.true), (oI 181), (oR 229), .none, (oR 230), (oR 231), (oR 232), (oI 487), (oI 115), (oS "/claim/cut.py" 488)]) ::
 (nat_lit 234, oF "refuse_twice" 32 "forkplan.worlds" 408 233) ::
 (nat_lit 240, oC #[(oS "refuse_price" 490), (oS "refuse_price" 491), (oS "/claim/cut.py" 492), (oI 118), (oI 2), (oI 0), (oI 0), (oI 3), (oR 235), (.bool Bool.true), (oI 181), (oR 236), .none, (oR 237), (oR 238), (oR 239), (oI 495), (oI 118), (oS "/claim/cut.py" 496)]) ::
 (nat_lit 241, oF "refuse_price" 33 "forkplan.worlds" 408 240) ::
 (nat_lit 245, oC #[(oS "refuse_ways" 498), (oS "refuse_ways" 499), (oS "/claim/cut.py" 500), (oI 121), (oI 3), (oI 0), (oI 0), (oI 3), (oR 242), (.bool Bool.true), (oI 181), (oR 243), .none, .none, .none, (oR 244), (oI 501), (oI 121), (oS "/claim/cut.py" 502)]) ::
 (nat_lit 246, oF "refuse_ways" 34 "forkplan.worlds" 408 245) ::
 (nat_lit 252, oC #[(oS "refuse_strange_name" 504), (oS "refuse_strange_name" 505), (oS "/claim/cut.py" 506), (oI 129), (oI 2), (oI 0), (oI 0), (oI 3), (oR 247), (.bool Bool.true), (oI 181), (oR 248), .none, (oR 249), (oR 250), (oR 251), (oI 509), (oI 129), (oS "/claim/cut.py" 510)]) ::
 (nat_lit 253, oF "refuse_strange_name" 35 "forkplan.worlds" 408 252) ::
 (nat_lit 259, oC #[(oS "refuse_strange_names" 512), (oS "refuse_strange_names" 513), (oS "/claim/cut.py" 514), (oI 132), (oI 2), (oI 0), (oI 0), (oI 3), (oR 254), (.bool Bool.true), (oI 181), (oR 255), .none, (oR 256), (oR 257), (oR 258), (oI 518), (oI 132), (oS "/claim/cut.py" 519)]) ::
 (nat_lit 260, oF "refuse_strange_names" 36 "forkplan.worlds" 408 259) ::
 (nat_lit 266, oC #[(oS "refuse_begin" 521), (oS "refuse_begin" 522), (oS "/claim/cut.py" 523), (oI 135), (oI 2), (oI 0), (oI 0), (oI 3), (oR 261), (.bool Bool.true), (oI 181), (oR 262), .none, (oR 263), (oR 264), (oR 265), (oI 527), (oI 135), (oS "/claim/cut.py" 528)]) ::
 (nat_lit 267, oF "refuse_begin" 37 "forkplan.worlds" 408 266) ::
 (nat_lit 273, oC #[(oS "_law_cell_at" 532), (oS "_law_cell_at" 533), (oS "/claim/cut.py" 534), (oI 141), (oI 2), (oI 0), (oI 0), (oI 3), (oR 268), (.bool Bool.true), (oI 181), (oR 269), .none, (oR 270), (oR 271), (oR 272), (oI 537), (oI 141), (oS "/claim/cut.py" 538)]) ::
 (nat_lit 274, oF "_law_cell_at" 39 "law_forkplan_k09_no_such_name" 530 273) ::
 (nat_lit 280, oC #[(oS "_law_stir" 540), (oS "_law_stir" 541), (oS "/claim/cut.py" 542), (oI 145), (oI 2), (oI 0), (oI 0), (oI 3), (oR 275), (.bool Bool.true), (oI 181), (oR 276), .none, (oR 277), (oR 278), (oR 279), (oI 546), (oI 145), (oS "/claim/cut.py" 547)]) ::
 (nat_lit 281, oF "_law_stir" 40 "law_forkplan_k09_no_such_name" 530 280) ::
 (nat_lit 287, oC #[(oS "_law_drawn" 549), (oS "_law_drawn" 550), (oS "/claim/cut.py" 551), (oI 149), (oI 2), (oI 0), (oI 0), (oI 3), (oR 282), (.bool Bool.true), (oI 181), (oR 283), .none, (oR 284), (oR 285), (oR 286), (oI 557), (oI 149), (oS "/claim/cut.py" 558)]) ::
 (nat_lit 288, oF "_law_drawn" 41 "law_forkplan_k09_no_such_name" 530 287) ::
 (nat_lit 294, oC #[(oS "_law_deck" 560), (oS "_law_deck" 561), (oS "/claim/cut.py" 562), (oI 159), (oI 1), (oI 0), (oI 0), (oI 3), (oR 289), (.bool Bool.true), (oI 181), (oR 290), .none, (oR 291), (oR 292), (oR 293), (oI 564), (oI 159), (oS "/claim/cut.py" 565)]) ::
 (nat_lit 295, oF "_law_deck" 42 "law_forkplan_k09_no_such_name" 530 294) ::
 (nat_lit 301, oC #[(oS "_law_take" 567), (oS "_law_take" 568), (oS "/claim/cut.py" 569), (oI 163), (oI 2), (oI 0), (oI 0), (oI 3), (oR 296), (.bool Bool.true), (oI 181), (oR 297), .none, (oR 298), (oR 299), (oR 300), (oI 573), (oI 163), (oS "/claim/cut.py" 574)]) ::
 (nat_lit 302, oF "_law_take" 43 "law_forkplan_k09_no_such_name" 530 301) ::
 (nat_lit 308, oC #[(oS "_law_unlike" 576), (oS "_law_unlike" 577), (oS "/claim/cut.py" 578), (oI 167), (oI 2), (oI 0), (oI 0), (oI 3), (oR 303), (.bool Bool.true), (oI 181), (oR 304), .none, (oR 305), (oR 306), (oR 307), (oI 589), (oI 167), (oS "/claim/cut.py" 590)]) ::
 (nat_lit 309, oF "_law_unlike" 44 "law_forkplan_k09_no_such_name" 530 308) ::
 (nat_lit 315, oC #[(oS "_law_boxes" 592), (oS "_law_boxes" 593), (oS "/claim/cut.py" 594), (oI 178), (oI 1), (oI 0), (oI 0), (oI 3), (oR 310), (.bool Bool.true), (oI 181), (oR 311), .none, (oR 312), (oR 313), (oR 314), (oI 602), (oI 178), (oS "/claim/cut.py" 603)]) ::
 (nat_lit 316, oF "_law_boxes" 45 "law_forkplan_k09_no_such_name" 530 315) ::
 (nat_lit 322, oC #[(oS "_law_expr" 605), (oS "_law_expr" 606), (oS "/claim/cut.py" 607), (oI 191), (oI 3), (oI 0), (oI 0), (oI 3), (oR 317), (.bool Bool.true), (oI 181), (oR 318), .none, (oR 319), (oR 320), (oR 321), (oI 613), (oI 191), (oS "/claim/cut.py" 614)]) ::
 (nat_lit 323, oF "_law_expr" 46 "law_forkplan_k09_no_such_name" 530 322) ::
 (nat_lit 329, oC #[(oS "_law_cond" 616), (oS "_law_cond" 617), (oS "/claim/cut.py" 618), (oI 199), (oI 3), (oI 0), (oI 0), (oI 3), (oR 324), (.bool Bool.true), (oI 181), (oR 325), .none, (oR 326), (oR 327), (oR 328), (oI 624), (oI 199), (oS "/claim/cut.py" 625)]) ::
 (nat_lit 330, oF "_law_cond" 47 "law_forkplan_k09_no_such_name" 530 329) ::
 (nat_lit 336, oC #[(oS "_law_worth" 627), (oS "_law_worth" 628), (oS "/claim/cut.py" 629), (oI 210), (oI 2), (oI 0), (oI 0), (oI 3), (oR 331), (.bool Bool.true), (oI 181), (oR 332), .none, (oR 333), (oR 334), (oR 335), (oI 636), (oI 210), (oS "/claim/cut.py" 637)]) ::
 (nat_lit 337, oF "_law_worth" 48 "law_forkplan_k09_no_such_name" 530 336) ::
 (nat_lit 343, oC #[(oS "_law_holds" 639), (oS "_law_holds" 640), (oS "/claim/cut.py" 641), (oI 223), (oI 2), (oI 0), (oI 0), (oI 3), (oR 338), (.bool Bool.true), (oI 181), (oR 339), .none, (oR 340), (oR 341), (oR 342), (oI 645), (oI 223), (oS "/claim/cut.py" 646)]) ::
 (nat_lit 344, oF "_law_holds" 49 "law_forkplan_k09_no_such_name" 530 343) ::
 (nat_lit 348, oC #[(oS "_law_values" 648), (oS "_law_values" 649), (oS "/claim/cut.py" 650), (oI 232), (oI 2), (oI 0), (oI 0), (oI 3), (oR 345), (.bool Bool.true), (oI 181), (oR 346), .none, .none, .none, (oR 347), (oI 651), (oI 232), (oS "/claim/cut.py" 652)]) ::
 (nat_lit 349, oF "_law_values" 50 "law_forkplan_k09_no_such_name" 530 348) ::
 (nat_lit 353, oC #[(oS "_law_standings" 654), (oS "_law_standings" 655), (oS "/claim/cut.py" 656), (oI 234), (oI 1), (oI 0), (oI 0), (oI 3), (oR 350), (.bool Bool.true), (oI 181), (oR 351), .none, .none, .none, (oR 352), (oI 657), (oI 234), (oS "/claim/cut.py" 658)]) ::
 (nat_lit 354, oF "_law_standings" 51 "law_forkplan_k09_no_such_name" 530 353) ::
 (nat_lit 360, oC #[(oS "_law_deed" 660), (oS "_law_deed" 661), (oS "/claim/cut.py" 662), (oI 242), (oI 3), (oI 0), (oI 0), (oI 3), (oR 355), (.bool Bool.true), (oI 181), (oR 356), .none, (oR 357), (oR 358), (oR 359), (oI 672), (oI 242), (oS "/claim/cut.py" 673)]) ::
 (nat_lit 361, oF "_law_deed" 52 "law_forkplan_k09_no_such_name" 530 360) ::
 (nat_lit 365, oC #[(oS "_law_world" 675), (oS "_law_world" 676), (oS "/claim/cut.py" 677), (oI 255), (oI 1), (oI 0), (oI 0), (oI 3), (oR 362), (.bool Bool.true), (oI 181), (oR 363), .none, .none, .none, (oR 364), (oI 678), (oI 255), (oS "/claim/cut.py" 679)]) ::
 (nat_lit 366, oF "_law_world" 53 "law_forkplan_k09_no_such_name" 530 365) ::
 (nat_lit 372, oC #[(oS "_law_refused" 681), (oS "_law_refused" 682), (oS "/claim/cut.py" 683), (oI 276), (oI 4), (oI 0), (oI 0), (oI 3), (oR 367), (.bool Bool.true), (oI 181), (oR 368), .none, (oR 369), (oR 370), (oR 371), (oI 690), (oI 276), (oS "/claim/cut.py" 691)]) ::
 (nat_lit 373, oF "_law_refused" 54 "law_forkplan_k09_no_such_name" 530 372) ::
 (nat_lit 377, oC #[(oS "_law_name" 693), (oS "_law_name" 694), (oS "/claim/cut.py" 695), (oI 288), (oI 2), (oI 0), (oI 0), (oI 3), (oR 374), (.bool Bool.true), (oI 181), (oR 375), .none, .none, .none, (oR 376), (oI 696), (oI 288), (oS "/claim/cut.py" 697)]) ::
 (nat_lit 378, oF "_law_name" 55 "law_forkplan_k09_no_such_name" 530 377) ::
 (nat_lit 382, oC #[(oS "law" 699), (oS "law" 700), (oS "/claim/cut.py" 701), (oI 299), (oI 1), (oI 0), (oI 0), (oI 3), (oR 379), (.bool Bool.true), (oI 181), (oR 380), .none, .none, .none, (oR 381), (oI 702), (oI 299), (oS "/claim/cut.py" 703)]) ::
 (nat_lit 383, oF "law" 56 "law_forkplan_k09_no_such_name" 530 382) :: []
noncomputable def topView : Program := { PySem.Challenge.pw_forkplan_k09_no_such_name with main := { PySem.Challenge.pw_forkplan_k09_no_such_name.main with body := ([1, 2, 3, 4, 5, 6, 7, 8, 9, 10, 12, 13, 14, 15, 16, 17, 19, 20, 21, 22, 23, 24, 25, 26, 27, 28, 29, 30, 31, 32, 33, 34, 35, 36, 37, 39, 40, 41, 42, 43, 44, 45, 46, 47, 48, 49, 50, 51, 52, 53, 54, 55, 56] : List Nat).filterMap fun i => PySem.Challenge.pw_forkplan_k09_no_such_name.main.body[i]? } }
noncomputable def topHook : PySem.W.Hook := PySem.W.kHook topLeft [2, 3, 15, 22, 23, 24, 25, 28, 35, 36, 37, 40, 47, 48, 49, 52, 59, 60, 61, 64, 71, 72, 73, 76, 83, 84, 85, 88, 95, 96, 97, 100, 107, 108, 109, 112, 119, 120, 121, 124, 131, 132, 133, 141, 142, 148, 149, 155, 156, 160, 161, 167, 168, 174, 175, 176, 180, 181, 185, 186, 192, 193, 199, 200, 204, 205, 209, 210, 214, 215, 221, 222, 226, 227, 233, 234, 240, 241, 245, 246, 252, 253, 259, 260, 266, 267, 273, 274, 280, 281, 287, 288, 294, 295, 301, 302, 308, 309, 315, 316, 322, 323, 329, 330, 336, 337, 343, 344, 348, 349, 353, 354, 360, 361, 365, 366, 372, 373, 377, 378, 382, 383] (fun _ => by kernel_rfl)
theorem topRuns : LeftO (PySem.W.OpenLaw.row PySem.Challenge.rw_forkplan_k09_no_such_name).prog topView [] (fun s => xlAt topView [] s && recOk (RowW.records (OpenRow.toRowW (PySem.W.OpenLaw.row PySem.Challenge.rw_forkplan_k09_no_such_name))) s) (Hook.obs topHook) (Hook.val topHook) 7424 :=
 LeftO.of_pieces (H₀ := boot_heap) (H₁ := fun P => absHeap (topTree (topObjs P) 12 1 0) 384 topLife) (gs₀ := ⟨[]⟩) (gs₁ := ⟨[]⟩) (d₀ := boot_drawn) (d₁ := (Drawn.mk 0 0 0 0)) (k₀ := boot_toks) (k₁ := 705) (m₀ := 11) (ann := (some (Value.ref 6))) (M := 12 + (1 + (3350 + 2)))
  (boot_open (p := PySem.Challenge.pw_forkplan_k09_no_such_name) (by kernel_rfl) (by decide +kernel) (fun s => by rfl)) (fun w => by kernel_rfl)
  (fun w os => go_top (topPre w os) (piece_block (topBlock w os) (List.append_nil topBody ▸ piece_app (l := topBody) (rest := []) (segRun_of (topSeg w os)) (topFin w os)))) (by decide +kernel) (fun w => by kernel_rfl)
end FP
namespace L2
open PySem PySem.Spec PyProof.Rows

noncomputable abbrev Key := Sum Int Str
noncomputable def keyIs : Key → Value → Bool
 | .inl k, v => Value.isInt k v
 | .inr x, v => Value.isStrOf x v
noncomputable def keyH (w : World) : Key → Int
 | .inl k => hashInt k
 | .inr x => hashStr w x
theorem keyIs_shape : ∀ {k : Key} {v : Value}, keyIs k v = true → (∃ i t, k = Sum.inl i ∧ v = Value.int i t) ∨ (∃ x t, k = Sum.inr x ∧ v = Value.str x t)
 | .inl i, v, h => by
  obtain ⟨t, e⟩ := Value.isInt_shape (k := i) (v := v) h
  exact .inl ⟨i, t, rfl, e⟩
 | .inr x, v, h => by
  obtain ⟨t, e⟩ := Value.isStrOf_shape (x := x) (v := v) h
  exact .inr ⟨x, t, rfl, e⟩
theorem keyIs_int (i : Int) (t : Tok) : keyIs (.inl i) (.int i t) = true := by simp [keyIs, Value.isInt]
theorem keyIs_str (x : Str) (t : Tok) : keyIs (.inr x) (.str x t) = true := by simp [keyIs, Value.isStrOf]
theorem key_ll (a b : Int) : decide ((Sum.inl a : Key) = Sum.inl b) = (a == b) := by
 by_cases e : a = b
 ·subst e; simp
 ·have h : ¬ (Sum.inl a : Key) = Sum.inl b := fun q => e (Sum.inl.inj q)
  rw [decide_eq_false h]
  exact (beq_eq_false_iff_ne.mpr e).symm
theorem key_rr (a b : Str) : decide ((Sum.inr a : Key) = Sum.inr b) = decide (a = b) := by
 by_cases e : a = b
 ·subst e; simp
 ·have h : ¬ (Sum.inr a : Key) = Sum.inr b := fun q => e (Sum.inr.inj q)
  rw [decide_eq_false h, decide_eq_false e]
theorem key_lr (a : Int) (b : Str) : decide ((Sum.inl a : Key) = Sum.inr b) = false := decide_eq_false (fun q => nomatch q)
theorem key_rl (a : Str) (b : Int) : decide ((Sum.inr a : Key) = Sum.inl b) = false := decide_eq_false (fun q => nomatch q)

noncomputable def mixKind (prog : Program) (w : World) : PySem.KeyKind prog w Key where
 is := keyIs
 hash := keyH w
 inj := fun v a b ha hb => by
  rcases keyIs_shape ha with ⟨i, t, rfl, rfl⟩ | ⟨x, t, rfl, rfl⟩
  ·rcases keyIs_shape hb with ⟨j, u, rfl, e⟩ | ⟨y, u, rfl, e⟩
   ·injection e with e1 _; rw [e1]
   ·exact nomatch e
  ·rcases keyIs_shape hb with ⟨j, u, rfl, e⟩ | ⟨y, u, rfl, e⟩
   ·exact nomatch e
   ·injection e with e1 _; rw [e1]
 byValue := fun k v h => by
  rcases keyIs_shape h with ⟨i, t, rfl, rfl⟩ | ⟨x, t, rfl, rfl⟩ <;> rfl
 pyHash := fun hv h => by
  rcases keyIs_shape hv with ⟨i, t, rfl, rfl⟩ | ⟨x, t, rfl, rfl⟩
  ·exact wpAny_pyHash_int h
  ·exact wpAny_pyHash_str h
 eqBool := fun hu hv h => by
  rcases keyIs_shape hu with ⟨i, t, rfl, rfl⟩ | ⟨x, t, rfl, rfl⟩
  ·rcases keyIs_shape hv with ⟨j, u, rfl, rfl⟩ | ⟨y, u, rfl, rfl⟩
   ·rw [key_ll] at h; exact wpAny_eqBool_int h
   ·rw [key_lr] at h; exact SeqAt.EqAt.int_str i t y u _ _ _ _ h
  ·rcases keyIs_shape hv with ⟨j, u, rfl, rfl⟩ | ⟨y, u, rfl, rfl⟩
   ·rw [key_rl] at h; exact SeqAt.EqAt.str_int x t j u _ _ _ _ h
   ·rw [key_rr] at h; exact wpAny_eqBool_str h
 «strs» := fun k x t v h => by
  rcases keyIs_shape h with ⟨i, u, rfl, e⟩ | ⟨y, u, rfl, e⟩
  ·exact nomatch e
  ·injection e with e1 _
   subst e1
   cases v <;> rfl

theorem mixKind_int (prog : Program) (w : World) (i : Int) (t : Tok) : (mixKind prog w).is (.inl i) (.int i t) = true := keyIs_int i t
theorem mixKind_str (prog : Program) (w : World) (x : Str) (t : Tok) : (mixKind prog w).is (.inr x) (.str x t) = true := keyIs_str x t
end L2

namespace L2
open PySem PySem.Spec PyProof.Rows

inductive V where
 | non | bl (b : Bool) | int (i : Int) | str (x : Str) | byt (b : Array UInt8) | flt (b : UInt64) | ref (a : Addr) | ty (n : String)
 deriving DecidableEq

noncomputable def RelV : V → Value → Prop
 | .non, u => u = Value.none
 | .bl b, u => u = Value.bool b
 | .int i, u => ∃ t, u = Value.int i t
 | .str x, u => ∃ t, u = Value.str x t
 | .byt b, u => ∃ t, u = Value.bytes b t
 | .flt b, u => ∃ t, u = Value.float b t
 | .ref a, u => u = Value.ref a
 | .ty n, u => u = Value.type n

noncomputable abbrev Vals : List V → List Value → Prop := Paired RelV
theorem Vals.length {xs : List V} {us : List Value} (r : Vals xs us) : xs.length = us.length := Paired.length r
theorem Vals.get : ∀ {xs : List V} {us : List Value} {i : Nat} {x : V}, Vals xs us → xs[i]? = some x → ∃ u, us[i]? = some u ∧ RelV x u
 | _, _, _, _, .nil, e => by simp at e
 | _, _, 0, _, .cons r _, e => by simp at e; subst e; exact ⟨_, rfl, r⟩
 | _, _, i + 1, x, .cons _ t, e => by
  obtain ⟨u, h1, h2⟩ := Vals.get (i := i) (x := x) t (by simpa using e)
  exact ⟨u, by simpa using h1, h2⟩
theorem Vals.set {x : V} {u : Value} (r : RelV x u) : ∀ {xs : List V} {us : List Value} (i : Nat), Vals xs us → Vals (xs.set i x) (us.set i u)
 | _, _, _, .nil => .nil
 | _, _, 0, .cons _ t => .cons r t
 | _, _, i + 1, .cons q t => .cons q (Vals.set r i t)
theorem Vals.append : ∀ {xs ys : List V} {us ws : List Value}, Vals xs us → Vals ys ws → Vals (xs ++ ys) (us ++ ws)
 | _, _, _, _, .nil, s => s
 | _, _, _, _, .cons r t, s => .cons r (Vals.append t s)
theorem Vals.take : ∀ {xs : List V} {us : List Value} (n : Nat), Vals xs us → Vals (xs.take n) (us.take n)
 | _, _, 0, _ => .nil
 | _, _, _ + 1, .nil => .nil
 | _, _, n + 1, .cons r t => .cons r (Vals.take n t)
theorem Vals.drop : ∀ {xs : List V} {us : List Value} (n : Nat), Vals xs us → Vals (xs.drop n) (us.drop n)
 | _, _, 0, r => r
 | _, _, _ + 1, .nil => .nil
 | _, _, n + 1, .cons _ t => Vals.drop n t
noncomputable def RelO : Option V → Option Value → Prop
 | some v, some u => RelV v u
 | none, none => True
 | _, _ => False
noncomputable def KV {κ : Type} : List (κ × V) → List (κ × Value) → Prop := Paired fun (p : κ × V) (q : κ × Value) => p.1 = q.1 ∧ RelV p.2 q.2

noncomputable def kV : Key → V
 | .inl i => .int i
 | .inr x => .str x

inductive HO where
 /-- a list -/
 | lst (xs : List V)
 /-- a tuple (never changes) -/
 | tup (xs : List V)
 /-- a dict whose keys are ints and texts; one whose keys are tuples of ints and texts (the empty one is both) -/
 | dK (kvs : List (Key × V)) | dT (kvs : List (List Key × V))
 /-- a set of ints: its members, its size -/
 | set (S : Int → Bool) (n : Nat)
 /-- an instance of the class at C, its dict at dx, its attributes -/
 | ins (C dx : Addr) (fs : List (Str × V))
 /-- the dict of the instance at x -/
 | own (x : Addr)
 /-- the dict of an exception -/
 | xd (fs : List (Str × V))
 /-- a bound method, f of x -/
 | met (f x : Addr)
 /-- a range object lo, lo + 1, .. below hi -/
 | rng (lo hi : Int)
 /-- a thing that is known to the object (the script; a dict while a loop walks it): read, never written while it is so -/
 | frz (o : Obj) (u : HO)
 /-- a code object's table -/
 | tbl (ps : Array Value)
 /-- any other thing, by what is true of its one object (a def of one's own: SetO a S n := HO.ext fun h => ..) -/
 | ext (φ : Heap → Prop)

noncomputable abbrev Hp := Addr → Option HO
noncomputable def upd (H : Hp) (a : Addr) (o : HO) : Hp := fun b => if b = a then some o else H b
theorem qW {H : Hp} {a : Addr} {o : HO} : upd H a o a = some o := by unfold upd; rw [if_pos rfl]
theorem qA {H : Hp} {a b : Addr} {o : HO} (h : b ≠ a) : upd H a o b = H b := by unfold upd; rw [if_neg h]
theorem upd_upd {H : Hp} {a : Addr} {o u : HO} : upd (upd H a o) a u = upd H a u := by
 funext b; unfold upd; split <;> rfl
theorem ne_of {H : Hp} {a b : Addr} {o u : HO} (h : H a = some o) (h' : H b = some u) (d : o ≠ u) : a ≠ b := by
 intro e; subst e; rw [h] at h'; exact d (Option.some.inj h')
theorem qB {H : Hp} {a b : Addr} {o : HO} (h : H a = some o) (h' : H b = none) : a ≠ b := by
 intro e; subst e; rw [h] at h'; cases h'

noncomputable def TupX (h : Heap) (a : Addr) (its : Array Value) : Prop := ∃ o, h.get? a = some o ∧ o.cls = .type "tuple" ∧ ∃ n, o.data = .seq its n ∧ o.dict = none
theorem TupX.tup {h : Heap} {a : Addr} {its : Array Value} (x : TupX h a its) : IsTup h a its := let ⟨o, e, c, n, d, _⟩ := x; ⟨o, e, c, n, d⟩
theorem TupX.lt {h : Heap} {a : Addr} {its : Array Value} (x : TupX h a its) : a < h.objs.size := x.tup.lt
theorem TupX.new (h : Heap) (its : Array Value) : TupX (h.push { cls := .type "tuple", data := .seq its }) h.objs.size its := ⟨_, Heap.get?_push_size _ rfl, rfl, _, rfl, rfl⟩
section
variable (P : Program) (w : World)
noncomputable def ObjOk (H : Hp) (h : Heap) (a : Addr) : HO → Prop
 | .lst xs => xs.length ≤ sizeLine ∧ ∃ (its : List Value) (n : Nat), Vals xs its ∧ h.get? a = some { cls := .type "list", data := .seq its.toArray n }
 | .tup xs => xs.length ≤ sizeLine ∧ ∃ its : List Value, Vals xs its ∧ TupX h a its.toArray
 | .dK kvs => kvs.length ≤ sizeLine ∧ (a == sysModules) = false ∧ ∃ vs, KV kvs vs ∧ h.DictOf (mixKind P w) a vs
 | .dT kvs => kvs.length ≤ sizeLine ∧ (a == sysModules) = false ∧ ∃ xs : List (List Key × Addr × Value),
   Paired (fun (p : List Key × V) (q : List Key × Addr × Value) => p.1 = q.1 ∧ H q.2.1 = some (.tup (p.1.map kV)) ∧ RelV p.2 q.2.2) kvs xs ∧
   ∃ o es ep, h.get? a = some o ∧ o.ExactDict ∧ o.data = .dict es ep ∧ es.toList = xs.map (entryOfKey (tupleKind (mixKind P w))) ∧ (xs.map (·.1)).Nodup
 | .set S n => h.SetOf (intKind P w) a S n
 | .ins C dx fs => H dx = some (.own a) ∧ fs.length ≤ 1000 ∧ dx ≠ a ∧ h.get? a = some (PySem.W.instObj C dx) ∧
   ∃ mA, h.Ns1 dx mA ∧ (∀ f, RelO (fs.lookup f) (mA f)) ∧ PySem.Within mA (fs.map (·.1))
 | .own _ => ∃ o, h.get? a = some o
 | .xd fs => ∃ mA, h.Ns1 a mA ∧ ∀ f, RelO (fs.lookup f) (mA f)
 | .rng lo hi => ∃ t u v, h.get? a = some { cls := .type "range", data := .fields #[.int lo t, .int hi u, .int 1 v] }
 | .frz o u => h.get? a = some o ∧ ObjOk H h a u
 | .tbl ps => h.get? a = some { cls := .none, data := .fields ps }
 | .met f x => h.get? a = some (PySem.W.methodObj (.ref f) (.ref x))
 | .ext φ => φ h ∧ (∃ o, h.get? a = some o) ∧ ∀ h1 h2 : Heap, φ h1 → (∀ o, h1.get? a = some o → h2.get? a = some o) → φ h2
noncomputable def HOk (H : Hp) (h : Heap) : Prop := ∀ a o, H a = some o → ObjOk P w H h a o
end

section
variable {P : Program} {w : World} {H H' : Hp} {h h' : Heap} {a : Addr} {o : HO}
theorem ObjOk.lt (x : ObjOk P w H h a o) : a < h.objs.size := by
 cases o with
 | lst xs => obtain ⟨_, _, _, _, e⟩ := x; exact Heap.lt_size e
 | tup xs => obtain ⟨_, _, _, p⟩ := x; exact p.lt
 | dK kvs => obtain ⟨_, _, _, _, o, _, _, e, _⟩ := x; exact Heap.lt_size e
 | dT kvs => obtain ⟨_, _, _, _, o, _, _, e, _⟩ := x; exact Heap.lt_size e
 | set S n => obtain ⟨o, _, _, _, e, _⟩ := x; exact Heap.lt_size e
 | ins C dx fs => obtain ⟨_, _, _, e, _⟩ := x; exact Heap.lt_size e
 | own y => obtain ⟨_, e⟩ := x; exact Heap.lt_size e
 | xd fs => obtain ⟨_, ⟨_, _, _, e, _⟩, _⟩ := x; exact Heap.lt_size e
 | rng lo hi => obtain ⟨_, _, _, e⟩ := x; exact Heap.lt_size e
 | frz ob u => obtain ⟨e, _⟩ := x; exact Heap.lt_size e
 | tbl ps => exact Heap.lt_size (show h.get? a = some _ from x)
 | met f y => exact Heap.lt_size (show h.get? a = some _ from x)
 | ext φ => obtain ⟨_, ⟨_, e⟩, _⟩ := x; exact Heap.lt_size e
theorem Paired.mapP {α β : Type} {F G : α → β → Prop} : ∀ {l₁ : List α} {l₂ : List β}, Paired F l₁ l₂ → (∀ a b, F a b → G a b) → Paired G l₁ l₂
 | _, _, .nil, _ => .nil
 | _, _, .cons r t, f => .cons (f _ _ r) (Paired.mapP t f)
theorem ObjOk.stay (x : ObjOk P w H h a o) (k : ∀ b u, (b = a ∨ H b = some (.own a)) → h.get? b = some u → h'.get? b = some u)
  (ho : ∀ b, H b = some (.own a) → H' b = some (.own a)) (ht : ∀ b xs, H b = some (.tup xs) → H' b = some (.tup xs)) : ObjOk P w H' h' a o := by
 induction o with
 | lst xs => obtain ⟨z, its, n, r, e⟩ := x; exact ⟨z, its, n, r, k _ _ (.inl rfl) e⟩
 | tup xs => obtain ⟨z, its, r, ob, e, c⟩ := x; exact ⟨z, its, r, ob, k _ _ (.inl rfl) e, c⟩
 | dK kvs => obtain ⟨z, y, vs, r, ob, es, ep, e, c⟩ := x; exact ⟨z, y, vs, r, ob, es, ep, k _ _ (.inl rfl) e, c⟩
 | dT kvs =>
  obtain ⟨z, y, xs, r, ob, es, ep, e, c⟩ := x
  exact ⟨z, y, xs, Paired.mapP r fun p q z => ⟨z.1, ht _ _ z.2.1, z.2.2⟩, ob, es, ep, k _ _ (.inl rfl) e, c⟩
 | set S n => obtain ⟨ob, es, ep, t, e, c⟩ := x; exact ⟨ob, es, ep, t, k _ _ (.inl rfl) e, c⟩
 | ins C dx fs =>
  obtain ⟨d, z, ne, e, mA, ⟨od, es, ep, e2, c⟩, r⟩ := x
  exact ⟨ho _ d, z, ne, k _ _ (.inl rfl) e, mA, ⟨od, es, ep, k _ _ (.inr d) e2, c⟩, r⟩
 | own y => obtain ⟨ob, e⟩ := x; exact ⟨ob, k _ _ (.inl rfl) e⟩
 | xd fs => obtain ⟨mA, ⟨od, es, ep, e, c⟩, r⟩ := x; exact ⟨mA, ⟨od, es, ep, k _ _ (.inl rfl) e, c⟩, r⟩
 | rng lo hi => obtain ⟨t, u, v, e⟩ := x; exact ⟨t, u, v, k _ _ (.inl rfl) e⟩
 | frz ob u ih => obtain ⟨e, q⟩ := x; exact ⟨k _ _ (.inl rfl) e, ih q⟩
 | tbl ps =>
  have e : h.get? a = some { cls := .none, data := .fields ps } := x
  show h'.get? a = some { cls := .none, data := .fields ps }
  exact k a _ (.inl rfl) e
 | met f y =>
  have e : h.get? a = some (PySem.W.methodObj (.ref f) (.ref y)) := x
  show h'.get? a = some (PySem.W.methodObj (.ref f) (.ref y))
  exact k a _ (.inl rfl) e
 | ext φ => obtain ⟨p, ⟨o, e⟩, st⟩ := x; exact ⟨st _ _ p fun o q => k _ _ (.inl rfl) q, ⟨o, k _ _ (.inl rfl) e⟩, st⟩
theorem HOk.lt (x : HOk P w H h) (e : H a = some o) : a < h.objs.size := (x a o e).lt
theorem HOk.fresh (x : HOk P w H h) (e : h.objs.size ≤ a) : H a = none := by
 cases q : H a with
 | none => rfl
 | some u => exact absurd (Nat.lt_of_lt_of_le (x.lt q) e) (Nat.lt_irrefl _)
theorem HOk.kept (x : HOk P w H h) (k : ∀ b u, h.get? b = some u → h'.get? b = some u) : HOk P w H h' := fun a o e =>
 (x a o e).stay (fun b u _ q => k b u q) (fun _ q => q) fun _ _ q => q
theorem HOk.laid (x : HOk P w H h) (k : ∀ b u, h.get? b = some u → h'.get? b = some u) (hp : h.objs.size ≤ a) (new : ObjOk P w (upd H a o) h' a o) : HOk P w (upd H a o) h' := fun b u e => by
 have hn := x.fresh hp
 by_cases hb : b = a
 ·subst hb; rw [qW] at e; cases e; exact new
 ·rw [qA hb] at e
  exact (x b u e).stay (fun c v _ q => k c v q) (fun c q => by rw [qA (qB q hn)]; exact q) fun c xs q => by rw [qA (qB q hn)]; exact q
end

noncomputable def Rd (H : Hp) (a : Addr) (u : HO) : Prop := H a = some u ∨ ∃ o, H a = some (.frz o u)
theorem Rd.ok {P : Program} {w : World} {H : Hp} {h : Heap} {a : Addr} {u : HO} (r : Rd H a u) (x : HOk P w H h) : ObjOk P w H h a u := by
 rcases r with r | ⟨o, r⟩
 ·exact x a u r
 ·obtain ⟨_, q⟩ := x a _ r
  exact q
noncomputable def Mut : Option HO → Prop
 | some (.lst _) => True
 | some (.dK _) => True
 | some (.dT _) => True
 | some (.set _ _) => True
 | some (.ins _ _ _) => True
 | some (.ext _) => True
 | _ => False
section
variable {P : Program} {w : World} {H : Hp} {h h' : Heap} {x e : Addr} {o' : HO}
theorem HOk.write (ok : HOk P w H h) (mu : Mut (H x)) (he : e = x ∨ H e = some (.own x)) (k : ∀ b u, b ≠ e → h.get? b = some u → h'.get? b = some u) (heo : ∃ u, h'.get? e = some u)
  (new : ObjOk P w (upd H x o') h' x o') : HOk P w (upd H x o') h' := fun b u q => by
 have nown : ∀ c y, H c = some (.own y) → c ≠ x := fun c y r z => by subst z; rw [r] at mu; exact mu
 have ntup : ∀ c xs, H c = some (.tup xs) → c ≠ x := fun c xs r z => by subst z; rw [r] at mu; exact mu
 by_cases hb : b = x
 ·subst hb; rw [qW] at q; cases q; exact new
 ·rw [qA hb] at q
  by_cases hbe : b = e
  ·have q' : H b = some (.own x) := by
    rcases he with z | z
    ·exact absurd (hbe.trans z) hb
    ·rw [hbe]; exact z
   rw [q] at q'; cases q'
   obtain ⟨v, hv⟩ := heo
   exact ⟨v, by rw [hbe]; exact hv⟩
  ·refine (ok b u q).stay (fun c v hc r => k c v ?_ r) (fun c r => by rw [qA (nown c b r)]; exact r) fun c xs r => by rw [qA (ntup c xs r)]; exact r
   rcases hc with rfl | hc
   ·exact hbe
   ·rintro rfl
    rcases he with z | z
    ·exact nown c b hc z
    ·rw [hc] at z; cases z; exact hb rfl
end

structure Un (fs ex : List Addr) (H H' : Hp) (h h' : Heap) : Prop where
 keep : ∀ b o, h.get? b = some o → H b = none → b ∉ fs → b ∉ ex → h'.get? b = some o
 slot : ∀ b o, h.get? b = some o → H b = none → b ∈ fs → b ∉ ex → ∃ sl, h'.get? b = some { o with slots := sl }
 free : ∀ b o, h.get? b = some o → H b = none → b ∉ ex → H' b = none
 there : ∀ b o, h.get? b = some o → b ∉ ex → ∃ o', h'.get? b = some o'
 tups : ∀ b xs, H b = some (.tup xs) → H' b = some (.tup xs)
 frzs : ∀ b o u, H b = some (.frz o u) → H' b = some (.frz o u)
 tbls : ∀ b ps, H b = some (.tbl ps) → ∃ more, H' b = some (.tbl (ps ++ more))
section
variable {fs fs' ex ex' : List Addr} {H H1 H2 : Hp} {h h1 h2 h' : Heap} {a x e : Addr} {o : HO}
theorem Un.any (u : Un fs ex H H1 h h1) {b : Addr} {ob : Obj} (q : h.get? b = some ob) (n : H b = none) (hx : b ∉ ex) : ∃ sl, h1.get? b = some { ob with slots := sl } := by
 by_cases hb : b ∈ fs
 ·exact u.slot b ob q n hb hx
 ·exact ⟨ob.slots, u.keep b ob q n hb hx⟩
theorem Un.trans (a : Un fs ex H H1 h h1) (b : Un fs ex H1 H2 h1 h2) : Un fs ex H H2 h h2 where
 keep := fun c ob q n hc hx => b.keep c ob (a.keep c ob q n hc hx) (a.free c ob q n hx) hc hx
 slot := fun c ob q n hc hx => by
  obtain ⟨sl, e1⟩ := a.slot c ob q n hc hx
  obtain ⟨sl', e2⟩ := b.slot c _ e1 (a.free c ob q n hx) hc hx
  exact ⟨sl', e2⟩
 free := fun c ob q n hx => by
  obtain ⟨o', e1⟩ := a.there c ob q hx
  exact b.free c o' e1 (a.free c ob q n hx) hx
 there := fun c ob q hx => by
  obtain ⟨o', e1⟩ := a.there c ob q hx
  exact b.there c o' e1 hx
 tups := fun c xs q => b.tups c xs (a.tups c xs q)
 frzs := fun c ob xs q => b.frzs c ob xs (a.frzs c ob xs q)
 tbls := fun c ps q => by
  obtain ⟨m1, e1⟩ := a.tbls c ps q
  obtain ⟨m2, e2⟩ := b.tbls c _ e1
  exact ⟨m1 ++ m2, by rw [e2, Array.append_assoc]⟩
theorem Un.kept (k : ∀ b u, h.get? b = some u → h'.get? b = some u) : Un fs ex H H h h' :=
 ⟨fun b ob q _ _ _ => k b ob q, fun b ob q _ _ _ => ⟨ob.slots, k b ob q⟩, fun _ _ _ n _ => n, fun b ob q _ => ⟨ob, k b ob q⟩, fun _ _ q => q, fun _ _ _ q => q, fun _ ps q => ⟨#[], by rw [q]; simp⟩⟩
theorem Un.refl : Un fs ex H H h h := Un.kept fun _ _ q => q
theorem Un.laid (k : ∀ b u, h.get? b = some u → h'.get? b = some u) (hp : h.objs.size ≤ a) (hn : H a = none) : Un fs ex H (upd H a o) h h' where
 keep := fun b u q _ _ _ => k b u q
 slot := fun b u q _ _ _ => ⟨u.slots, k b u q⟩
 free := fun b u q n _ => by rw [qA (Nat.ne_of_lt (Nat.lt_of_lt_of_le (Heap.lt_size q) hp))]; exact n
 there := fun b u q _ => ⟨u, k b u q⟩
 tups := fun b xs q => by rw [qA (qB q hn)]; exact q
 frzs := fun b u xs q => by rw [qA (qB q hn)]; exact q
 tbls := fun b ps q => ⟨#[], by rw [qA (qB q hn), q]; simp⟩
theorem Un.write (mu : Mut (H x)) (he : e = x ∨ H e = some (.own x)) (k : ∀ b u, b ≠ e → h.get? b = some u → h'.get? b = some u) (heo : ∃ u, h'.get? e = some u) : Un fs ex H (upd H x o) h h' := by
 have hx : ∀ b, H b = none → b ≠ x := fun b n z => by subst z; rw [n] at mu; exact mu
 have hb : ∀ b, H b = none → b ≠ e := fun b n z => by
  subst z
  rcases he with r | r
  ·exact hx b n r
  ·rw [n] at r; cases r
 have hm : ∀ b u, H b = some u → ¬ Mut (some u) → b ≠ x := fun b u q nm z => by subst z; rw [q] at mu; exact nm mu
 refine ⟨fun b u q n _ _ => k b u (hb b n) q, fun b u q n _ _ => ⟨u.slots, k b u (hb b n) q⟩, fun b u q n _ => by rw [qA (hx b n)]; exact n, fun b u q _ => ?_,
  fun b xs q => by rw [qA (hm b _ q fun z => z)]; exact q, fun b u xs q => by rw [qA (hm b _ q fun z => z)]; exact q, fun b ps q => ⟨#[], by rw [qA (hm b _ q fun z => z), q]; simp⟩⟩
 by_cases hbe : b = e
 ·subst hbe; exact heo
 ·exact ⟨u, k b u hbe q⟩
end

noncomputable def trk (h : Heap) (H : Hp) : List Addr := (List.range h.objs.size).filter fun a => (H a).isSome
noncomputable def hidT (h : Heap) (H : Hp) : Heap := PySem.W.hideAll h (trk h H)
theorem hidT_size (h : Heap) (H : Hp) : (hidT h H).objs.size = h.objs.size := PySem.W.hideAll_size _ _
theorem hidT_get {h : Heap} {H : Hp} {b : Addr} {o : Obj} (e : h.get? b = some o) (n : H b = none) : (hidT h H).get? b = some o :=
 PySem.W.hideAll_get _ e fun hm => by
  have q : (H b).isSome = true := (List.mem_filter.mp hm).2
  rw [n] at q; simp at q
theorem of_hidT {h : Heap} {H : Hp} {b : Addr} {o : Obj} (e : (hidT h H).get? b = some o) : h.get? b = some o ∧ H b = none := by
 have e' : h.get? b = some o := PySem.W.of_hideAll (trk h H) e
 refine ⟨e', ?_⟩
 cases q : H b with
 | none => rfl
 | some x =>
  have hm : b ∈ trk h H := List.mem_filter.mpr ⟨List.mem_range.mpr (Heap.lt_size e'), by simp [q]⟩
  have z : (hidT h H).get? b = none := PySem.W.hideAll_none (trk h H) hm
  rw [z] at e; cases e

end L2

namespace L2
open PySem PySem.Spec PyProof.Rows

structure Mod (K : PySem.W.Frag) (mg : Str → Option Value) (base : Heap) : Prop where
 kin : K.In base
 glob : base.Ns mainGlobals mg
 blt : ∃ mb, base.Ns builtinsNs mb ∧ ∀ x : Str, x ≠ "__name__" → mb x = bootBuiltins x
 nolimit : base.NoLimit

/-- the context: a def's body (or a comprehension's block) running. base: fixed through the whole law; s₀, H₀: the entry; outer: the frames whose slots others may change (a def's callers); stack: all frames that run;
   ex: iterators that were made ahead of the entry and are walked here (a comprehension's); fn: the names whose cells were made at the entry (a def: all; a comprehension's block: its own); calm: not within an except suite; pn: pins that every state bears; xe: what is wanted of an exception that leaves the code -/
structure Cx where
 prog : Program
 w : World
 K : PySem.W.Frag
 mg : Str → Option Value
 base : Heap
 A : Around
 N : List Str
 s₀ : Shared
 H₀ : Hp
 env : Env
 outer : List Env
 stack : List Env
 ex : List Addr
 fn : Str → Bool
 calm : Bool
 pn : List (Addr × Obj)
 xe : Value → Shared → Prop
noncomputable def frs (l : List Env) : List Addr := l.filterMap (·.frame)
noncomputable abbrev Cx.fs (X : Cx) : List Addr := frs X.outer

noncomputable def Vis (sc : Scope) (x : Str) : Prop := sc.names.lookup x = some .local ∨ sc.names.lookup x = some .cell ∨ sc.names.lookup x = some .free
noncomputable def Loc (sc : Scope) (x : Str) : Prop := sc.names.lookup x = some .local ∨ sc.names.lookup x = some .cell
noncomputable def Look (env : Env) (h : Heap) (m : Str → Option Value) (x : Str) (u : Value) : Prop :=
 (env.kindOf x = some .local ∧ m x = some u) ∨ ((env.kindOf x = some .cell ∨ env.kindOf x = some .free) ∧ ∃ c, env.cells.lookup x = some c ∧ h.IsCell c (some u))

structure Cx.Ok (X : Cx) : Prop where
 mod : Mod X.K X.mg X.base
 kind : X.env.scope.kind = .function
 glob : X.env.globals = mainGlobals
 blt : X.env.builtins = builtinsNs
 above : X.s₀.heap.objs.size ≤ X.env.locals
 inj : ∀ x y c, X.env.cells.lookup x = some c → X.env.cells.lookup y = some c → x = y
 has : ∀ x, (X.env.kindOf x = some .cell ∨ X.env.kindOf x = some .free) → ∃ c, X.env.cells.lookup x = some c
 cab : ∀ x c, X.fn x = true → X.env.cells.lookup x = some c → X.s₀.heap.objs.size ≤ c
 hd : X.calm = true → X.A.handled = none
 frames : X.A.frames = some X.stack
 stk : X.stack = X.outer ∨ (X.stack = X.env :: X.outer ∧ X.env.frame = some X.env.locals)
 exf : ∀ b ∈ X.ex, b ≠ X.env.locals ∧ ∀ x c, X.env.cells.lookup x = some c → c ≠ b
 bs : ∀ b o, X.base.get? b = some o → X.s₀.heap.get? b = some o ∧ X.H₀ b = none
 bsz : X.base.objs.size ≤ X.s₀.heap.objs.size
 noex : ∀ b o, X.base.get? b = some o → b ∉ X.ex
 exfs : ∀ b ∈ X.ex, b ∉ X.fs
 funs : X.s₀.heap.FunFrames X.base X.outer
 frf : ∀ b ∈ X.fs, X.H₀ b = none

structure Inv (X : Cx) (pins : List (Addr × Obj)) (σ : List (Option V)) (H : Hp) (s : Shared) : Prop where
 ok : X.Ok
 os : s.os = X.s₀.os
 bare : AllBare s.gens
 base : Un X.fs X.ex X.H₀ H X.s₀.heap s.heap
 loc : ∃ m, s.heap.Ns X.env.locals m ∧ ∀ (i : Nat) (x : Str) (v : V), X.N[i]? = some x → σ[i]? = some (some v) → Vis X.env.scope x → ∃ u, RelV v u ∧ Look X.env s.heap m x u
 cell : ∀ x c, X.env.cells.lookup x = some c → ∃ v, s.heap.IsCell c v
 free : H X.env.locals = none
 freeC : ∀ x c, X.env.cells.lookup x = some c → H c = none
 pin : ∀ p ∈ X.pn ++ pins, s.heap.get? p.1 = some p.2 ∧ H p.1 = none ∧ p.1 ≠ X.env.locals ∧ p.1 ∉ X.fs ∧ ∀ v, p.2.data ≠ .cell v
 hok : HOk X.prog X.w H s.heap
 len : σ.length = X.N.length

section
variable {X : Cx} {pins : List (Addr × Obj)} {σ : List (Option V)} {H H' : Hp} {s : Shared} {h' : Heap}

theorem Cx.Ok.nofr (ok : X.Ok) {b : Addr} {o : Obj} (e : X.base.get? b = some o) : b ∉ X.fs := fun hb => by
 have := (ok.funs.mem hb).1
 rw [e] at this; cases this
theorem Inv.bs (I : Inv X pins σ H s) : ∀ b o, X.base.get? b = some o → s.heap.get? b = some o ∧ H b = none := fun b o e =>
 ⟨I.base.keep b o (I.ok.bs b o e).1 (I.ok.bs b o e).2 (I.ok.nofr e) (I.ok.noex b o e), I.base.free b o (I.ok.bs b o e).1 (I.ok.bs b o e).2 (I.ok.noex b o e)⟩
theorem Inv.bk (I : Inv X pins σ H s) : ∀ b o, X.base.get? b = some o → s.heap.get? b = some o := fun b o e => (I.bs b o e).1
theorem Inv.mod (I : Inv X pins σ H s) : Mod X.K X.mg X.base := I.ok.mod
theorem Inv.kIn (I : Inv X pins σ H s) : X.K.In s.heap := I.ok.mod.kin.keeps I.bk
theorem Inv.lt (I : Inv X pins σ H s) : X.env.locals < s.heap.objs.size := let ⟨_, hn, _⟩ := I.loc; hn.lt
theorem Inv.sz (I : Inv X pins σ H s) : X.s₀.heap.objs.size ≤ s.heap.objs.size := Nat.le_trans I.ok.above (Nat.le_of_lt I.lt)
theorem Inv.nofs (I : Inv X pins σ H s) {a : Addr} (h : s.heap.objs.size ≤ a) : a ∉ X.fs := fun hb => by
 obtain ⟨_, o, ho, _⟩ := I.ok.funs.mem hb
 exact absurd (Nat.lt_of_lt_of_le (Heap.lt_size ho) (Nat.le_trans I.sz h)) (Nat.lt_irrefl _)
theorem Inv.cne (I : Inv X pins σ H s) : ∀ x c, X.env.cells.lookup x = some c → c ≠ X.env.locals := fun x c e z => by
 obtain ⟨v, o, ho, hd⟩ := I.cell x c e
 obtain ⟨m, ⟨o', es, ep, ho', hd', _⟩, _⟩ := I.loc
 rw [z, ho'] at ho; cases ho; rw [hd'] at hd; cases hd
theorem Inv.funs (I : Inv X pins σ H s) : s.heap.FunFrames X.base X.outer := by
 have all : ∀ (l : List Env), (∀ b ∈ frs l, b ∈ X.fs) → X.s₀.heap.FunFrames X.base l → s.heap.FunFrames X.base l := by
  intro l
  induction l with
  | nil => intro _ _; trivial
  | cons env r ih =>
   intro hs hl
   obtain ⟨hk, ⟨L, o, hf, hn, ho, hd⟩, hr⟩ := hl
   have hL : L ∈ X.fs := hs L (by unfold frs; rw [List.filterMap_cons, hf]; exact List.mem_cons_self)
   obtain ⟨sl, e⟩ := I.base.slot L o ho (I.ok.frf L hL) hL fun z => I.ok.exfs L z hL
   exact ⟨hk, ⟨L, _, hf, hn, e, hd⟩, ih (fun b hb => hs b (by unfold frs; rw [List.filterMap_cons, hf]; exact List.mem_cons_of_mem _ hb)) hr⟩
 exact all X.outer (fun _ hb => hb) I.ok.funs

theorem Inv.stack (I : Inv X pins σ H s) : s.heap.FunFrames X.base X.stack := by
 rcases I.ok.stk with e | ⟨e, hf⟩
 ·rw [e]; exact I.funs
 ·rw [e]
  obtain ⟨m, hn, _⟩ := I.loc
  refine .cons (by rw [I.ok.kind]; decide) hf hn ?_ I.funs
  exact Heap.get?_none_of_le (Nat.le_trans I.ok.bsz I.ok.above)
theorem Inv.stkSub (I : Inv X pins σ H s) : ∀ b ∈ frs X.stack, b ∈ X.env.locals :: X.fs := fun b hb => by
 rcases I.ok.stk with e | ⟨e, hf⟩
 ·rw [e] at hb; exact List.mem_cons_of_mem _ hb
 ·rw [e] at hb
  unfold frs at hb
  rw [List.filterMap_cons, hf] at hb
  exact hb
theorem Inv.stkFree (I : Inv X pins σ H s) : ∀ b ∈ frs X.stack, H b = none := fun b hb => by
 rcases List.mem_cons.mp (I.stkSub b hb) with e | hb
 ·rw [e]; exact I.free
 ·obtain ⟨_, o, ho, _⟩ := I.ok.funs.mem hb
  exact I.base.free b o ho (I.ok.frf b hb) fun z => I.ok.exfs b z hb

theorem Inv.step {g' : Array GenState} {t' : Nat} {d' : Drawn} {ch : List Addr} (I : Inv X pins σ H s)
  (hch : ∀ b ∈ ch, (b ∈ X.ex ∨ X.s₀.heap.objs.size ≤ b) ∧ b ≠ X.env.locals ∧ (∀ x c, X.env.cells.lookup x = some c → c ≠ b) ∧ ∀ p ∈ X.pn ++ pins, p.1 ≠ b)
  (keep : ∀ b o, b ≠ X.env.locals → b ∉ X.fs → b ∉ ch → s.heap.get? b = some o → H b = none → h'.get? b = some o)
  (slot : ∀ b o, b ≠ X.env.locals → b ∈ X.fs → b ∉ ch → s.heap.get? b = some o → H b = none → ∃ sl, h'.get? b = some { o with slots := sl }) (free : ∀ b o, b ∉ ch → s.heap.get? b = some o → H b = none → H' b = none)
  (there : ∀ b o, b ∉ ch → s.heap.get? b = some o → ∃ o', h'.get? b = some o')
  (tups : ∀ b xs, H b = some (.tup xs) → H' b = some (.tup xs)) (frzs : ∀ b o u, H b = some (.frz o u) → H' b = some (.frz o u)) (tbls : ∀ b ps, H b = some (.tbl ps) → ∃ more, H' b = some (.tbl (ps ++ more)))
  (ns : ∀ m, s.heap.Ns X.env.locals m → h'.Ns X.env.locals m) (hok : HOk X.prog X.w H' h') (hg : AllBare g') :
  Inv X pins σ H' { s with heap := h', gens := g', drawn := d', toks := t' } := by
 have neL : ∀ b o, X.s₀.heap.get? b = some o → b ≠ X.env.locals := fun b o e => Nat.ne_of_lt (Nat.lt_of_lt_of_le (Heap.lt_size e) I.ok.above)
 have neC : ∀ b o, X.s₀.heap.get? b = some o → b ∉ X.ex → b ∉ ch := fun b o e hx hb => by
  rcases (hch b hb).1 with z | z
  ·exact hx z
  ·exact absurd (Nat.lt_of_lt_of_le (Heap.lt_size e) z) (Nat.lt_irrefl _)
 have cellK : ∀ x c, X.env.cells.lookup x = some c → ∀ v, s.heap.IsCell c v → h'.IsCell c v := fun x c e v ⟨o, ho, hd⟩ => by
  have nch : c ∉ ch := fun z => (hch c z).2.2.1 x c e rfl
  by_cases hc : c ∈ X.fs
  ·obtain ⟨sl, q⟩ := slot c o (I.cne x c e) hc nch ho (I.freeC x c e)
   exact ⟨_, q, hd⟩
  ·exact ⟨o, keep c o (I.cne x c e) hc nch ho (I.freeC x c e), hd⟩
 refine ⟨I.ok, I.os, hg, ⟨fun b o e n hb hx => ?_, fun b o e n hb hx => ?_, fun b o e n hx => ?_, fun b o e hx => ?_, fun b xs e => tups b xs (I.base.tups b xs e), fun b o xs e => frzs b o xs (I.base.frzs b o xs e), fun b ps e => ?_⟩, ?_, fun x c e => ?_, ?_, fun x c e => ?_, fun p hp => ?_, hok, I.len⟩
 ·exact keep b o (neL b o e) hb (neC b o e hx) (I.base.keep b o e n hb hx) (I.base.free b o e n hx)
 ·obtain ⟨sl, e1⟩ := I.base.slot b o e n hb hx
  obtain ⟨sl', e2⟩ := slot b _ (neL b o e) hb (neC b o e hx) e1 (I.base.free b o e n hx)
  exact ⟨sl', e2⟩
 ·obtain ⟨o', e1⟩ := I.base.there b o e hx
  exact free b o' (neC b o e hx) e1 (I.base.free b o e n hx)
 ·obtain ⟨o', e1⟩ := I.base.there b o e hx
  exact there b o' (neC b o e hx) e1
 ·obtain ⟨m1, e1⟩ := I.base.tbls b ps e
  obtain ⟨m2, e2⟩ := tbls b _ e1
  exact ⟨m1 ++ m2, by rw [e2, Array.append_assoc]⟩
 ·obtain ⟨m, hn, hl⟩ := I.loc
  refine ⟨m, ns m hn, fun i x v e1 e2 e3 => ?_⟩
  obtain ⟨u, r, l⟩ := hl i x v e1 e2 e3
  refine ⟨u, r, ?_⟩
  rcases l with l | ⟨k, c, e, z⟩
  ·exact .inl l
  ·exact .inr ⟨k, c, e, cellK x c e _ z⟩
 ·obtain ⟨v, z⟩ := I.cell x c e
  exact ⟨v, cellK x c e v z⟩
 ·obtain ⟨m, ⟨o, _, _, ho, _⟩, _⟩ := I.loc
  exact free _ o (fun z => (hch _ z).2.1 rfl) ho I.free
 ·obtain ⟨v, o, ho, hd⟩ := I.cell x c e
  exact free c o (fun z => (hch c z).2.2.1 x c e rfl) ho (I.freeC x c e)
 ·obtain ⟨e, n, ne, nf, d⟩ := I.pin p hp
  have nch : p.1 ∉ ch := fun z => (hch p.1 z).2.2.2 p hp rfl
  exact ⟨keep p.1 p.2 ne nf nch e n, free p.1 p.2 nch e n, ne, nf, d⟩
theorem Inv.un {t' : Nat} (I : Inv X pins σ H s) (u : Un X.fs [] H H' s.heap h') (hok : HOk X.prog X.w H' h') : Inv X pins σ H' { s with heap := h', toks := t' } := by
 obtain ⟨m, ⟨o, es, ep, ho, r⟩, _⟩ := id I.loc
 obtain ⟨sl, hL⟩ := u.any ho I.free (by simp)
 exact I.step (g' := s.gens) (d' := s.drawn) (ch := []) (fun _ z => nomatch z) (fun b o _ hb _ e n => u.keep b o e n hb (by simp)) (fun b o _ hb _ e n => u.slot b o e n hb (by simp)) (fun b o _ e n => u.free b o e n (by simp)) (fun b o _ e => u.there b o e (by simp)) u.tups u.frzs u.tbls (fun m' hm => by
  obtain ⟨o', es', ep', ho', r'⟩ := hm
  rw [ho] at ho'; cases ho'
  exact ⟨_, es', ep', hL, r'⟩) hok I.bare
theorem Inv.call {g' : Array GenState} {t' : Nat} {d' : Drawn} {ch : List Addr} (I : Inv X pins σ H s) (u : Un (frs X.stack) ch H H' s.heap h') (hok : HOk X.prog X.w H' h') (hg : AllBare g')
  (hch : ∀ b ∈ ch, (b ∈ X.ex ∨ X.s₀.heap.objs.size ≤ b) ∧ b ≠ X.env.locals ∧ (∀ x c, X.env.cells.lookup x = some c → c ≠ b) ∧ ∀ p ∈ X.pn ++ pins, p.1 ≠ b) :
  Inv X pins σ H' { s with heap := h', gens := g', drawn := d', toks := t' } := by
 obtain ⟨m, ⟨o, es, ep, ho, r⟩, _⟩ := id I.loc
 obtain ⟨sl, hL⟩ := u.any ho I.free fun z => (hch _ z).2.1 rfl
 exact I.step (ch := ch) hch (fun b o hL hb hc e n => u.keep b o e n (fun z => (List.mem_cons.mp (I.stkSub b z)).elim hL hb) hc) (fun b o _ _ hc e n => u.any e n hc) (fun b o hc e n => u.free b o e n hc) (fun b o hc e => u.there b o e hc) u.tups u.frzs u.tbls (fun m' hm => by
  obtain ⟨o', es', ep', ho', r'⟩ := hm
  rw [ho] at ho'; cases ho'
  exact ⟨_, es', ep', hL, r'⟩) hok hg
theorem Inv.turned {t' : Nat} {it : Addr} (I : Inv X pins σ H s) (k : ∀ b o, b ≠ it → s.heap.get? b = some o → h'.get? b = some o) (hn : H it = none) (hL : it ≠ X.env.locals)
  (h1 : it ∈ X.ex ∨ X.s₀.heap.objs.size ≤ it) (h2 : ∀ x c, X.env.cells.lookup x = some c → c ≠ it) (h3 : ∀ p ∈ X.pn ++ pins, p.1 ≠ it) : Inv X pins σ H { s with heap := h', toks := t' } := by
 have nit : ∀ b u, H b = some u → b ≠ it := fun b u e z => by rw [z, hn] at e; cases e
 refine I.step (g' := s.gens) (d' := s.drawn) (ch := [it]) (fun b hb => ?_) (fun b o _ _ hc e _ => k b o (fun z => hc (by simp [z])) e) (fun b o _ _ hc e _ => ⟨o.slots, k b o (fun z => hc (by simp [z])) e⟩) (fun _ _ _ _ n => n)
  (fun b o hc e => ⟨o, k b o (fun z => hc (by simp [z])) e⟩) (fun _ _ e => e) (fun _ _ _ e => e) (fun b ps e => ⟨#[], by rw [e]; simp⟩) (fun m hm => ?_) (fun b u e => ?_) I.bare
 ·have e : b = it := by simpa using hb
  subst e
  exact ⟨h1, hL, h2, h3⟩
 ·obtain ⟨o, es, ep, ho, r⟩ := hm
  exact ⟨o, es, ep, k _ o (Ne.symm hL) ho, r⟩
 ·refine (I.hok b u e).stay (fun c v hc q => k c v ?_ q) (fun _ q => q) fun _ _ q => q
  rcases hc with z | z
  ·rw [z]; exact nit b u e
  ·exact nit c _ z
theorem Inv.tok (I : Inv X pins σ H s) (t : Nat) : Inv X pins σ H { s with toks := t } := I.un (h' := s.heap) (t' := t) Un.refl I.hok
theorem Inv.kept {t' : Nat} (I : Inv X pins σ H s) (k : ∀ b u, s.heap.get? b = some u → h'.get? b = some u) : Inv X pins σ H { s with heap := h', toks := t' } := I.un (Un.kept k) (I.hok.kept k)
theorem Inv.laid {a : Addr} {o : HO} {t' : Nat} (I : Inv X pins σ H s) (k : ∀ b u, s.heap.get? b = some u → h'.get? b = some u) (hp : s.heap.objs.size ≤ a) (new : ObjOk X.prog X.w (upd H a o) h' a o) :
  Inv X pins σ (upd H a o) { s with heap := h', toks := t' } := I.un (Un.laid k hp (I.hok.fresh hp)) (I.hok.laid k hp new)
theorem Inv.write {x e : Addr} {o : HO} {t' : Nat} (I : Inv X pins σ H s) (mu : Mut (H x)) (he : e = x ∨ H e = some (.own x)) (k : ∀ b u, b ≠ e → s.heap.get? b = some u → h'.get? b = some u) (heo : ∃ u, h'.get? e = some u)
  (new : ObjOk X.prog X.w (upd H x o) h' x o) : Inv X pins σ (upd H x o) { s with heap := h', toks := t' } := I.un (Un.write mu he k heo) (I.hok.write mu he k heo new)
theorem Inv.weak {σ' : List (Option V)} (I : Inv X pins σ H s) (hl : σ'.length = σ.length) (w : ∀ (i : Nat) v, σ'[i]? = some (some v) → σ[i]? = some (some v)) : Inv X pins σ' H s :=
 ⟨I.ok, I.os, I.bare, I.base, let ⟨m, hn, hl'⟩ := I.loc; ⟨m, hn, fun i x v e1 e2 e3 => hl' i x v e1 (w i v e2) e3⟩, I.cell, I.free, I.freeC, I.pin, I.hok, hl.trans I.len⟩
theorem Inv.pins_of {pins' : List (Addr × Obj)} (I : Inv X pins σ H s) (h : ∀ p ∈ pins', s.heap.get? p.1 = some p.2 ∧ H p.1 = none ∧ p.1 ≠ X.env.locals ∧ p.1 ∉ X.fs ∧ ∀ v, p.2.data ≠ .cell v) : Inv X pins' σ H s :=
 ⟨I.ok, I.os, I.bare, I.base, I.loc, I.cell, I.free, I.freeC, fun p hp => (List.mem_append.mp hp).elim (fun z => I.pin p (List.mem_append_left _ z)) (h p), I.hok, I.len⟩

theorem nodup_ix {N : List Str} (hN : N.Nodup) {i j : Nat} {x : Str} (a : N[i]? = some x) (b : N[j]? = some x) : i = j := by
 obtain ⟨h1, e1⟩ := List.getElem?_eq_some_iff.mp a
 obtain ⟨h2, e2⟩ := List.getElem?_eq_some_iff.mp b
 exact (List.getElem_inj hN).mp (e1.trans e2.symm)

theorem store_ok2 {M : Model} {A : Around} {E : Value → Shared → Prop} {i : Nat} {x : Str} {v : V} {u : Value} {Q : Unit → Shared → Prop} (I : Inv X pins σ H s) (hN : X.N.Nodup) (hi : X.N[i]? = some x) (hx : Loc X.env.scope x) (r : RelV v u)
  (h : ∀ s', Inv X pins (σ.set i (some v)) H s' → (∃ a, Heap.SameBut a s.heap s'.heap ∧ (a = X.env.locals ∨ X.env.cells.lookup x = some a)) → Q () s') (hf : X.fn x = true ∨ X.env.scope.names.lookup x = some .local := by first | exact .inl rfl | exact .inr rfl | assumption) : wpAny M A (storeName X.env x u) Q E s := by
 obtain ⟨m, hn, hl⟩ := id I.loc
 have hcls : (X.env.scope.kind == .class || (X.env.scope.kind == .module && X.env.locals != X.env.globals)) = false := by rw [I.ok.kind]; rfl
 have hiσ : i < σ.length := by rw [I.len]; exact (List.getElem?_eq_some_iff.mp hi).1
 have cne := I.cne
 have tracked : ∀ {a : Addr} {h' : Heap}, (∃ o, s.heap.get? a = some o ∧ H a = none) → Heap.SameBut a s.heap h' → HOk X.prog X.w H h' := fun {a h'} ha hs b ob e => by
  obtain ⟨_, _, hfree⟩ := ha
  refine (I.hok b ob e).stay (fun c w' hc q => (hs.2 c ?_).trans q) (fun _ q => q) fun _ _ q => q
  rintro rfl
  rcases hc with rfl | hc
  ·rw [hfree] at e; cases e
  ·rw [hfree] at hc; cases hc
 rcases hx with hk | hk
 ·refine wpAny_storeName_local hk hn (fun h' hn' hs => ?_) hcls
  obtain ⟨oL, _, _, hoL, _⟩ := id hn
  refine h _ ⟨I.ok, I.os, I.bare, ⟨fun b o e n hb hx => ?_, fun b o e n hb hx => ?_, I.base.free, fun b o e hx => ?_, I.base.tups, I.base.frzs, I.base.tbls⟩, ⟨_, hn', fun j y v' e1 e2 e3 => ?_⟩, fun y c e => ?_, I.free, I.freeC, fun p hp => ?_, tracked ⟨oL, hoL, I.free⟩ hs, by simpa using I.len⟩ ⟨_, hs, .inl rfl⟩
  ·exact (hs.2 b (Nat.ne_of_lt (Nat.lt_of_lt_of_le (Heap.lt_size e) I.ok.above))).trans (I.base.keep b o e n hb hx)
  ·obtain ⟨sl, e1⟩ := I.base.slot b o e n hb hx
   exact ⟨sl, (hs.2 b (Nat.ne_of_lt (Nat.lt_of_lt_of_le (Heap.lt_size e) I.ok.above))).trans e1⟩
  ·obtain ⟨o', e1⟩ := I.base.there b o e hx
   exact ⟨o', (hs.2 b (Nat.ne_of_lt (Nat.lt_of_lt_of_le (Heap.lt_size e) I.ok.above))).trans e1⟩
  ·by_cases hj : j = i
   ·subst hj
    rw [hi] at e1; cases e1
    rw [List.getElem?_set_self hiσ] at e2
    cases e2
    exact ⟨u, r, .inl ⟨hk, by simp⟩⟩
   ·rw [List.getElem?_set_ne (Ne.symm hj)] at e2
    obtain ⟨u', r', q⟩ := hl j y v' e1 e2 e3
    refine ⟨u', r', ?_⟩
    rcases q with ⟨k, e⟩ | ⟨k, c, e, z⟩
    ·refine .inl ⟨k, ?_⟩
     have : y ≠ x := fun e => hj (nodup_ix hN e1 (e ▸ hi))
     simp [this, e]
    ·exact .inr ⟨k, c, e, z.sameBut hs (cne y c e)⟩
  ·obtain ⟨w', z⟩ := I.cell y c e
   exact ⟨w', z.sameBut hs (cne y c e)⟩
  ·obtain ⟨e, n, ne, nf, d⟩ := I.pin p hp
   exact ⟨(hs.2 p.1 ne).trans e, n, ne, nf, d⟩
 ·have hfn : X.fn x = true := by
   rcases hf with z | z
   ·exact z
   ·rw [z] at hk; cases hk
  obtain ⟨c, hc⟩ := I.ok.has x (.inl hk)
  obtain ⟨w', z⟩ := I.cell x c hc
  refine wpAny_storeName_cell I.ok.kind hk hc z (fun h' hc' hs => ?_)
  obtain ⟨oc, hoc, hocd⟩ := id z
  refine h { s with heap := h' } ⟨I.ok, I.os, I.bare, ⟨fun b o e n hb hx => ?_, fun b o e n hb hx => ?_, I.base.free, fun b o e hx => ?_, I.base.tups, I.base.frzs, I.base.tbls⟩, ⟨m, hn.sameBut hs (Ne.symm (cne x c hc)), fun j y v' e1 e2 e3 => ?_⟩, fun y c' e => ?_, I.free, I.freeC, fun p hp => ?_, tracked ⟨oc, hoc, I.freeC x c hc⟩ hs, by simpa using I.len⟩ ⟨c, hs, .inr hc⟩
  ·exact (hs.2 b (Nat.ne_of_lt (Nat.lt_of_lt_of_le (Heap.lt_size e) (I.ok.cab x c hfn hc)))).trans (I.base.keep b o e n hb hx)
  ·obtain ⟨sl, e1⟩ := I.base.slot b o e n hb hx
   exact ⟨sl, (hs.2 b (Nat.ne_of_lt (Nat.lt_of_lt_of_le (Heap.lt_size e) (I.ok.cab x c hfn hc)))).trans e1⟩
  ·obtain ⟨o', e1⟩ := I.base.there b o e hx
   exact ⟨o', (hs.2 b (Nat.ne_of_lt (Nat.lt_of_lt_of_le (Heap.lt_size e) (I.ok.cab x c hfn hc)))).trans e1⟩
  ·by_cases hj : j = i
   ·subst hj
    rw [hi] at e1; cases e1
    rw [List.getElem?_set_self hiσ] at e2
    cases e2
    exact ⟨u, r, .inr ⟨.inl hk, c, hc, hc'⟩⟩
   ·rw [List.getElem?_set_ne (Ne.symm hj)] at e2
    obtain ⟨u', r', q⟩ := hl j y v' e1 e2 e3
    refine ⟨u', r', ?_⟩
    rcases q with q | ⟨k, c', e, z'⟩
    ·exact .inl q
    ·refine .inr ⟨k, c', e, z'.sameBut hs ?_⟩
     rintro rfl
     exact hj (nodup_ix hN e1 (I.ok.inj _ _ _ e hc ▸ hi))
  ·by_cases hcc : c' = c
   ·subst hcc; exact ⟨_, hc'⟩
   ·obtain ⟨w2, z2⟩ := I.cell y c' e
    exact ⟨w2, z2.sameBut hs hcc⟩
  ·obtain ⟨e, n, ne, nf, d⟩ := I.pin p hp
   refine ⟨(hs.2 p.1 ?_).trans e, n, ne, nf, d⟩
   intro q
   rw [q, hoc] at e
   have q' : oc = p.2 := Option.some.inj e
   exact d w' (by rw [← q']; exact hocd)
theorem store_ok {M : Model} {A : Around} {E : Value → Shared → Prop} {i : Nat} {x : Str} {v : V} {u : Value} {Q : Unit → Shared → Prop} (I : Inv X pins σ H s) (hN : X.N.Nodup) (hi : X.N[i]? = some x) (hx : Loc X.env.scope x) (r : RelV v u)
  (h : ∀ s', Inv X pins (σ.set i (some v)) H s' → Q () s') (hf : X.fn x = true ∨ X.env.scope.names.lookup x = some .local := by first | exact .inl rfl | exact .inr rfl | assumption) : wpAny M A (storeName X.env x u) Q E s :=
 store_ok2 I hN hi hx r (fun s' I' _ => h s' I') hf
theorem Inv.call' {s' : Shared} {ch : List Addr} (I : Inv X pins σ H s) (ho : s'.os = s.os) (u : Un (frs X.stack) ch H H' s.heap s'.heap) (hok : HOk X.prog X.w H' s'.heap) (hg : AllBare s'.gens)
  (hch : ∀ b ∈ ch, (b ∈ X.ex ∨ X.s₀.heap.objs.size ≤ b) ∧ b ≠ X.env.locals ∧ (∀ x c, X.env.cells.lookup x = some c → c ≠ b) ∧ ∀ p ∈ X.pn ++ pins, p.1 ≠ b) : Inv X pins σ H' s' := by
 obtain ⟨h', g', d', t', o'⟩ := s'
 have e : o' = s.os := ho
 subst e
 exact I.call (g' := g') (t' := t') (d' := d') u hok hg hch
end

noncomputable abbrev XK := Value → Option Addr → Hp → Prop
noncomputable abbrev St := List (Option V)
noncomputable abbrev VK := V → Hp → Prop
noncomputable abbrev TE := St → Hp → VK → Prop
noncomputable abbrev TT := St → Hp → (Bool → Hp → Prop) → Prop
noncomputable abbrev TA := St → Hp → (List V → Hp → Prop) → Prop
structure Ends where
 nx : St → Hp → Prop
 rt : VK
 bk : St → Hp → Prop := fun _ _ => False
 ct : St → Hp → Prop := fun _ _ => False
noncomputable abbrev TS := Ends → St → Hp → Prop

noncomputable def EP (X : Cx) (pins : List (Addr × Obj)) (σ : St) (Q : VK) (u : Value) (s' : Shared) : Prop := ∃ v H', Inv X pins σ H' s' ∧ RelV v u ∧ Q v H'
noncomputable def TP (X : Cx) (pins : List (Addr × Obj)) (σ : St) (Q : Bool → Hp → Prop) (b : Bool) (s' : Shared) : Prop := ∃ H', Inv X pins σ H' s' ∧ Q b H'
noncomputable def AP (X : Cx) (pins : List (Addr × Obj)) (σ : St) (Q : List V → Hp → Prop) (us : List Value) (s' : Shared) : Prop := ∃ vs H', Inv X pins σ H' s' ∧ Vals vs us ∧ Q vs H'
noncomputable def SP (X : Cx) (pins : List (Addr × Obj)) (D : Ends) (f : Flow) (s' : Shared) : Prop :=
 match f with
 | .next => ∃ σ' H', Inv X pins σ' H' s' ∧ D.nx σ' H'
 | .brk => ∃ σ' H', Inv X pins σ' H' s' ∧ D.bk σ' H'
 | .cont => ∃ σ' H', Inv X pins σ' H' s' ∧ D.ct σ' H'
 | .ret u => ∃ v σ' H', Inv X pins σ' H' s' ∧ RelV v u ∧ D.rt v H'

noncomputable def PE (X : Cx) (e : Expr) (t : TE) : Prop :=
 ∀ (pins : List (Addr × Obj)) (s : Shared) (σ : St) (H : Hp) (Q : VK), Inv X pins σ H s → t σ H Q → wpAny (model X.prog X.w) X.A (eval e X.env) (EP X pins σ Q) X.xe s
noncomputable def PT (X : Cx) (e : Expr) (t : TT) : Prop :=
 ∀ (pins : List (Addr × Obj)) (s : Shared) (σ : St) (H : Hp) (Q : Bool → Hp → Prop), Inv X pins σ H s → t σ H Q → wpAny (model X.prog X.w) X.A (isTrue e X.env (eval e X.env)) (TP X pins σ Q) X.xe s
noncomputable def PW (X : Cx) (e : Expr) (t : TT) : Prop :=
 ∀ (whole : Sem Value) (pins : List (Addr × Obj)) (s : Shared) (σ : St) (H : Hp) (Q : Bool → Hp → Prop), Inv X pins σ H s → t σ H Q → wpAny (model X.prog X.w) X.A (isTrue e X.env whole) (TP X pins σ Q) X.xe s
theorem PW.pt {X : Cx} {e : Expr} {t : TT} (h : PW X e t) : PT X e t := h _
noncomputable def PA (X : Cx) (es : List Expr) (t : TA) : Prop :=
 ∀ (pos : Pos) (pins : List (Addr × Obj)) (s : Shared) (σ : St) (H : Hp) (Q : List V → Hp → Prop), Inv X pins σ H s → t σ H Q → wpAny (model X.prog X.w) X.A (spliced (backTo pos (starEach es X.env))) (AP X pins σ Q) X.xe s
noncomputable def PS (X : Cx) (st : Stmt) (t : TS) : Prop :=
 ∀ (pins : List (Addr × Obj)) (s : Shared) (σ : St) (H : Hp) (D : Ends), Inv X pins σ H s → t D σ H → wpAny (model X.prog X.w) X.A (exec st X.env) (SP X pins D) X.xe s
noncomputable def PSs (X : Cx) (st : List Stmt) (t : TS) : Prop :=
 ∀ (pins : List (Addr × Obj)) (s : Shared) (σ : St) (H : Hp) (D : Ends), Inv X pins σ H s → t D σ H → wpAny (model X.prog X.w) X.A (execs st X.env) (SP X pins D) X.xe s
theorem thn {α : Type} {t : Sem α} {Q Q' : α → Shared → Prop} {M : Model} {A : Around} {E : Value → Shared → Prop} {s : Shared} (h : wpAny M A t Q E s) (hQ : ∀ a s, Q a s → Q' a s) : wpAny M A t Q' E s := wpAny_mono h hQ fun _ _ x => x
end L2

namespace L2
open PySem PySem.Spec PyProof.Rows
section
variable {X : Cx}

noncomputable def tVar (i : Nat) : TE := fun σ H Q => ∃ v, σ[i]? = some (some v) ∧ Q v H
noncomputable def tC (v : V) : TE := fun _ H Q => Q v H
theorem pe_var {i : Nat} {x : Str} {pos : Pos} (hN : X.N[i]? = some x) (hv : Vis X.env.scope x) (hd : (x == ("__debug__" : Str)) = false := by decide) (hcd : (x == ("__classdict__" : Str)) = false := by decide) : PE X (.Name x pos) (tVar i) := by
 intro pins s σ H Q I h
 obtain ⟨v, e, h⟩ := h
 obtain ⟨m, hn, hl⟩ := I.loc
 obtain ⟨u, r, l⟩ := hl i x v hN e hv
 have fin : EP X pins σ Q u s := ⟨v, H, I, r, h⟩
 rcases l with ⟨hk, hm⟩ | ⟨hk, c, hc, hcell⟩
 ·exact wpAny_Name (wpAny_loadName_local I.ok.kind hk hn hm fin) hd
 ·rcases hk with hk | hk
  ·exact wpAny_Name (wpAny_loadName_cell I.ok.kind hk hc hcell fin) hd
  ·exact wpAny_Name (wpAny_loadName_free I.ok.kind hk hc hcell fin hcd) hd
theorem qF {i j pos} : PE X (.Constant (.int i) j pos) (tC (.int i)) := fun _ _ _ H _ I h => wpAny_Constant_int ⟨.int i, H, I.tok _, ⟨_, rfl⟩, h⟩
theorem pe_bl {b j pos} : PE X (.Constant (.bool b) j pos) (tC (.bl b)) := fun _ _ _ H _ I h => Constant_bool ⟨.bl b, H, I, rfl, h⟩
theorem qG {x j pos} : PE X (.Constant (.str x) j pos) (tC (.str x)) := fun _ _ _ H _ I h => Calls.Constant_str ⟨.str x, H, I.tok _, ⟨_, rfl⟩, h⟩

noncomputable def Gl (X : Cx) (x : Str) : Prop := X.env.kindOf x = some .globalImplicit
theorem ld_glob {E : Value → Shared → Prop} {pins : List (Addr × Obj)} {s : Shared} {σ : St} {H : Hp} {x : Str} {u : Value} {pos : Pos} {Q : Value → Shared → Prop} (I : Inv X pins σ H s) (hg : Gl X x) (hm : X.mg x = some u) (h : Q u s)
  (hd : (x == ("__debug__" : Str)) = false := by decide) : wpAny (model X.prog X.w) X.A (eval (.Name x pos) X.env) Q E s :=
 Calls.Name_function_global I.ok.kind hg (Calls.loadGlobal_global (by rw [I.ok.glob]; exact I.mod.glob.keeps I.bk) hm h) hd
theorem ld_blt {E : Value → Shared → Prop} {pins : List (Addr × Obj)} {s : Shared} {σ : St} {H : Hp} {x : Str} {u : Value} {pos : Pos} {Q : Value → Shared → Prop} (I : Inv X pins σ H s) (hg : Gl X x) (hm : X.mg x = none) (hv : bootBuiltins x = some u) (h : Q u s)
  (hn : x ≠ "__name__" := by decide) (hd : (x == ("__debug__" : Str)) = false := by decide) : wpAny (model X.prog X.w) X.A (eval (.Name x pos) X.env) Q E s := by
 obtain ⟨mb, h1, h2⟩ := I.mod.blt
 exact Calls.Name_function_global I.ok.kind hg (Calls.loadGlobal_builtin (by rw [I.ok.glob]; exact I.mod.glob.keeps I.bk) hm (by rw [I.ok.blt]; exact h1.keeps I.bk) ((h2 x hn).trans hv) h) hd
theorem pe_glob {x : Str} {v : V} {u : Value} {pos : Pos} (hg : Gl X x) (hm : X.mg x = some u) (r : RelV v u) (hd : (x == ("__debug__" : Str)) = false := by decide) : PE X (.Name x pos) (tC v) :=
 fun _ _ _ H _ I h => ld_glob I hg hm ⟨v, H, I, r, h⟩ hd
theorem pe_bltn {x : Str} {v : V} {u : Value} {pos : Pos} (hg : Gl X x) (hm : X.mg x = none) (hv : bootBuiltins x = some u) (r : RelV v u) (hn : x ≠ "__name__" := by decide) (hd : (x == ("__debug__" : Str)) = false := by decide) : PE X (.Name x pos) (tC v) :=
 fun _ _ _ H _ I h => ld_blt I hg hm hv ⟨v, H, I, r, h⟩ hn hd

variable {a b : Expr} {ta tb : TE} {pos : Pos}
noncomputable def tB (t : TE) : TT := fun σ H Q => t σ H fun x H1 => ∃ c, x = .bl c ∧ Q c H1
theorem pt_val {e : Expr} {t : TE} (h : PE X e t) (he : ∀ whole, isTrue e X.env whole = (do let v ← whole; standAt e.pos; holding [v] (truthy v)) := by intro _; rfl) : PT X e (tB t) := by
 intro pins s σ H Q I hw
 refine isTrue_plain (thn (h pins s σ H _ I hw) fun v s1 ⟨x, H1, I1, r1, q1⟩ => ?_) (he _)
 obtain ⟨d, rfl, q⟩ := q1
 cases r1
 exact wpAny_truthy_bool ⟨H1, I1, q⟩

variable {tA tB' : TT} {rest : List Expr}
noncomputable def tAnd (t u : TT) : TT := fun σ H Q => t σ H fun c H1 => if c = true then u σ H1 Q else Q false H1
noncomputable def tOr (t u : TT) : TT := fun σ H Q => t σ H fun c H1 => if c = true then Q true H1 else u σ H1 Q
noncomputable def tNot (t : TT) : TT := fun σ H Q => t σ H fun c H1 => Q (!c) H1
theorem pw_and1 (ha : PT X a tA) : PW X (.BoolOp .And [a] pos) tA := by
 intro wh pins s σ H Q I h
 refine isTrue_and (thn (ha pins s σ H Q I h) fun c s1 e => ?_)
 cases c with
 | true => exact isTrue_and_nil e
 | false => exact e
theorem pw_or1 (ha : PT X a tA) : PW X (.BoolOp .Or [a] pos) tA := by
 intro wh pins s σ H Q I h
 refine isTrue_or (thn (ha pins s σ H Q I h) fun c s1 e => ?_)
 cases c with
 | false => exact isTrue_or_nil e
 | true => exact e
theorem pw_and (ha : PT X a tA) (hb : PW X (.BoolOp .And (b :: rest) pos) tB') : PW X (.BoolOp .And (a :: b :: rest) pos) (tAnd tA tB') := by
 intro wh pins s σ H Q I h
 refine isTrue_and (thn (ha pins s σ H _ I h) fun c s1 ⟨H1, I1, q1⟩ => ?_)
 cases c with
 | true => exact hb wh pins s1 σ H1 Q I1 q1
 | false => exact ⟨H1, I1, q1⟩
theorem pw_or (ha : PT X a tA) (hb : PW X (.BoolOp .Or (b :: rest) pos) tB') : PW X (.BoolOp .Or (a :: b :: rest) pos) (tOr tA tB') := by
 intro wh pins s σ H Q I h
 refine isTrue_or (thn (ha pins s σ H _ I h) fun c s1 ⟨H1, I1, q1⟩ => ?_)
 cases c with
 | true => exact ⟨H1, I1, q1⟩
 | false => exact hb wh pins s1 σ H1 Q I1 q1
theorem pt_not (ha : PT X a tA) : PT X (.UnaryOp .Not a pos) (tNot tA) := by
 intro pins s σ H Q I h
 exact isTrue_not (ha pins s σ H (fun c H1 => Q (!c) H1) I h)
noncomputable def tAndV (ta tb : TE) : TE := fun σ H Q => ta σ H fun x H1 => ∃ c, x = .bl c ∧ if c = true then tb σ H1 Q else Q (.bl false) H1
noncomputable def tNotV (ta : TE) : TE := fun σ H Q => ta σ H fun x H1 => ∃ c, x = .bl c ∧ Q (.bl (!c)) H1
theorem pe_one {op} {t : TE} (h : PE X a t) : PE X (.BoolOp op [a] pos) t := fun pins s σ H Q I hw => BoolOp_one (h pins s σ H Q I hw)
theorem pe_and (ha : PE X a ta) (hb : PE X (.BoolOp .And (b :: rest) pos) tb) : PE X (.BoolOp .And (a :: b :: rest) pos) (tAndV ta tb) := by
 intro pins s σ H Q I h
 refine BoolOp_and (thn (ha pins s σ H _ I h) fun v s1 ⟨x, H1, I1, r1, q1⟩ => ?_)
 obtain ⟨c, rfl, q1⟩ := q1
 cases r1
 refine wpAny_truthy_bool ?_
 cases c with
 | true => exact hb pins s1 σ H1 Q I1 q1
 | false => exact ⟨.bl false, H1, I1, rfl, q1⟩
theorem pe_not (ha : PE X a ta) : PE X (.UnaryOp .Not a pos) (tNotV ta) := by
 intro pins s σ H Q I h
 refine UnaryOp_ (thn (ha pins s σ H _ I h) fun v s1 ⟨x, H1, I1, r1, q1⟩ => ?_)
 obtain ⟨c, rfl, q1⟩ := q1
 cases r1
 exact not_of (wpAny_truthy_bool ⟨.bl (!c), H1, I1, rfl, q1⟩)
noncomputable def tIf (t : TT) (ta tb : TE) : TE := fun σ H Q => t σ H fun c H1 => if c = true then ta σ H1 Q else tb σ H1 Q
theorem pe_ifExp {c : Expr} (hc : PT X c tA) (ha : PE X a ta) (hb : PE X b tb) : PE X (.IfExp c a b pos) (tIf tA ta tb) := by
 intro pins s σ H Q I h
 refine wpAny_IfExp (thn (hc pins s σ H _ I h) fun d s1 ⟨H1, I1, q1⟩ => ?_)
 cases d with
 | true => exact ha pins s1 σ H1 Q I1 q1
 | false => exact hb pins s1 σ H1 Q I1 q1
end
end L2

namespace L2
open PySem PySem.Spec PyProof.Rows

noncomputable def SqL (K : PySem.W.Frag) (H : Hp) (a : Addr) (xs : List V) : Prop :=
 Rd H a (.lst xs) ∨
  ∃ (o : Obj) (its : Array Value) (n : Nat), K.lookup a = some o ∧ o.cls = .type "list" ∧ o.dict = none ∧ o.data = .seq its n ∧ its.size ≤ sizeLine ∧ Vals xs its.toList
noncomputable def SqT (K : PySem.W.Frag) (H : Hp) (a : Addr) (xs : List V) : Prop :=
 Rd H a (.tup xs) ∨
  ∃ (o : Obj) (its : Array Value) (n : Nat), K.lookup a = some o ∧ o.cls = .type "tuple" ∧ o.data = .seq its n ∧ its.size ≤ sizeLine ∧ Vals xs its.toList
noncomputable def absV : Value → Option V
 | .none => some .non
 | .bool b => some (.bl b)
 | .int i _ => some (.int i)
 | .str x _ => some (.str x)
 | .bytes b _ => some (.byt b)
 | .float b _ => some (.flt b)
 | .ref a => some (.ref a)
 | .type n => some (.ty n)
 | _ => none
theorem RelV.abs {x : V} {u : Value} (r : RelV x u) : absV u = some x := by
 cases x with
 | non => cases r; rfl
 | bl _ => cases r; rfl
 | int _ => obtain ⟨t, rfl⟩ := r; rfl
 | str _ => obtain ⟨t, rfl⟩ := r; rfl
 | byt _ => obtain ⟨t, rfl⟩ := r; rfl
 | flt _ => obtain ⟨t, rfl⟩ := r; rfl
 | ref _ => cases r; rfl
 | ty _ => cases r; rfl
theorem RelV.inj {x y : V} {u : Value} (r : RelV x u) (q : RelV y u) : x = y := Option.some.inj (r.abs.symm.trans q.abs)
theorem Vals.inj {xs ys : List V} {us : List Value} (h : Vals xs us) (h' : Vals ys us) : xs = ys := by
 induction h generalizing ys with
 | nil => cases h'; rfl
 | cons r _ ih =>
  cases h' with
  | cons r' t' => rw [r.inj r', ih t']
section
variable {X : Cx} {pins : List (Addr × Obj)} {σ : St} {H : Hp} {s : Shared} {a : Addr} {xs ys : List V}
theorem SqL.of {K : PySem.W.Frag} (h : H a = some (.lst xs)) : SqL K H a xs := .inl (.inl h)
theorem SqT.of {K : PySem.W.Frag} (h : H a = some (.tup xs)) : SqT K H a xs := .inl (.inl h)
theorem Inv.list (I : Inv X pins σ H s) (h : SqL X.K H a xs) : ∃ its : List Value, Vals xs its ∧ PlainL s.heap a its.toArray ∧ xs.length ≤ sizeLine := by
 rcases h with h | ⟨o, its, n, hk, hc, hd, hs, hz, r⟩
 ·obtain ⟨z, its, n, r, e⟩ := h.ok I.hok
  exact ⟨its, r, ⟨_, n, e, rfl, rfl, rfl⟩, z⟩
 ·refine ⟨its.toList, r, ⟨o, n, I.kIn a o hk, hc, hd, by simpa using hs⟩, ?_⟩
  have e := r.length
  simp only [Array.length_toList] at e
  omega
theorem Inv.tuple (I : Inv X pins σ H s) (h : SqT X.K H a xs) : ∃ its : List Value, Vals xs its ∧ IsTup s.heap a its.toArray ∧ xs.length ≤ sizeLine := by
 rcases h with h | ⟨o, its, n, hk, hc, hs, hz, r⟩
 ·obtain ⟨z, its, r, p⟩ := h.ok I.hok
  exact ⟨its, r, p.tup, z⟩
 ·refine ⟨its.toList, r, ⟨o, I.kIn a o hk, hc, n, by simpa using hs⟩, ?_⟩
  have e := r.length
  simp only [Array.length_toList] at e
  omega
theorem Inv.list_inj (I : Inv X pins σ H s) (h : SqL X.K H a xs) (h' : SqL X.K H a ys) : xs = ys := by
 obtain ⟨its, r, ⟨o, n, e, _, _, d⟩, _⟩ := I.list h
 obtain ⟨its', r', ⟨o', n', e', _, _, d'⟩, _⟩ := I.list h'
 rw [e] at e'; cases e'
 rw [d] at d'
 injection d' with d1 _
 have : its = its' := by simpa using congrArg Array.toList d1
 subst this
 exact r.inj r'
theorem Inv.tuple_inj (I : Inv X pins σ H s) (h : SqT X.K H a xs) (h' : SqT X.K H a ys) : xs = ys := by
 obtain ⟨its, r, ⟨o, e, _, n, d⟩, _⟩ := I.tuple h
 obtain ⟨its', r', ⟨o', e', _, n', d'⟩, _⟩ := I.tuple h'
 rw [e] at e'; cases e'
 rw [d] at d'
 injection d' with d1 _
 have : its = its' := by simpa using congrArg Array.toList d1
 subst this
 exact r.inj r'
end

noncomputable abbrev Cx.wish (X : Cx) (E : Value → Shared → Prop) : Cx := { X with xe := E }
noncomputable abbrev Cx.nox (X : Cx) : Cx := X.wish fun _ _ => False
theorem Cx.Ok.wish {X : Cx} (ok : X.Ok) (E : Value → Shared → Prop) : (X.wish E).Ok :=
 ⟨ok.mod, ok.kind, ok.glob, ok.blt, ok.above, ok.inj, ok.has, ok.cab, ok.hd, ok.frames, ok.stk, ok.exf, ok.bs, ok.bsz, ok.noex, ok.exfs, ok.funs, ok.frf⟩
theorem Cx.Ok.unwish {X : Cx} {E : Value → Shared → Prop} (ok : (X.wish E).Ok) : X.Ok :=
 ⟨ok.mod, ok.kind, ok.glob, ok.blt, ok.above, ok.inj, ok.has, ok.cab, ok.hd, ok.frames, ok.stk, ok.exf, ok.bs, ok.bsz, ok.noex, ok.exfs, ok.funs, ok.frf⟩
section
variable {X : Cx} {pins : List (Addr × Obj)} {σ : St} {H : Hp} {s : Shared} {E : Value → Shared → Prop}
theorem Inv.wish (I : Inv X pins σ H s) (E : Value → Shared → Prop) : Inv (X.wish E) pins σ H s := ⟨I.ok.wish E, I.os, I.bare, I.base, I.loc, I.cell, I.free, I.freeC, I.pin, I.hok, I.len⟩
theorem Inv.unwish (I : Inv (X.wish E) pins σ H s) : Inv X pins σ H s := ⟨I.ok.unwish, I.os, I.bare, I.base, I.loc, I.cell, I.free, I.freeC, I.pin, I.hok, I.len⟩
theorem SP.unwish {D : Ends} {f : Flow} {s' : Shared} (h : SP (X.wish E) pins D f s') : SP X pins D f s' := by
 cases f with
 | next => obtain ⟨σ', H', I, q⟩ := h; exact ⟨σ', H', I.unwish, q⟩
 | brk => obtain ⟨σ', H', I, q⟩ := h; exact ⟨σ', H', I.unwish, q⟩
 | cont => obtain ⟨σ', H', I, q⟩ := h; exact ⟨σ', H', I.unwish, q⟩
 | ret u => obtain ⟨v, σ', H', I, r, q⟩ := h; exact ⟨v, σ', H', I.unwish, r, q⟩
theorem PSs.nox {st : List Stmt} {t : TS} (h : PSs X.nox st t) : PSs X st t := fun pins s σ H D I hw =>
 wpAny_mono (h pins s σ H D (I.wish _) hw) (fun _ _ q => q.unwish) fun _ _ z => False.elim z
end

section
variable {X : Cx} {st : Stmt} {rest : List Stmt} {t u : TS} {e : Expr} {te : TE} {pos : Pos}
noncomputable def tNext : TS := fun D σ H => D.nx σ H
noncomputable def tSeq (t u : TS) : TS := fun D σ H => t { D with nx := u D } σ H
theorem qY : PSs X [] tNext := fun _ _ σ H _ I h => wpAny_execs_nil ⟨σ, H, I, h⟩
theorem qZ (h1 : PS X st t) (h2 : PSs X rest u) : PSs X (st :: rest) (tSeq t u) := by
 intro pins s σ H D I h
 refine wpAny_execs_cons (thn (h1 pins s σ H { D with nx := u D } I h) fun f s1 q => ?_)
 cases f with
 | next =>
  obtain ⟨σ', H', I', q⟩ := q
  exact h2 pins s1 σ' H' D I' q
 | ret v => exact q
 | brk => exact q
 | cont => exact q
theorem qJ (h1 : PS X st t) : PSs X [st] t := by
 intro pins s σ H D I h
 refine wpAny_execs_cons (thn (h1 pins s σ H D I h) fun f s1 q => ?_)
 cases f with
 | next => exact wpAny_execs_nil q
 | ret v => exact q
 | brk => exact q
 | cont => exact q
theorem Inv.quiet {pins : List (Addr × Obj)} {σ : St} {H : Hp} {s : Shared} (I : Inv X pins σ H s) : interactive X.env = false := by simp [interactive, I.ok.kind]
noncomputable def tDrop (te : TE) : TS := fun D σ H => te σ H fun _ H1 => D.nx σ H1
theorem qR (he : PE X e te) (hs : swapsWith e none pos.line X.env = pure false := by rfl) : PS X (.Expr e pos) (tDrop te) := by
 intro pins s σ H D I h
 exact wpAny_Expr_any (thn (he pins s σ H _ I h) fun v s1 ⟨x, H1, I1, r1, q1⟩ => ⟨σ, H1, I1, q1⟩) I.quiet hs
noncomputable def tRet (te : TE) : TS := fun D σ H => te σ H D.rt
theorem qO (he : PE X e te) : PS X (.Return (some e) pos) (tRet te) := by
 intro pins s σ H D I h
 exact wpAny_Return_some (thn (he pins s σ H _ I h) fun v s1 ⟨x, H1, I1, r1, q1⟩ => ⟨x, σ, H1, I1, r1, q1⟩)
noncomputable def tRetN : TS := fun D _ H => D.rt .non H
theorem ps_retN : PS X (.Return none pos) tRetN := fun _ _ σ H _ I h => wpAny_Return_none ⟨.non, σ, H, I, rfl, h⟩
noncomputable def tIfS (c : TT) (t u : TS) : TS := fun D σ H => c σ H fun b H1 => if b = true then t D σ H1 else u D σ H1
theorem ps_if {c : Expr} {a b : List Stmt} {tc : TT} (hc : PT X c tc) (ha : PSs X a t) (hb : PSs X b u) : PS X (.If c a b pos) (tIfS tc t u) := by
 intro pins s σ H D I h
 refine wpAny_If (thn (hc pins s σ H _ I h) fun d s1 ⟨H1, I1, q1⟩ => ?_)
 cases d with
 | true => exact ha pins s1 σ H1 D I1 q1
 | false => exact hb pins s1 σ H1 D I1 q1
noncomputable def tNever : TS := fun _ _ _ => False
theorem ps_never : PS X st tNever := fun _ _ _ _ _ _ h => h.elim
end

noncomputable abbrev TG := V → St → Hp → (St → Hp → Prop) → Prop
noncomputable abbrev TGs := List V → St → Hp → (St → Hp → Prop) → Prop
noncomputable def PG (X : Cx) (target : Expr) (t : TG) : Prop :=
 ∀ (pins : List (Addr × Obj)) (s : Shared) (σ : St) (H : Hp) (v : V) (u : Value) (Q : St → Hp → Prop), Inv X pins σ H s → RelV v u → t v σ H Q →
  wpAny (model X.prog X.w) X.A (assign target X.env u) (fun _ s' => ∃ σ' H', Inv X pins σ' H' s' ∧ Q σ' H') X.xe s
noncomputable def PGs (X : Cx) (ts : List Expr) (t : TGs) : Prop :=
 ∀ (pins : List (Addr × Obj)) (s : Shared) (σ : St) (H : Hp) (vs : List V) (us : List Value) (Q : St → Hp → Prop), Inv X pins σ H s → Vals vs us → t vs σ H Q →
  wpAny (model X.prog X.w) X.A (assignInOrder ((assignEach ts X.env).map (·.2)) us) (fun _ s' => ∃ σ' H', Inv X pins σ' H' s' ∧ Q σ' H') X.xe s
noncomputable abbrev TSet := V → V → V → Hp → (Hp → Prop) → Prop
noncomputable def PSet (X : Cx) (t : TSet) : Prop :=
 ∀ (pins : List (Addr × Obj)) (s : Shared) (σ : St) (H : Hp) (o i v : V) (ov iv u : Value) (Q : Hp → Prop), Inv X pins σ H s → RelV o ov → RelV i iv → RelV v u → t o i v H Q →
  wpAny (model X.prog X.w) X.A (setItem ov iv u) (fun _ s' => ∃ H', Inv X pins σ H' s' ∧ Q H') X.xe s
section
variable {X : Cx} {pos : Pos}
noncomputable def gName (i : Nat) : TG := fun v σ H Q => Q (σ.set i (some v)) H
theorem qH {i : Nat} {x : Str} (hN : X.N.Nodup) (hi : X.N[i]? = some x) (hx : Loc X.env.scope x) (hf : X.fn x = true ∨ X.env.scope.names.lookup x = some .local := by first | exact .inl rfl | exact .inr rfl | assumption) : PG X (.Name x pos) (gName i) := by
 intro pins s σ H v u Q I r h
 exact wpAny_assign_Name (store_ok I hN hi hx r (fun s' I' => ⟨_, H, I', h⟩) hf)
noncomputable def gNil : TGs := fun vs σ H Q => vs = [] ∧ Q σ H
noncomputable def gCons (t : TG) (u : TGs) : TGs := fun vs σ H Q => ∃ v r, vs = v :: r ∧ t v σ H fun σ' H' => u r σ' H' Q
theorem qM : PGs X [] gNil := by
 intro pins s σ H vs us Q I r h
 obtain ⟨e, h⟩ := h
 subst e
 cases r
 exact assignInOrder_nil ⟨σ, H, I, h⟩
theorem qI {e : Expr} {es : List Expr} {t : TG} {u : TGs} (h1 : PG X e t) (h2 : PGs X es u)
  (hs : (assignEach (e :: es) X.env).map (·.2) = assign e X.env :: (assignEach es X.env).map (·.2) := by rfl) : PGs X (e :: es) (gCons t u) := by
 intro pins s σ H vs us Q I r h
 obtain ⟨v, vr, e1, h⟩ := h
 subst e1
 cases r with
 | cons r rr =>
  rw [hs]
  refine assignInOrder_cons (thn (h1 pins s σ H _ _ _ I r h) fun _ s1 ⟨σ1, H1, I1, q1⟩ => ?_)
  exact h2 pins s1 σ1 H1 _ _ Q I1 rr q1
noncomputable def gTup (K : PySem.W.Frag) (n : Nat) (t : TGs) : TG := fun v σ H Q => ∃ a xs, v = .ref a ∧ SqT K H a xs ∧ xs.length = n ∧ t xs σ H Q
theorem pg_tup {es : List Expr} {k : Nat} {t : TGs} {n : Nat} (hc : X.calm = true) (h : PGs X es t)
  (hn : (assignEach es X.env).length = n := by rfl) (hst : (assignEach es X.env).findIdx? (·.1) = none := by rfl) : PG X (.Tuple es k pos) (gTup X.K n t) := by
 intro pins s σ H v u Q I r hw
 obtain ⟨a, xs, e1, hq, hl, hw⟩ := hw
 subst e1
 cases r
 obtain ⟨its, rv, ht, hz⟩ := I.tuple hq
 refine assign_Tuple_tuple (I.ok.hd hc) ht (by simp [hn, ← hl, rv.length]) hst fun h' hx => ?_
 have I1 : Inv X pins σ H { s with heap := h' } := I.kept (t' := s.toks) fun b o e => hx b o (Nat.ne_of_lt (Heap.lt_size e)) e
 exact h pins _ σ H xs _ Q I1 (by simpa using rv) hw
noncomputable def gSub (to ti : TE) (t : TSet) : TG := fun v σ H Q => to σ H fun o H1 => ti σ H1 fun i H2 => t o i v H2 fun H3 => Q σ H3
theorem pg_sub {o i : Expr} {to ti : TE} {t : TSet} (ho : PE X o to) (hi : PE X i ti) (hs : PSet X t)
  (ha : ∀ v, assign (.Subscript o i pos) X.env v = (do
   let ov ← holding [v] (eval o X.env)
   let iv ← holding [v, ov] (eval i X.env)
   standAt pos
   holding [v, ov, iv] (setItem ov iv v)
   release [v, ov, iv] []) := by intro _; rfl) : PG X (.Subscript o i pos) (gSub to ti t) := by
 intro pins s σ H v u Q I r h
 rw [ha]
 refine wpAny_bind (wpAny_holding (thn (ho pins s σ H _ I h) fun ov s1 ⟨x, H1, I1, r1, q1⟩ => ?_))
 refine wpAny_bind (wpAny_holding (thn (hi pins s1 σ H1 _ I1 q1) fun iv s2 ⟨y, H2, I2, r2, q2⟩ => ?_))
 refine wpAny_bind (wpAny_standAt (wpAny_bind (wpAny_holding (thn (hs pins s2 σ H2 x y v ov iv u _ I2 r1 r2 r q2) fun _ s3 ⟨H3, I3, q3⟩ => ?_))))
 exact wpAny_release ⟨σ, H3, I3, q3⟩
noncomputable def tAsg (te : TE) (g : TG) : TS := fun D σ H => te σ H fun x H1 => g x σ H1 D.nx
theorem qP {tg e : Expr} {te : TE} {g : TG} (he : PE X e te) (hg : PG X tg g) (hs : swapsWithSole [tg] e pos.line X.env = pure false := by rfl) (hw : swappedStores [tg] e X.env = pure none := by rfl)
  (h1 : (assignEach [tg] X.env).map (·.2) = [assign tg X.env] := by rfl) : PS X (.Assign [tg] e pos) (tAsg te g) := by
 intro pins s σ H D I h
 refine wpAny_Assign_stores (thn (he pins s σ H _ I h) fun v s1 ⟨x, H1, I1, r1, q1⟩ => ?_) hs hw
 rw [h1]
 exact thn (hg pins s1 σ H1 x v _ I1 r1 q1) fun _ s2 q => q
theorem qN {i : Nat} {x : Str} {e : Expr} {te : TE} {pos' : Pos} (hN : X.N.Nodup) (hi : X.N[i]? = some x) (hx : Loc X.env.scope x) (he : PE X e te) (hs : swapsWith e (some (.Name x pos')) pos.line X.env = pure false := by rfl) (hf : X.fn x = true ∨ X.env.scope.names.lookup x = some .local := by first | exact .inl rfl | exact .inr rfl | assumption) :
  PS X (.Assign [.Name x pos'] e pos) (tAsg te (gName i)) := by
 intro pins s σ H D I h
 refine wpAny_Assign_Name (thn (he pins s σ H _ I h) fun v s1 ⟨y, H1, I1, r1, q1⟩ => ?_) hs
 exact store_ok I1 hN hi hx r1 (fun s2 I2 => ⟨_, H1, I2, q1⟩) hf
end

section
variable {X : Cx} {pos : Pos}
noncomputable def tWhile (c : TT) (tb : TS) : TS := fun D σ H => ∃ W : Nat → St → Hp → Prop, (∃ m, W m σ H) ∧ ∀ m σ H, W m σ H →
 c σ H fun b H1 => if b = true then ∃ N : St → Hp → Prop, (∀ σ' H', N σ' H' → ∃ m', m' < m ∧ W m' σ' H') ∧ tb { D with nx := N, ct := N, bk := D.nx } σ H1 else D.nx σ H1
theorem ps_while {c : Expr} {body : List Stmt} {tc : TT} {tb : TS} (hp : PassesOwn (model X.prog X.w) X.A X.env X.xe) (hc : PT X c tc) (hb : PSs X body tb) : PS X (.While c body [] pos) (tWhile tc tb) := by
 intro pins s σ H D I h
 obtain ⟨W, ⟨m0, w0⟩, turn⟩ := h
 refine wpAny_While (codeAny_whileLoop (fun n s' => ∃ σ' H', Inv X pins σ' H' s' ∧ W n σ' H') ?_ m0 ⟨σ, H, I, w0⟩)
 rintro n s1 ⟨σ1, H1, I1, w1⟩
 refine wpAny_passesOwn hp (thn (hc pins s1 σ1 H1 _ I1 (turn n σ1 H1 w1)) fun b s2 ⟨H2, I2, q2⟩ => ?_)
 cases b with
 | true =>
  obtain ⟨N, hN, q2⟩ := q2
  rw [if_pos rfl]
  refine wpAny_passesOwn hp (thn (hb pins s2 σ1 H2 _ I2 q2) fun f s3 q3 => ?_)
  cases f with
  | next =>
   obtain ⟨σ3, H3, I3, n3⟩ := q3
   obtain ⟨m', hm, w3⟩ := hN σ3 H3 n3
   exact ⟨m', hm, σ3, H3, I3, w3⟩
  | cont =>
   obtain ⟨σ3, H3, I3, n3⟩ := q3
   obtain ⟨m', hm, w3⟩ := hN σ3 H3 n3
   exact ⟨m', hm, σ3, H3, I3, w3⟩
  | brk => exact q3
  | ret v => exact q3
 | false =>
  rw [if_neg Bool.false_ne_true]
  exact wpAny_execs_nil ⟨σ1, H2, I2, q2⟩
end

structure It where
 go : Nat → Hp → Prop
 yld : Nat → Hp → V → Hp → Prop
 stop : Nat → Hp → Prop
noncomputable def FpOk (X : Cx) (pins : List (Addr × Obj)) (H : Hp) (b : Addr) : Prop :=
 H b = none ∧ b ≠ X.env.locals ∧ b ∉ X.fs ∧ (b ∈ X.ex ∨ X.s₀.heap.objs.size ≤ b) ∧ (∀ x c, X.env.cells.lookup x = some c → c ≠ b) ∧ ∀ p ∈ X.pn ++ pins, p.1 ≠ b
theorem Inv.fpOk {X : Cx} {pins : List (Addr × Obj)} {σ : St} {H H' : Hp} {s : Shared} {b : Addr} (I : Inv X pins σ H s) (hb : s.heap.objs.size ≤ b) (hn : H' b = none) : FpOk X pins H' b := by
 refine ⟨hn, Nat.ne_of_gt (Nat.lt_of_lt_of_le I.lt hb), I.nofs hb, .inr (Nat.le_trans I.sz hb), fun x c e z => ?_, fun p hp z => ?_⟩
 ·obtain ⟨v, q⟩ := I.cell x c e
  exact absurd (Nat.lt_of_lt_of_le q.lt (by rw [z]; exact hb)) (Nat.lt_irrefl _)
 ·exact absurd (Nat.lt_of_lt_of_le (Heap.lt_size (I.pin p hp).1) (by rw [z]; exact hb)) (Nat.lt_irrefl _)
structure Turn (P : Program) (w : World) (K : PySem.W.Frag) (tg : Expr) (J : It) (fp : List Addr) (it : Addr) (tn : Nat → Heap → Prop) : Prop where
 mem : it ∈ fp
 obj : ∀ i h, tn i h → ∀ b ∈ fp, ∃ o, h.get? b = some o ∧ ∀ v, o.data ≠ .cell v
 keep : ∀ i h h', tn i h → (∀ b ∈ fp, ∀ o, h.get? b = some o → h'.get? b = some o) → tn i h'
 item : ∀ (X : Cx), X.prog = P → X.w = w → X.K = K → X.calm = true → ∀ (i : Nat) (pins : List (Addr × Obj)) (s : Shared) (σ : St) (H : Hp) (E : Value → Shared → Prop), Inv X pins σ H s → (∀ b ∈ fp, FpOk X pins H b) → tn i s.heap → J.go i H →
  wpAny (model P w) X.A (pyNext (.ref it)) (fun r s1 => ∃ u, r = some u ∧
   wpAny (model P w) X.A (letOwnedTupleGo tg (.ref it) u) (fun _ s2 => ∃ x H', Inv X pins σ H' s2 ∧ RelV x u ∧ J.yld i H x H' ∧ tn (i + 1) s2.heap ∧ ∀ b ∈ fp, H' b = none) E s1) E s
 done : ∀ (X : Cx), X.prog = P → X.w = w → X.K = K → X.calm = true → ∀ (i : Nat) (pins : List (Addr × Obj)) (s : Shared) (σ : St) (H : Hp) (E : Value → Shared → Prop), Inv X pins σ H s → (∀ b ∈ fp, FpOk X pins H b) → tn i s.heap → J.stop i H →
  wpAny (model P w) X.A (pyNext (.ref it)) (fun r s1 => r = none ∧ Inv X pins σ H s1) E s
 self : ∀ (A : Around) (i : Nat) (s : Shared) (Q : Value → Shared → Prop) (E : Value → Shared → Prop), tn i s.heap → Q (.ref it) s → wpAny (model P w) A (pyIter (.ref it)) Q E s
noncomputable abbrev TI := St → Hp → (It → Hp → Prop) → Prop
noncomputable def PIE (X : Cx) (pins : List (Addr × Obj)) (σ : St) (tg : Expr) (R : It → Hp → Prop) (itv : Value) (s2 : Shared) : Prop :=
 ∃ (it : Addr) (fp : List Addr) (tn : Nat → Heap → Prop) (J : It) (H' : Hp), itv = .ref it ∧ Inv X pins σ H' s2 ∧ Turn X.prog X.w X.K tg J fp it tn ∧ tn 0 s2.heap ∧ (∀ b ∈ fp, FpOk X pins H' b) ∧ R J H'
noncomputable def PI (X : Cx) (tg iter : Expr) (wi : TI) : Prop :=
 ∀ (pins : List (Addr × Obj)) (s : Shared) (σ : St) (H : Hp) (R : It → Hp → Prop), Inv X pins σ H s → wi σ H R →
  wpAny (model X.prog X.w) X.A (eval iter X.env) (fun v s1 => wpAny (model X.prog X.w) X.A (pyIter v) (PIE X pins σ tg R) X.xe s1) X.xe s

theorem go_of {M : Model} {A : Around} {E : Value → Shared → Prop} {s : Shared} {tg : Expr} {it : Addr} {u : Value} {o : Obj} {n : String} {vs : Array Value} {Q : Unit → Shared → Prop} (ho : s.heap.get? it = some o) (hc : o.cls = .type n) (hd : o.data = .fields vs)
  (hn : ["enumerate", "zip", "dict_itemiterator", "dict_reverseitemiterator", "odict_iterator", "itertools.zip_longest", "itertools.pairwise"].contains n = false) (hQ : Q () s) : wpAny M A (letOwnedTupleGo tg (.ref it) u) Q E s := by
 unfold letOwnedTupleGo
 cases tg <;> first
  | exact wpAny_pure hQ
  | (cases u <;> first
    | exact wpAny_pure hQ
    | (refine wpAny_bind (wpAny_load ho ?_)
       rw [hc, hd]
       show wpAny M A (if (["enumerate", "zip", "dict_itemiterator", "dict_reverseitemiterator", "odict_iterator", "itertools.zip_longest", "itertools.pairwise"].contains n && vs[0]? == some (rawInt _)) = true then _ else _) Q E s
       rw [if_neg (by intro h; rw [hn, Bool.false_and] at h; cases h)]
       exact wpAny_pure hQ))

noncomputable def Itl (K : PySem.W.Frag) (a : Addr) : It :=
 ⟨fun i H => ∃ xs x, SqL K H a xs ∧ xs[i]? = some x, fun i H x H' => H' = H ∧ ∀ xs, SqL K H a xs → xs[i]? = some x, fun i H => ∃ xs, SqL K H a xs ∧ xs.length ≤ i⟩
noncomputable def Itt (K : PySem.W.Frag) (a : Addr) : It :=
 ⟨fun i H => ∃ xs x, SqT K H a xs ∧ xs[i]? = some x, fun i H x H' => H' = H ∧ ∀ xs, SqT K H a xs → xs[i]? = some x, fun i H => ∃ xs, SqT K H a xs ∧ xs.length ≤ i⟩
noncomputable def Itr (lo : Int) (n : Nat) : It := ⟨fun i _ => i < n, fun i H x H' => H' = H ∧ x = .int (lo + i), fun i _ => n ≤ i⟩
theorem turn_list {P : Program} {w : World} {K : PySem.W.Frag} {tg : Expr} (a it : Addr) : Turn P w K tg (Itl K a) [it] it (fun i h => h.IsListIter it a i) where
 mem := by simp
 obj := fun i h st b hb => by
  have e : b = it := by simpa using hb
  subst e
  obtain ⟨o, e, c, d⟩ := st
  exact ⟨o, e, fun v z => by rw [d] at z; cases z⟩
 keep := fun i h h' st k => st.at fun o e => k it (by simp) o e
 item := by
  intro X hP hw hK hc i pins s σ H E I hf st hg
  subst hP hw hK
  obtain ⟨xs, x, hq, hx⟩ := hg
  obtain ⟨its, rv, p, hz⟩ := I.list hq
  obtain ⟨u, hu, ru⟩ := rv.get hx
  obtain ⟨f0, f1, f2, f3, f4, f5⟩ := hf it (by simp)
  refine wpAny_pyNext_list_item st p.isList (x := u) (by simpa using hu) fun h' st' sb => ?_
  have I1 : Inv X pins σ H { s with heap := h' } := I.turned (t' := s.toks) (fun b o hb e => (sb.2 b hb).trans e) f0 f1 f3 f4 f5
  obtain ⟨o, e, c, d⟩ := id st'
  exact ⟨u, rfl, go_of (s := { s with heap := h' }) e c d (by decide) ⟨x, H, I1, ru, ⟨rfl, fun ys hy => by rw [I.list_inj hy hq]; exact hx⟩, st', fun b hb => (hf b hb).1⟩⟩
 done := by
  intro X hP hw hK hc i pins s σ H E I hf st hg
  subst hP hw hK
  obtain ⟨xs, hq, hx⟩ := hg
  obtain ⟨its, rv, p, hz⟩ := I.list hq
  obtain ⟨f0, f1, f2, f3, f4, f5⟩ := hf it (by simp)
  have hl := rv.length
  exact wpAny_pyNext_list_end (I.ok.hd hc) st p.isList (by simp; omega) fun h' eb => ⟨rfl, I.turned (t' := s.toks) (fun b o hb e => eb b o hb e) f0 f1 f3 f4 f5⟩
 self := fun _ _ _ _ _ st h => wpAny_pyIter_listiter st h
theorem turn_tuple {P : Program} {w : World} {K : PySem.W.Frag} {tg : Expr} (a it : Addr) : Turn P w K tg (Itt K a) [it] it (fun i h => h.IsTupleIter it a i) where
 mem := by simp
 obj := fun i h st b hb => by
  have e : b = it := by simpa using hb
  subst e
  obtain ⟨o, e, c, d⟩ := st
  exact ⟨o, e, fun v z => by rw [d] at z; cases z⟩
 keep := fun i h h' st k => st.at fun o e => k it (by simp) o e
 item := by
  intro X hP hw hK hc i pins s σ H E I hf st hg
  subst hP hw hK
  obtain ⟨xs, x, hq, hx⟩ := hg
  obtain ⟨its, rv, p, hz⟩ := I.tuple hq
  obtain ⟨u, hu, ru⟩ := rv.get hx
  obtain ⟨f0, f1, f2, f3, f4, f5⟩ := hf it (by simp)
  refine wpAny_pyNext_tuple_item st (show s.heap.IsTuple a its.toArray from p) (x := u) (by simpa using hu) fun h' st' sb => ?_
  have I1 : Inv X pins σ H { s with heap := h' } := I.turned (t' := s.toks) (fun b o hb e => (sb.2 b hb).trans e) f0 f1 f3 f4 f5
  obtain ⟨o, e, c, d⟩ := id st'
  exact ⟨u, rfl, go_of (s := { s with heap := h' }) e c d (by decide) ⟨x, H, I1, ru, ⟨rfl, fun ys hy => by rw [I.tuple_inj hy hq]; exact hx⟩, st', fun b hb => (hf b hb).1⟩⟩
 done := by
  intro X hP hw hK hc i pins s σ H E I hf st hg
  subst hP hw hK
  obtain ⟨xs, hq, hx⟩ := hg
  obtain ⟨its, rv, p, hz⟩ := I.tuple hq
  obtain ⟨f0, f1, f2, f3, f4, f5⟩ := hf it (by simp)
  have hl := rv.length
  exact wpAny_pyNext_tuple_end (I.ok.hd hc) st (show s.heap.IsTuple a its.toArray from p) (by simp; omega) fun h' eb => ⟨rfl, I.turned (t' := s.toks) (fun b o hb e => eb b o hb e) f0 f1 f3 f4 f5⟩
 self := fun _ _ _ _ _ st h => wpAny_pyIter_tupleiter st h
theorem turn_range {P : Program} {w : World} {K : PySem.W.Frag} {tg : Expr} (it : Addr) (lo : Int) (n : Nat) : Turn P w K tg (Itr lo n) [it] it (fun i h => IsRangeIter h it (lo + (i : Nat) * 1) ((n : Int) - (i : Nat)) 1) where
 mem := by simp
 obj := fun i h st b hb => by
  have e : b = it := by simpa using hb
  subst e
  exact ⟨_, st, fun v z => by
   have z' : Data.fields _ = Data.cell v := z
   cases z'⟩
 keep := fun i h h' st k => k it (by simp) _ st
 item := by
  intro X hP hw hK hc i pins s σ H E I hf st hg
  subst hP hw hK
  obtain ⟨f0, f1, f2, f3, f4, f5⟩ := hf it (by simp)
  have W := Walks.range (prog := X.prog) (w := X.w) (I.ok.hd hc) it lo 1 n
  refine W.item i s _ _ hg st fun v h' tk hv st' kk => ?_
  obtain ⟨t, rfl⟩ := hv
  have I1 : Inv X pins σ H { s with heap := h', toks := tk } := I.turned (fun b o hb e => kk b o (by simpa using hb) e) f0 f1 f3 f4 f5
  refine ⟨_, rfl, go_of (s := { s with heap := h', toks := tk }) (n := "range_iterator") st' rfl rfl (by decide) ⟨.int (lo + i), H, I1, ⟨t, ?_⟩, ⟨rfl, rfl⟩, st', fun b hb => (hf b hb).1⟩⟩
  rw [Int.mul_one]
 done := by
  intro X hP hw hK hc i pins s σ H E I hf st hg
  subst hP hw hK
  obtain ⟨f0, f1, f2, f3, f4, f5⟩ := hf it (by simp)
  exact wpAny_pyNext_range_end (I.ok.hd hc) st (by have : n ≤ i := hg; omega) fun h' eb => ⟨rfl, I.turned (t' := s.toks) (fun b o hb e => eb b o hb e) f0 f1 f3 f4 f5⟩
 self := fun _ _ _ _ _ st h => wpAny_pyIter_rangeiter st h
end L2

namespace L2
open PySem PySem.Spec PyProof.Rows
section
variable {X : Cx} {tg : Expr}
noncomputable def iList (K : PySem.W.Frag) (tl : TE) : TI := fun σ H R => tl σ H fun x H1 => ∃ a, x = .ref a ∧ (∃ xs, SqL K H1 a xs) ∧ R (Itl K a) H1
noncomputable def iTup (K : PySem.W.Frag) (tl : TE) : TI := fun σ H R => tl σ H fun x H1 => ∃ a, x = .ref a ∧ (∃ xs, SqT K H1 a xs) ∧ R (Itt K a) H1
theorem pi_list {l : Expr} {tl : TE} (hl : PE X l tl) : PI X tg l (iList X.K tl) := by
 intro pins s σ H R I h
 refine thn (hl pins s σ H _ I h) fun v s1 ⟨x, H1, I1, r1, q1⟩ => ?_
 obtain ⟨a, e, ⟨xs, hq⟩, q⟩ := q1
 subst e
 cases r1
 obtain ⟨its, rv, p, hz⟩ := I1.list hq
 refine wpAny_pyIter_list p.isList ?_
 refine ⟨s1.heap.objs.size, [s1.heap.objs.size], _, _, H1, rfl, I1.kept (t' := s1.toks) fun b o e => Heap.get?_push_of_some _ e, turn_list a _, ⟨_, Heap.get?_push_size _ rfl, rfl, rfl⟩, fun b hb => ?_, q⟩
 have e : b = s1.heap.objs.size := by simpa using hb
 subst e
 exact I1.fpOk (Nat.le_refl _) (I1.hok.fresh (Nat.le_refl _))
theorem pi_tup {l : Expr} {tl : TE} (hl : PE X l tl) : PI X tg l (iTup X.K tl) := by
 intro pins s σ H R I h
 refine thn (hl pins s σ H _ I h) fun v s1 ⟨x, H1, I1, r1, q1⟩ => ?_
 obtain ⟨a, e, ⟨xs, hq⟩, q⟩ := q1
 subst e
 cases r1
 obtain ⟨its, rv, p, hz⟩ := I1.tuple hq
 refine wpAny_pyIter_tuple (show s1.heap.IsTuple a its.toArray from p) ?_
 refine ⟨s1.heap.objs.size, [s1.heap.objs.size], _, _, H1, rfl, I1.kept (t' := s1.toks) fun b o e => Heap.get?_push_of_some _ e, turn_tuple a _, ⟨_, Heap.get?_push_size _ rfl, rfl, rfl⟩, fun b hb => ?_, q⟩
 have e : b = s1.heap.objs.size := by simpa using hb
 subst e
 exact I1.fpOk (Nat.le_refl _) (I1.hok.fresh (Nat.le_refl _))
theorem range_it {pins : List (Addr × Obj)} {σ : St} {H : Hp} {s : Shared} {R : It → Hp → Prop} {E : Value → Shared → Prop} {lo hi : Int} {t u v : Tok} {tk : Nat} (I : Inv X pins σ H s) (h1 : -(2 ^ 62) ≤ lo) (h2 : lo < 2 ^ 62) (h3 : -(2 ^ 62) ≤ hi) (h4 : hi < 2 ^ 62)
  (q : R (Itr lo (hi - lo).toNat) H) : wpAny (model X.prog X.w) X.A (pyIter (.ref s.heap.objs.size)) (PIE X pins σ tg R) E { s with heap := s.heap.push { cls := .type "range", data := .fields #[.int lo t, .int hi u, .int 1 v] }, toks := tk } := by
 refine wpAny_pyIter_range (IsRange.new ..) (small_one h1 h2 h3 h4) ?_
 have I1 : Inv X pins σ H { s with heap := s.heap.push { cls := .type "range", data := .fields #[.int lo t, .int hi u, .int 1 v] }, toks := tk } := I.kept fun b o e => Heap.get?_push_of_some _ e
 refine ⟨(s.heap.push { cls := .type "range", data := .fields #[.int lo t, .int hi u, .int 1 v] }).objs.size, [(s.heap.push { cls := .type "range", data := .fields #[.int lo t, .int hi u, .int 1 v] }).objs.size], _, _, H, rfl,
  I1.kept (t' := tk) fun b o e => Heap.get?_push_of_some _ e, turn_range _ lo (hi - lo).toNat, ?_, fun b hb => ?_, q⟩
 ·have e1 : lo + ((0 : Nat) : Int) * 1 = lo := by simp
  have e2 : (((hi - lo).toNat : Nat) : Int) - ((0 : Nat) : Int) = Builtin.Range.rangeSize lo hi 1 := by rw [rangeSize_one]; split <;> omega
  show IsRangeIter _ _ (lo + ((0 : Nat) : Int) * 1) ((((hi - lo).toNat : Nat) : Int) - ((0 : Nat) : Int)) 1
  rw [e1, e2]
  exact Heap.get?_push_size _ rfl
 ·have e : b = (s.heap.push { cls := .type "range", data := .fields #[.int lo t, .int hi u, .int 1 v] }).objs.size := by simpa using hb
  subst e
  exact I1.fpOk (Nat.le_refl _) (I1.hok.fresh (Nat.le_refl _))
noncomputable def iRng1 (ta : TA) : TI := fun σ H R => ta σ H fun vs H1 => ∃ j : Int, vs = [.int j] ∧ -(2 ^ 62) ≤ j ∧ j < 2 ^ 62 ∧ R (Itr 0 j.toNat) H1
theorem pi_range1 {a : Expr} {ta : TA} {p pos : Pos} (hg : Gl X "range") (hm : X.mg "range" = none) (ha : PA X [a] ta) (hs : starEach [a] X.env = [(false, eval a X.env)] := by rfl) : PI X tg (.Call (.Name "range" p) [a] [] pos) (iRng1 ta) := by
 intro pins s σ H R I h
 refine Call_ (ld_blt I hg hm boot_range (PyProof.Rows.callWith_type1 (thn (ha pos pins s σ H _ I h) fun us s1 ⟨vs, H1, I1, r1, q1⟩ => ?_) hs rfl))
 obtain ⟨j, e, q1, q2, q⟩ := q1
 subst e
 cases r1 with
 | cons r rr =>
  cases rr
  obtain ⟨t, rfl⟩ := r
  exact call_range_1 (range_it I1 (by omega) (by omega) q1 q2 (by simpa using q))
noncomputable def tFor (wi : TI) (g : TG) (tb : TS) : TS := fun D σ H => wi σ H fun J H1 => ∃ W : Nat → Nat → St → Hp → Prop, (∃ m, W 0 m σ H1) ∧ ∀ i m σ H, W i m σ H →
 (J.stop i H ∧ D.nx σ H) ∨ (J.go i H ∧ ∃ N : St → Hp → Prop, (∀ σ' H', N σ' H' → ∃ m', m' < m ∧ W (i + 1) m' σ' H') ∧ ∀ x H', J.yld i H x H' → g x σ H' fun σ2 H2 => tb { D with nx := N, ct := N, bk := D.nx } σ2 H2)
noncomputable def pinsAt (fp : List Addr) (h : Heap) : List (Addr × Obj) := fp.filterMap fun b => (h.get? b).map fun o => (b, o)
theorem mem_pinsAt {fp : List Addr} {h : Heap} {b : Addr} {o : Obj} (hb : b ∈ fp) (e : h.get? b = some o) : (b, o) ∈ pinsAt fp h := List.mem_filterMap.mpr ⟨b, hb, by rw [e]; rfl⟩
theorem of_pinsAt {fp : List Addr} {h : Heap} {p : Addr × Obj} (hp : p ∈ pinsAt fp h) : p.1 ∈ fp ∧ h.get? p.1 = some p.2 := by
 obtain ⟨b, hb, e⟩ := List.mem_filterMap.mp hp
 cases q : h.get? b with
 | none => rw [q] at e; cases e
 | some o =>
  rw [q] at e
  have e' : (b, o) = p := Option.some.inj e
  subst e'
  exact ⟨hb, q⟩
theorem Inv.pinned {pins : List (Addr × Obj)} {σ : St} {H : Hp} {s : Shared} {fp : List Addr} (I : Inv X pins σ H s) (hf : ∀ b ∈ fp, FpOk X pins H b) (ho : ∀ b ∈ fp, ∃ o, s.heap.get? b = some o ∧ ∀ v, o.data ≠ .cell v) : Inv X (pins ++ pinsAt fp s.heap) σ H s :=
 I.pins_of fun p hp => (List.mem_append.mp hp).elim (fun z => I.pin p (List.mem_append_right _ z)) fun z => by
  obtain ⟨hb, e⟩ := of_pinsAt z
  obtain ⟨f0, f1, f2, _⟩ := hf p.1 hb
  obtain ⟨o, e', d⟩ := ho p.1 hb
  rw [e] at e'; cases e'
  exact ⟨e, f0, f1, f2, d⟩
theorem Inv.unpinned {pins pl : List (Addr × Obj)} {σ : St} {H : Hp} {s : Shared} (I : Inv X (pins ++ pl) σ H s) : Inv X pins σ H s := I.pins_of fun p hp => I.pin p (List.mem_append_right _ (List.mem_append_left _ hp))
theorem ps_for {iter : Expr} {body : List Stmt} {wi : TI} {g : TG} {tb : TS} {pos : Pos} (hp : PassesOwn (model X.prog X.w) X.A X.env X.xe) (hc : X.calm = true) (hi : PI X tg iter wi) (hg : PG X tg g) (hb : PSs X body tb)
  (hs : ∀ x, foldedSetIterable iter X.env x = pure x := by intro _; rfl) : PS X (.For tg iter body [] pos) (tFor wi g tb) := by
 intro pins s σ H D I h
 refine wpAny_For (thn (hi pins s σ H _ I h) fun v s1 h1 => thn h1 fun itv s2 h2 => ?_) hs
 obtain ⟨it, fp, tn, J, H2, e, I2, T, st2, f2, W, ⟨m0, w0⟩, turn⟩ := h2
 subst e
 have stat : ∀ {H' : Hp}, (∀ b ∈ fp, H' b = none) → ∀ b ∈ fp, FpOk X pins H' b := fun hn b hb => ⟨hn b hb, (f2 b hb).2⟩
 refine codeAny_forLoop_any (fun n s' => ∃ i σ' H', Inv X pins σ' H' s' ∧ tn i s'.heap ∧ (∀ b ∈ fp, H' b = none) ∧ W i n σ' H') ?_ m0 ⟨0, σ, H2, I2, st2, fun b hb => (f2 b hb).1, w0⟩
 rintro n s3 ⟨i, σ3, H3, I3, st3, fr3, w3⟩
 rcases turn i n σ3 H3 w3 with ⟨stop, qn⟩ | ⟨go, N, hN, step⟩
 ·refine wpAny_passesOwn hp (thn (T.done X rfl rfl rfl hc i pins s3 σ3 H3 X.xe I3 (stat fr3) st3 stop) fun r s4 ⟨hr, I4⟩ => ?_)
  subst hr
  exact wpAny_execs_nil ⟨σ3, H3, I4, qn⟩
 ·refine wpAny_passesOwn hp (thn (T.item X rfl rfl rfl hc i pins s3 σ3 H3 X.xe I3 (stat fr3) st3 go) fun r s4 ⟨u, hr, h4⟩ => ?_)
  subst hr
  refine wpAny_passesOwn hp (thn h4 fun _ s5 ⟨x, H5, I5, r5, y5, st5, fr5⟩ => ?_)
  have I5' := I5.pinned (stat fr5) (T.obj _ _ st5)
  refine wpAny_passesOwn hp (thn (hg _ s5 σ3 H5 x u _ I5' r5 (step x H5 y5)) fun _ s6 ⟨σ6, H6, I6, q6⟩ => ?_)
  refine wpAny_passesOwn hp (thn (hb _ s6 σ6 H6 _ I6 q6) fun f s7 q7 => ?_)
  have again : ∀ {σ7 : St} {H7 : Hp}, Inv X (pins ++ pinsAt fp s5.heap) σ7 H7 s7 → N σ7 H7 → ∃ m, m < n ∧ ∃ i σ' H', Inv X pins σ' H' s7 ∧ tn i s7.heap ∧ (∀ b ∈ fp, H' b = none) ∧ W i m σ' H' := fun {σ7 H7} I7 n7 => by
   obtain ⟨m', hm, w7⟩ := hN σ7 H7 n7
   refine ⟨m', hm, i + 1, σ7, H7, I7.unpinned, T.keep _ _ _ st5 fun b hb o e => (I7.pin (b, o) (List.mem_append_right _ (List.mem_append_right _ (mem_pinsAt hb e)))).1, fun b hb => ?_, w7⟩
   obtain ⟨o, e, d⟩ := T.obj _ _ st5 b hb
   exact (I7.pin (b, o) (List.mem_append_right _ (List.mem_append_right _ (mem_pinsAt hb e)))).2.1
  cases f with
  | next => obtain ⟨σ7, H7, I7, n7⟩ := q7; exact again I7 n7
  | cont => obtain ⟨σ7, H7, I7, n7⟩ := q7; exact again I7 n7
  | brk => obtain ⟨σ7, H7, I7, q7⟩ := q7; exact ⟨σ7, H7, I7.unpinned, q7⟩
  | ret v => obtain ⟨x7, σ7, H7, I7, r7, q7⟩ := q7; exact ⟨x7, σ7, H7, I7.unpinned, r7, q7⟩
end

theorem for_list {K : PySem.W.Frag} {a : Addr} {xs : List V} {g : TG} {tb : TS} {D : Ends} {σ : St} {H : Hp} (Pv : Nat → St → Hp → Prop) (h0 : Pv 0 σ H) (hl : ∀ i σ H, i ≤ xs.length → Pv i σ H → SqL K H a xs)
  (hs : ∀ i x σ H, xs[i]? = some x → Pv i σ H → g x σ H fun σ2 H2 => tb { D with nx := Pv (i + 1), ct := Pv (i + 1), bk := D.nx } σ2 H2) (hd : ∀ σ H, Pv xs.length σ H → D.nx σ H) :
  ∃ W : Nat → Nat → St → Hp → Prop, (∃ m, W 0 m σ H) ∧ ∀ i m σ H, W i m σ H →
   ((Itl K a).stop i H ∧ D.nx σ H) ∨ ((Itl K a).go i H ∧ ∃ N : St → Hp → Prop, (∀ σ' H', N σ' H' → ∃ m', m' < m ∧ W (i + 1) m' σ' H') ∧ ∀ x H', (Itl K a).yld i H x H' → g x σ H' fun σ2 H2 => tb { D with nx := N, ct := N, bk := D.nx } σ2 H2) := by
 refine ⟨fun i m σ H => m = xs.length - i ∧ i ≤ xs.length ∧ Pv i σ H, ⟨xs.length, by simp, Nat.zero_le _, h0⟩, ?_⟩
 rintro i m σ H ⟨rfl, hi, p⟩
 have q := hl i σ H hi p
 by_cases hlt : i < xs.length
 ·refine .inr ⟨⟨xs, xs[i], q, by simp [hlt]⟩, Pv (i + 1), fun σ' H' p' => ⟨xs.length - (i + 1), by omega, rfl, hlt, p'⟩, fun x H' y => ?_⟩
  obtain ⟨e, y⟩ := y
  subst e
  exact hs i x σ _ (y xs q) p
 ·have e : i = xs.length := by omega
  subst e
  exact .inl ⟨⟨xs, q, Nat.le_refl _⟩, hd σ H p⟩
theorem for_tup {K : PySem.W.Frag} {a : Addr} {xs : List V} {g : TG} {tb : TS} {D : Ends} {σ : St} {H : Hp} (Pv : Nat → St → Hp → Prop) (h0 : Pv 0 σ H) (hl : ∀ i σ H, i ≤ xs.length → Pv i σ H → SqT K H a xs)
  (hs : ∀ i x σ H, xs[i]? = some x → Pv i σ H → g x σ H fun σ2 H2 => tb { D with nx := Pv (i + 1), ct := Pv (i + 1), bk := D.nx } σ2 H2) (hd : ∀ σ H, Pv xs.length σ H → D.nx σ H) :
  ∃ W : Nat → Nat → St → Hp → Prop, (∃ m, W 0 m σ H) ∧ ∀ i m σ H, W i m σ H →
   ((Itt K a).stop i H ∧ D.nx σ H) ∨ ((Itt K a).go i H ∧ ∃ N : St → Hp → Prop, (∀ σ' H', N σ' H' → ∃ m', m' < m ∧ W (i + 1) m' σ' H') ∧ ∀ x H', (Itt K a).yld i H x H' → g x σ H' fun σ2 H2 => tb { D with nx := N, ct := N, bk := D.nx } σ2 H2) := by
 refine ⟨fun i m σ H => m = xs.length - i ∧ i ≤ xs.length ∧ Pv i σ H, ⟨xs.length, by simp, Nat.zero_le _, h0⟩, ?_⟩
 rintro i m σ H ⟨rfl, hi, p⟩
 have q := hl i σ H hi p
 by_cases hlt : i < xs.length
 ·refine .inr ⟨⟨xs, xs[i], q, by simp [hlt]⟩, Pv (i + 1), fun σ' H' p' => ⟨xs.length - (i + 1), by omega, rfl, hlt, p'⟩, fun x H' y => ?_⟩
  obtain ⟨e, y⟩ := y
  subst e
  exact hs i x σ _ (y xs q) p
 ·have e : i = xs.length := by omega
  subst e
  exact .inl ⟨⟨xs, q, Nat.le_refl _⟩, hd σ H p⟩
theorem for_range {lo : Int} {n : Nat} {g : TG} {tb : TS} {D : Ends} {σ : St} {H : Hp} (Pv : Nat → St → Hp → Prop) (h0 : Pv 0 σ H)
  (hs : ∀ i σ H, i < n → Pv i σ H → g (.int (lo + i)) σ H fun σ2 H2 => tb { D with nx := Pv (i + 1), ct := Pv (i + 1), bk := D.nx } σ2 H2) (hd : ∀ σ H, Pv n σ H → D.nx σ H) :
  ∃ W : Nat → Nat → St → Hp → Prop, (∃ m, W 0 m σ H) ∧ ∀ i m σ H, W i m σ H →
   ((Itr lo n).stop i H ∧ D.nx σ H) ∨ ((Itr lo n).go i H ∧ ∃ N : St → Hp → Prop, (∀ σ' H', N σ' H' → ∃ m', m' < m ∧ W (i + 1) m' σ' H') ∧ ∀ x H', (Itr lo n).yld i H x H' → g x σ H' fun σ2 H2 => tb { D with nx := N, ct := N, bk := D.nx } σ2 H2) := by
 refine ⟨fun i m σ H => m = n - i ∧ i ≤ n ∧ Pv i σ H, ⟨n, by simp, Nat.zero_le _, h0⟩, ?_⟩
 rintro i m σ H ⟨rfl, hi, p⟩
 by_cases hlt : i < n
 ·refine .inr ⟨hlt, Pv (i + 1), fun σ' H' p' => ⟨n - (i + 1), by omega, rfl, hlt, p'⟩, fun x H' y => ?_⟩
  obtain ⟨e, y⟩ := y
  subst e y
  exact hs i σ _ hlt p
 ·have e : i = n := by omega
  subst e
  exact .inl ⟨Nat.le_refl _, hd σ H p⟩
end L2

namespace L2
open PySem PySem.Spec PyProof.Rows

noncomputable abbrev R2 := V → V → Hp → VK → Prop
noncomputable def OpR (X : Cx) (f : Value → Value → Sem Value) (r : R2) : Prop :=
 ∀ (pins : List (Addr × Obj)) (s : Shared) (σ : St) (H : Hp) (x y : V) (v u : Value) (Q : VK), Inv X pins σ H s → RelV x v → RelV y u → r x y H Q →
  wpAny (model X.prog X.w) X.A (f v u) (EP X pins σ Q) X.xe s
noncomputable def UnR (X : Cx) (f : Value → Sem Value) (r : V → Hp → VK → Prop) : Prop :=
 ∀ (pins : List (Addr × Obj)) (s : Shared) (σ : St) (H : Hp) (x : V) (v : Value) (Q : VK), Inv X pins σ H s → RelV x v → r x H Q →
  wpAny (model X.prog X.w) X.A (f v) (EP X pins σ Q) X.xe s
noncomputable def CallR (X : Cx) (f : Value) (r : List V → Hp → VK → Prop) : Prop :=
 ∀ (pins : List (Addr × Obj)) (s : Shared) (σ : St) (H : Hp) (xs : List V) (us : List Value) (Q : VK), Inv X pins σ H s → Vals xs us → r xs H Q →
  wpAny (model X.prog X.w) X.A (call f us) (EP X pins σ Q) X.xe s
noncomputable def tOp (r : R2) (ta tb : TE) : TE := fun σ H Q => ta σ H fun x H1 => tb σ H1 fun y H2 => r x y H2 Q
noncomputable def tUn (r : V → Hp → VK → Prop) (ta : TE) : TE := fun σ H Q => ta σ H fun x H1 => r x H1 Q
noncomputable def rI (C : Int → Int → Prop) (g : Int → Int → V) : R2 := fun x y H Q => ∃ i j, x = .int i ∧ y = .int j ∧ C i j ∧ Q (g i j) H
noncomputable def rI0 (g : Int → Int → V) : R2 := fun x y H Q => ∃ i j, x = .int i ∧ y = .int j ∧ Q (g i j) H
noncomputable def rU (g : Int → V) : V → Hp → VK → Prop := fun x H Q => ∃ i, x = .int i ∧ Q (g i) H

section
variable {X : Cx} {a b c : Expr} {ta tb tc : TE} {pos : Pos}

theorem binT (ha : PE X a ta) (hb : PE X b tb) {pins : List (Addr × Obj)} {s : Shared} {σ : St} {H : Hp} {R : V → V → Hp → Prop} (I : Inv X pins σ H s)
  (h : ta σ H fun x H1 => tb σ H1 fun y H2 => R x y H2) {Q : Value → Shared → Prop} {f : Value → Value → Sem Value}
  (hf : ∀ v u s2 x y H2, Inv X pins σ H2 s2 → RelV x v → RelV y u → R x y H2 → wpAny (model X.prog X.w) X.A (f v u) Q X.xe s2) :
  wpAny (model X.prog X.w) X.A (eval a X.env) (fun v s₁ => wpAny (model X.prog X.w) X.A (eval b X.env) (fun u s₂ => wpAny (model X.prog X.w) X.A (f v u) Q X.xe s₂) X.xe s₁) X.xe s := by
 refine thn (ha pins s σ H _ I h) fun v s1 ⟨x, H1, I1, r1, q1⟩ => ?_
 refine thn (hb pins s1 σ H1 _ I1 q1) fun u s2 ⟨y, H2, I2, r2, q2⟩ => ?_
 exact hf v u s2 x y H2 I2 r1 r2 q2

theorem xX {op : Operator} {r : R2} (ho : OpR X (binaryOp op) r) (ha : PE X a ta) (hb : PE X b tb) : PE X (.BinOp a op b pos) (tOp r ta tb) := by
 intro pins s σ H Q I h
 exact wpAny_BinOp (binT ha hb I h fun v u s2 x y H2 I2 rx ry q => ho pins s2 σ H2 x y v u Q I2 rx ry q)
theorem pe_un {op : UnaryOp} {r : V → Hp → VK → Prop} (ho : UnR X (unaryOp op) r) (ha : PE X a ta) : PE X (.UnaryOp op a pos) (tUn r ta) := by
 intro pins s σ H Q I h
 exact UnaryOp_ (thn (ha pins s σ H _ I h) fun v s1 ⟨x, H1, I1, r1, q1⟩ => ho pins s1 σ H1 x v Q I1 r1 q1)
theorem opI {f : Value → Value → Sem Value} {C : Int → Int → Prop} {g : Int → Int → Int}
  (rule : ∀ (i j : Int) (t u : Tok) (s : Shared) (Q : Value → Shared → Prop) (E : Value → Shared → Prop), C i j → Q (.int (g i j) s.toks) { s with toks := s.toks + 1 } → wpAny (model X.prog X.w) X.A (f (.int i t) (.int j u)) Q E s) :
  OpR X f (rI C fun i j => .int (g i j)) := by
 intro pins s σ H x y v u Q I rx ry h
 obtain ⟨i, j, rfl, rfl, hc, q⟩ := h
 obtain ⟨t, rfl⟩ := rx
 obtain ⟨t', rfl⟩ := ry
 exact rule i j t t' s _ _ hc ⟨.int (g i j), H, I.tok _, ⟨_, rfl⟩, q⟩
theorem opI0 {f : Value → Value → Sem Value} {g : Int → Int → Int}
  (rule : ∀ (i j : Int) (t u : Tok) (s : Shared) (Q : Value → Shared → Prop) (E : Value → Shared → Prop), Q (.int (g i j) s.toks) { s with toks := s.toks + 1 } → wpAny (model X.prog X.w) X.A (f (.int i t) (.int j u)) Q E s) :
  OpR X f (rI0 fun i j => .int (g i j)) := by
 intro pins s σ H x y v u Q I rx ry h
 obtain ⟨i, j, rfl, rfl, q⟩ := h
 obtain ⟨t, rfl⟩ := rx
 obtain ⟨t', rfl⟩ := ry
 exact rule i j t t' s _ _ ⟨.int (g i j), H, I.tok _, ⟨_, rfl⟩, q⟩
theorem opB0 {f : Value → Value → Sem Value} {g : Int → Int → Bool}
  (rule : ∀ (i j : Int) (t u : Tok) (s : Shared) (Q : Value → Shared → Prop) (E : Value → Shared → Prop), Q (.bool (g i j)) s → wpAny (model X.prog X.w) X.A (f (.int i t) (.int j u)) Q E s) :
  OpR X f (rI0 fun i j => .bl (g i j)) := by
 intro pins s σ H x y v u Q I rx ry h
 obtain ⟨i, j, rfl, rfl, q⟩ := h
 obtain ⟨t, rfl⟩ := rx
 obtain ⟨t', rfl⟩ := ry
 exact rule i j t t' s _ _ ⟨.bl (g i j), H, I, rfl, q⟩

noncomputable def CPow (i j : Int) : Prop := 0 ≤ j ∧ j ≤ 1000000 ∧ i.natAbs < 2 ^ 64
theorem op_add : OpR X (binaryOp .Add) (rI0 fun i j => .int (i + j)) := opI0 fun _ _ _ _ _ _ _ q => add_int q
theorem op_sub : OpR X (binaryOp .Sub) (rI0 fun i j => .int (i - j)) := opI0 fun _ _ _ _ _ _ _ q => sub_int q
theorem op_mod : OpR X (binaryOp .Mod) (rI (fun _ j => 0 < j) fun i j => .int (i % j)) := opI fun i j _ _ _ _ _ hc q => by
 have h1 : (0 : Int) < j := hc
 exact mod_int' (by omega) (by rw [Int.fmod_eq_emod_of_nonneg i (by omega)]; exact q)
theorem op_pow : OpR X (binaryOp .Pow) (rI CPow fun i j => .int (i ^ j.toNat)) := opI fun _ _ _ _ _ _ _ hc q => pow_int_small hc.1 hc.2.1 hc.2.2 q
theorem unI {f : Value → Sem Value} {g : Int → Int}
  (rule : ∀ (i : Int) (t : Tok) (s : Shared) (Q : Value → Shared → Prop) (E : Value → Shared → Prop), Q (.int (g i) s.toks) { s with toks := s.toks + 1 } → wpAny (model X.prog X.w) X.A (f (.int i t)) Q E s) :
  UnR X f (rU fun i => .int (g i)) := by
 intro pins s σ H x v Q I rx h
 obtain ⟨i, rfl, q⟩ := h
 obtain ⟨t, rfl⟩ := rx
 exact rule i t s _ _ ⟨.int (g i), H, I.tok _, ⟨_, rfl⟩, q⟩
theorem un_neg : UnR X (unaryOp .USub) (rU fun i => .int (-i)) := unI fun _ _ _ _ _ q => neg_int q
end

noncomputable def scal : V → V → Bool
 | .non, .non => true | .non, .int _ => true | .int _, .non => true | .non, .bl _ => true | .bl _, .non => true | .non, .str _ => true | .str _, .non => true
 | .int _, .int _ => true | .bl _, .bl _ => true | .str _, .str _ => true | .byt _, .byt _ => true
 | .int _, .str _ => true | .str _, .int _ => true | .bl _, .str _ => true | .str _, .bl _ => true
 | _, _ => false
noncomputable def rEq : R2 := fun x y H Q => scal x y = true ∧ Q (.bl (decide (x = y))) H
noncomputable def rNe : R2 := fun x y H Q => scal x y = true ∧ Q (.bl (!decide (x = y))) H

theorem dec_int {i j : Int} : decide (V.int i = V.int j) = (i == j) := by
 rw [Bool.eq_iff_iff]
 simp
theorem dec_bl {i j : Bool} : decide (V.bl i = V.bl j) = (i == j) := by
 rw [Bool.eq_iff_iff]
 simp
theorem dec_str {i j : Str} : decide (V.str i = V.str j) = (i == j) := by
 rw [Bool.eq_iff_iff]
 simp
theorem dec_byt {i j : Array UInt8} : decide (V.byt i = V.byt j) = (i.toList == j.toList) := by
 rw [Bool.eq_iff_iff]
 cases i
 cases j
 simp

section
variable {X : Cx} {a b c : Expr} {ta tb tc : TE} {pos : Pos}
theorem fin_bl {pins : List (Addr × Obj)} {σ : St} {H : Hp} {s : Shared} {Q : VK} {k k' : Bool} (I : Inv X pins σ H s) (q : Q (.bl k) H) (e : k = k') : EP X pins σ Q (.bool k') s := by
 subst e
 exact ⟨.bl k, H, I, rfl, q⟩
theorem op_eq : OpR X (compareOp .Eq) rEq := by
 intro pins s σ H x y v u Q I rx ry h
 obtain ⟨hs, q⟩ := h
 cases x with
 | non =>
  cases rx
  cases y with
  | non => cases ry; exact PySem.EqNone.eq_none_none (fin_bl I q (by simp))
  | bl j => cases ry; exact PySem.EqNone.eq_none_bool (fin_bl I q (by simp))
  | int j => obtain ⟨t', rfl⟩ := ry; exact PySem.EqNone.eq_none_int (fin_bl I q (by simp))
  | str j => obtain ⟨t', rfl⟩ := ry; exact PySem.EqNone.eq_none_str (fin_bl I q (by simp))
  | _ => exact absurd (show false = true from hs) Bool.false_ne_true
 | bl i =>
  cases rx
  cases y with
  | non => cases ry; exact PySem.EqNone.eq_bool_none (fin_bl I q (by simp))
  | bl j => cases ry; exact eq_bool (fin_bl I q dec_bl)
  | str j => obtain ⟨t', rfl⟩ := ry; exact PySem.EqMixed.eq_bool_str (fin_bl I q (by simp))
  | _ => exact absurd (show false = true from hs) Bool.false_ne_true
 | int i =>
  obtain ⟨t, rfl⟩ := rx
  cases y with
  | non => cases ry; exact PySem.EqNone.eq_int_none (fin_bl I q (by simp))
  | int j => obtain ⟨t', rfl⟩ := ry; exact eq_int (fin_bl I q dec_int)
  | str j => obtain ⟨t', rfl⟩ := ry; exact PySem.EqMixed.eq_int_str (fin_bl I q (by simp))
  | _ => exact absurd (show false = true from hs) Bool.false_ne_true
 | str i =>
  obtain ⟨t, rfl⟩ := rx
  cases y with
  | non => cases ry; exact PySem.EqNone.eq_str_none (fin_bl I q (by simp))
  | bl j => cases ry; exact PySem.EqMixed.eq_str_bool (fin_bl I q (by simp))
  | int j => obtain ⟨t', rfl⟩ := ry; exact PySem.EqMixed.eq_str_int (fin_bl I q (by simp))
  | str j => obtain ⟨t', rfl⟩ := ry; exact eq_str (fin_bl I q dec_str)
  | _ => exact absurd (show false = true from hs) Bool.false_ne_true
 | byt i =>
  obtain ⟨t, rfl⟩ := rx
  cases y with
  | byt j => obtain ⟨t', rfl⟩ := ry; exact PySem.W.eq_bytes (fin_bl I q dec_byt)
  | _ => exact absurd (show false = true from hs) Bool.false_ne_true
 | _ => cases y <;> exact absurd (show false = true from hs) Bool.false_ne_true
theorem op_ne : OpR X (compareOp .NotEq) rNe := by
 intro pins s σ H x y v u Q I rx ry h
 obtain ⟨hs, q⟩ := h
 cases x with
 | non =>
  cases rx
  cases y with
  | non => cases ry; exact PySem.EqNone.ne_none_none (fin_bl I q (by simp))
  | bl j => cases ry; exact PySem.EqNone.ne_none_bool (fin_bl I q (by simp))
  | int j => obtain ⟨t', rfl⟩ := ry; exact PySem.EqNone.ne_none_int (fin_bl I q (by simp))
  | str j => obtain ⟨t', rfl⟩ := ry; exact PySem.EqNone.ne_none_str (fin_bl I q (by simp))
  | _ => exact absurd (show false = true from hs) Bool.false_ne_true
 | bl i =>
  cases rx
  cases y with
  | non => cases ry; exact PySem.EqNone.ne_bool_none (fin_bl I q (by simp))
  | bl j => cases ry; exact ne_bool (fin_bl I q (congrArg not dec_bl))
  | str j => obtain ⟨t', rfl⟩ := ry; exact PySem.EqMixed.ne_bool_str (fin_bl I q (by simp))
  | _ => exact absurd (show false = true from hs) Bool.false_ne_true
 | int i =>
  obtain ⟨t, rfl⟩ := rx
  cases y with
  | non => cases ry; exact PySem.EqNone.ne_int_none (fin_bl I q (by simp))
  | int j => obtain ⟨t', rfl⟩ := ry; exact ne_int (fin_bl I q (congrArg not dec_int))
  | str j => obtain ⟨t', rfl⟩ := ry; exact PySem.EqMixed.ne_int_str (fin_bl I q (by simp))
  | _ => exact absurd (show false = true from hs) Bool.false_ne_true
 | str i =>
  obtain ⟨t, rfl⟩ := rx
  cases y with
  | non => cases ry; exact PySem.EqNone.ne_str_none (fin_bl I q (by simp))
  | bl j => cases ry; exact PySem.EqMixed.ne_str_bool (fin_bl I q (by simp))
  | int j => obtain ⟨t', rfl⟩ := ry; exact PySem.EqMixed.ne_str_int (fin_bl I q (by simp))
  | str j => obtain ⟨t', rfl⟩ := ry; exact ne_str (fin_bl I q (congrArg not dec_str))
  | _ => exact absurd (show false = true from hs) Bool.false_ne_true
 | byt i =>
  obtain ⟨t, rfl⟩ := rx
  cases y with
  | byt j => obtain ⟨t', rfl⟩ := ry; exact PySem.W.ne_bytes (fin_bl I q (congrArg not dec_byt))
  | _ => exact absurd (show false = true from hs) Bool.false_ne_true
 | _ => cases y <;> exact absurd (show false = true from hs) Bool.false_ne_true

theorem op_lt : OpR X (compareOp .Lt) (rI0 fun i j => .bl (decide (i < j))) := opB0 fun _ _ _ _ _ _ _ q => lt_int q
theorem op_gt : OpR X (compareOp .Gt) (rI0 fun i j => .bl (decide (j < i))) := opB0 fun _ _ _ _ _ _ _ q => gt_int q
theorem op_ge : OpR X (compareOp .GtE) (rI0 fun i j => .bl (decide (j ≤ i))) := opB0 fun _ _ _ _ _ _ _ q => ge_int q
theorem xE (b : Expr) {op : CmpOp} (h : op ≠ .In := by decide) (h2 : op ≠ .NotIn := by decide) : behindInMarks op b = false := by
 have e1 : (op == CmpOp.In) = false := by cases op <;> first | rfl | exact absurd rfl h
 have e2 : (op == CmpOp.NotIn) = false := by cases op <;> first | rfl | exact absurd rfl h2
 cases b <;> simp [behindInMarks, e1, e2]
theorem pe_cmpR {op : CmpOp} {r : R2} (ho : OpR X (compareOp op) r) (ha : PE X a ta) (hb : PE X b tb) (hm : behindInMarks op b = false) : PE X (.Compare a [op] [b] pos) (tOp r ta tb) := by
 intro pins s σ H Q I h
 exact wpAny_Compare1 (binT ha hb I h fun v u s2 x y H2 I2 rx ry q => ho pins s2 σ H2 x y v u Q I2 rx ry q) hm
noncomputable def tTest (t : TE) : TT := fun σ H Q => t σ H fun x H' => ∃ k, x = .bl k ∧ Q k H'
theorem qS {op : CmpOp} {r : R2} (ho : OpR X (compareOp op) r) (ha : PE X a ta) (hb : PE X b tb) (hm : behindInMarks op b = false) : PT X (.Compare a [op] [b] pos) (tTest (tOp r ta tb)) := by
 intro pins s σ H Q I h
 refine wpAny_isTrue_Compare1 (thn (ha pins s σ H _ I h) fun v s1 ⟨x, H1, I1, r1, q1⟩ => thn (hb pins s1 σ H1 _ I1 q1) fun u s2 ⟨y, H2, I2, r2, q2⟩ =>
  thn (ho pins s2 σ H2 x y v u _ I2 r1 r2 q2) fun c s3 ⟨z, H3, I3, r3, k, e, q3⟩ => ?_) hm
 subst e
 cases r3
 exact wpAny_truthy_bool ⟨H3, I3, q3⟩
theorem line63 : (sizeLine : Nat) < 2 ^ 63 := by rw [sizeLine_eq]; decide
theorem op_add_str : OpR X (binaryOp .Add) (fun x y H Q => ∃ i j, x = .str i ∧ y = .str j ∧ i.length + j.length ≤ sizeLine ∧ Q (.str (i ++ j)) H) := by
 intro pins s σ H x y v u Q I rx ry h
 obtain ⟨i, j, rfl, rfl, hz, q⟩ := h
 obtain ⟨t, rfl⟩ := rx
 obtain ⟨t', rfl⟩ := ry
 exact add_str (fun t' tk => ⟨.str (i ++ j), H, I.tok _, ⟨_, rfl⟩, q⟩) hz
theorem vals1 {x : V} {us : List Value} (r : Vals [x] us) : ∃ u, us = [u] ∧ RelV x u := by
 cases r with
 | cons r1 r2 => cases r2; exact ⟨_, rfl, r1⟩
theorem vals2 {x y : V} {us : List Value} (r : Vals [x, y] us) : ∃ u w', us = [u, w'] ∧ RelV x u ∧ RelV y w' := by
 cases r with
 | cons r1 r2 =>
  cases r2 with
  | cons r3 r4 => cases r4; exact ⟨_, _, rfl, r1, r3⟩
theorem call_min2 (hc : X.calm = true) : CallR X (.builtin "min") (fun xs H Q => ∃ i j, xs = [.int i, .int j] ∧ Q (.int (if j < i then j else i)) H) := by
 intro pins s σ H xs us Q I r h
 obtain ⟨i, j, rfl, q⟩ := h
 obtain ⟨u, w', rfl, ⟨t, rfl⟩, ⟨t', rfl⟩⟩ := vals2 r
 refine min_two_ints (I.ok.hd hc) fun h' tk k => ⟨_, H, I.kept k, ?_, q⟩
 by_cases hj : j < i
 ·rw [if_pos hj, if_pos hj]; exact ⟨_, rfl⟩
 ·rw [if_neg hj, if_neg hj]; exact ⟨_, rfl⟩
theorem call_int1 : CallR X (.type "int") (fun xs H Q => (∃ i, xs = [.int i] ∧ Q (.int i) H) ∨ ∃ k, xs = [.bl k] ∧ Q (.int (if k then 1 else 0)) H) := by
 intro pins s σ H xs us Q I r h
 rcases h with ⟨i, rfl, q⟩ | ⟨k, rfl, q⟩
 ·obtain ⟨u, rfl, t, rfl⟩ := vals1 r
  exact call_int_int ⟨.int i, H, I, ⟨_, rfl⟩, q⟩
 ·obtain ⟨u, rfl, r1⟩ := vals1 r
  cases r1
  exact call_int_bool ⟨.int (if k then 1 else 0), H, I.tok _, ⟨_, rfl⟩, q⟩
end
end L2

namespace L2
open PySem PySem.Spec PyProof.Rows

structure ObjM (h : Heap) (x dx C : Addr) (mA : Str → Option Value) : Prop where
 obj : h.get? x = some (PySem.W.instObj C dx)
 ns : h.Ns1 dx mA
 ne : dx ≠ x

theorem lookIn_ns {h : Heap} {dx : Addr} {mA : Str → Option Value} (n : h.Ns1 dx mA) : ∃ od, h.get? dx = some od ∧ ∀ name, PySem.W.lookIn name od = some (mA name) := by
 obtain ⟨o, es, ep, ho, hd, hk, _, hm⟩ := n
 refine ⟨o, ho, fun name => ?_⟩
 have e := hm name
 unfold nsFind findBy at e
 rw [← Array.find?_toList] at e
 unfold PySem.W.lookIn
 rw [hd]
 dsimp only
 split
 ·rename_i y q
  rw [q] at e
  exact congrArg some e
 ·rename_i q
  rw [q] at e
  have a : es.toList.any (·.refKey) = false := by
   rw [List.any_eq_false]
   intro y hy
   obtain ⟨z, t, hkey⟩ := hk y (Array.mem_toList_iff.mp hy)
   simp [DictEntry.refKey, hkey]
  have a' : ¬ es.toList.any (·.refKey) = true := by rw [a]; exact Bool.false_ne_true
  rw [if_neg a']
  exact congrArg some e

theorem ObjM.look {h : Heap} {x dx C : Addr} {mA : Str → Option Value} (I : ObjM h x dx C mA) : ∃ od, PySem.W.InstAt h x (PySem.W.instObj C dx) C (some od) ∧ ∀ name, PySem.W.lookIn name od = some (mA name) :=
 let ⟨od, ho, hl⟩ := lookIn_ns I.ns
 ⟨od, ⟨I.obj, rfl, rfl, ho⟩, hl⟩

section
variable {prog : Program} {w : World} {A : Around} {E : Value → Shared → Prop} {s : Shared} {K : PySem.W.Frag} {x dx C f : Addr} {mA : Str → Option Value} {name : Str} {v : Value}

end

theorem RelO.some_of {v : V} {o : Option Value} (r : RelO (some v) o) : ∃ u, o = some u ∧ RelV v u := by
 cases o with
 | none => exact (show False from r).elim
 | some u => exact ⟨u, rfl, r⟩
section
variable {P : Program} {w : World} {H H' : Hp} {h h' : Heap} {a C dx : Addr} {fs fs' : List (Str × V)}
theorem ins_get (hok : HOk P w H h) (e : H a = some (.ins C dx fs)) : ∃ mA, ObjM h a dx C mA ∧ (∀ f, RelO (fs.lookup f) (mA f)) ∧ PySem.Within mA (fs.map (·.1)) ∧ fs.length ≤ 1000 ∧ H dx = some (.own a) := by
 obtain ⟨d, z, ne, ob, mA, n, r, q⟩ := (show ObjOk P w H h a (.ins C dx fs) from hok a _ e)
 exact ⟨mA, ⟨ob, n, ne⟩, r, q, z, d⟩
end

structure Cls (K : PySem.W.Frag) (C : Addr) : Prop where
 pg : PySem.W.plainGet K C Str.empty = true
 hd : PySem.W.hasDictIn K C = true
 po : PySem.W.plainOver K C = true
 sa : PySem.W.findIn K (.ref C) "__setattr__" = some (some (.builtin "object.__setattr__"))
theorem Cls.get {K : PySem.W.Frag} {C : Addr} (c : Cls K C) (f : Str) : PySem.W.plainGet K C f = true := c.pg
section
variable {X : Cx} {pins : List (Addr × Obj)} {σ : St} {H : Hp} {s : Shared} {a C dx : Addr} {fs : List (Str × V)} {f : Str} {v : V} {A : Around} {E : Value → Shared → Prop}

end

section
variable {X : Cx} {o e value : Expr} {f : Str} {pos pos' tpos : Pos} {ta tv : TE}
end

section
variable {X : Cx} {pins : List (Addr × Obj)} {σ : St} {H : Hp} {s : Shared} {A : Around} {E : Value → Shared → Prop} {Q : Value → Shared → Prop} {c : Value} {b : Bool}
inductive TyOf (K : PySem.W.Frag) (H : Hp) : V → Value → Prop where
 | non : TyOf K H .non (.type "NoneType")
 | bl (x : Bool) : TyOf K H (.bl x) (.type "bool")
 | int (i : Int) : TyOf K H (.int i) (.type "int")
 | str (x : Str) : TyOf K H (.str x) (.type "str")
 | flt (x : UInt64) : TyOf K H (.flt x) (.type "float")
 | lst {a : Addr} {xs : List V} (e : H a = some (.lst xs)) : TyOf K H (.ref a) (.type "list")
 | frz {a : Addr} {o : Obj} {xs : List V} (e : H a = some (.frz o (.lst xs))) : TyOf K H (.ref a) (.type "list")
 | tup {a : Addr} {xs : List V} (e : H a = some (.tup xs)) : TyOf K H (.ref a) (.type "tuple")
 | dK {a : Addr} {kvs : List (Key × V)} (e : H a = some (.dK kvs)) : TyOf K H (.ref a) (.type "dict")
 | dT {a : Addr} {kvs : List (List Key × V)} (e : H a = some (.dT kvs)) : TyOf K H (.ref a) (.type "dict")
 | ins {a C dx : Addr} {fs : List (Str × V)} (e : H a = some (.ins C dx fs)) (cl : Cls K C) (ha : PySem.W.findIn K (.ref C) "__class__" = some (some (.builtin "object.__class__")))
   (hn : PySem.W.specialIn K (.builtin "object.__class__") "__get__" = some (some (.builtin "getset_descriptor.__get__"))) (htk : PySem.W.takesIn K (.builtin "object.__class__") = some true)
   (hm : PySem.W.mroIn K C (.type "object") = some true) : TyOf K H (.ref a) (.ref C)
theorem isinst_ok {x : V} {u t : Value} (I : Inv X pins σ H s) (rx : RelV x u) (ty : TyOf X.K H x t) (e : PySem.W.kitOne X.K t c = some b) (h : ∀ tk, Q (.bool b) { s with toks := tk }) :
  wpAny (model X.prog X.w) A (call (.builtin "isinstance") [u, c]) Q E s := by
 cases ty with
 | non => cases (show u = Value.none from rx); exact PySem.W.kia_one PySem.W.kitx_none I.kIn True.intro e (fun z => nomatch z) h
 | bl y => cases (show u = Value.bool y from rx); exact PySem.W.kia_one PySem.W.kitx_bool I.kIn True.intro e (fun z => nomatch z) h
 | int i => obtain ⟨t, q⟩ := (show ∃ t, u = Value.int i t from rx); cases q; exact PySem.W.kia_one PySem.W.kitx_int I.kIn True.intro e (fun z => nomatch z) h
 | str y => obtain ⟨t, q⟩ := (show ∃ t, u = Value.str y t from rx); cases q; exact PySem.W.kia_one PySem.W.kitx_str I.kIn True.intro e (fun z => nomatch z) h
 | flt y => obtain ⟨t, q⟩ := (show ∃ t, u = Value.float y t from rx); cases q; exact PySem.W.kia_one PySem.W.kitx_float I.kIn True.intro e (fun z => nomatch z) h
 | @lst a xs ea =>
  cases (show u = Value.ref a from rx)
  obtain ⟨_, _, n, _, h1⟩ := (show ObjOk X.prog X.w H s.heap a (.lst xs) from I.hok a _ ea)
  exact PySem.W.kia_one PySem.W.kitx_list I.kIn ⟨_, h1, rfl⟩ e (fun z => nomatch z) h
 | @frz a ob xs ea =>
  cases (show u = Value.ref a from rx)
  obtain ⟨_, _, _, n, _, h1⟩ := (show ObjOk X.prog X.w H s.heap a (.frz ob (.lst xs)) from I.hok a _ ea)
  exact PySem.W.kia_one PySem.W.kitx_list I.kIn ⟨_, h1, rfl⟩ e (fun z => nomatch z) h
 | @tup a xs ea =>
  cases (show u = Value.ref a from rx)
  obtain ⟨_, _, _, p⟩ := (show ObjOk X.prog X.w H s.heap a (.tup xs) from I.hok a _ ea)
  obtain ⟨o, h1, h2, _⟩ := p
  exact PySem.W.kia_one PySem.W.kitx_tuple I.kIn ⟨o, h1, h2⟩ e (fun z => nomatch z) h
 | @dK a kvs ea =>
  cases (show u = Value.ref a from rx)
  obtain ⟨_, _, vs, _, p⟩ := (show ObjOk X.prog X.w H s.heap a (.dK kvs) from I.hok a _ ea)
  obtain ⟨o, es, ep, h1, h2, _⟩ := p
  exact PySem.W.kia_one PySem.W.kitx_dict I.kIn ⟨o, h1, h2.1⟩ e (fun z => nomatch z) h
 | @dT a kvs ea =>
  cases (show u = Value.ref a from rx)
  obtain ⟨_, _, xs, _, o, es, ep, h1, h2, _⟩ := (show ObjOk X.prog X.w H s.heap a (.dT kvs) from I.hok a _ ea)
  exact PySem.W.kia_one PySem.W.kitx_dict I.kIn ⟨o, h1, h2.1⟩ e (fun z => nomatch z) h
 | @ins a C dx fs ea cl ha hn htk hm =>
  cases (show u = Value.ref a from rx)
  obtain ⟨mA, O, _⟩ := ins_get I.hok ea
  obtain ⟨od, J, _⟩ := O.look
  exact PySem.W.kia_one (PySem.W.kitx_own (cl.get _) cl.hd ha hn htk hm) I.kIn J e (fun z => nomatch z) h
end
end L2

namespace L2
open PySem PySem.Spec PyProof.Rows

structure Room (k : Nat) (A : Around) : Prop where
 hd : A.handled = none
 dp : A.depth + 3 * k + 5 < recursionLimit
 un : A.units + 16 * k + 200 < cLine
theorem Room.mono {j k : Nat} {A : Around} (r : Room k A) (h : j ≤ k) : Room j A := ⟨r.hd, by have := r.dp; omega, by have := r.un; omega⟩
theorem Room.deeper {k : Nat} {A : Around} (r : Room (k + 1) A) (env : Env) : Room k (A.deeper env) :=
 ⟨r.hd, by have := r.dp; show A.depth + 1 + 3 * k + 5 < _; omega, by have := r.un; show A.units + 3 + 16 * k + 200 < _; omega⟩
theorem Room.depth {k : Nat} {A : Around} (r : Room k A) : A.depth < recursionLimit := by have := r.dp; omega
theorem Room.units {k : Nat} {A : Around} (r : Room k A) : A.units + 64 < cLine := by have := r.un; omega
noncomputable def tNil : TA := fun _ H Q => Q [] H
noncomputable def tCons (ta : TE) (tr : TA) : TA := fun σ H Q => ta σ H fun x H1 => tr σ H1 fun xs H2 => Q (x :: xs) H2
section
variable {X : Cx} {e : Expr} {es : List Expr} {te : TE} {t : TA} {pos : Pos}
theorem qX : PA X [] tNil := fun _ _ _ _ H Q I h => Calls.spliced_nil ⟨[], H, I, .nil, h⟩
theorem qQ (ha : PE X e te) (hr : PA X es t) (hs : starEach (e :: es) X.env = (false, eval e X.env) :: starEach es X.env := by rfl) : PA X (e :: es) (tCons te t) := by
 intro pos pins s σ H Q I h
 rw [hs]
 show wpAny _ _ (spliced ((false, eval e X.env) :: backTo pos (starEach es X.env))) _ _ s
 refine Calls.spliced_cons (thn (ha pins s σ H _ I h) fun u s1 ⟨x, H1, I1, r1, q1⟩ => ?_)
 exact thn (hr pos pins s1 σ H1 _ I1 q1) fun us s2 ⟨xs, H2, I2, r2, q2⟩ => ⟨x :: xs, H2, I2, .cons r1 r2, q2⟩

noncomputable def tTup (t : TA) : TE := fun σ H Q => t σ H fun xs H1 => xs.length ≤ sizeLine ∧ ∀ p, H1 p = none → Q (.ref p) (upd H1 p (.tup xs))
noncomputable def tLst (t : TA) : TE := fun σ H Q => t σ H fun xs H1 => xs.length ≤ sizeLine ∧ ∀ p, H1 p = none → Q (.ref p) (upd H1 p (.lst xs))
theorem pe_tup {x1} (h : PA X es t) : PE X (.Tuple es x1 pos) (tTup t) := by
 intro pins s σ H Q I hq
 refine wpAny_Tuple_spliced (thn (h pos pins s σ H _ I hq) fun us s1 ⟨xs, H1, I1, r, z, q⟩ => ⟨by rw [← r.length]; exact z, ?_⟩)
 have hf : H1 s1.heap.objs.size = none := I1.hok.fresh (Nat.le_refl _)
 refine ⟨.ref s1.heap.objs.size, upd H1 s1.heap.objs.size (.tup xs), I1.laid (t' := s1.toks) (fun b u e => Heap.get?_push_of_some _ e) (Nat.le_refl _) ?_, rfl, q _ hf⟩
 exact ⟨z, us, r, ⟨_, Heap.get?_push_size _ rfl, rfl, _, rfl, rfl⟩⟩
theorem pe_lst (h : PA X es t) : PE X (.List es pos) (tLst t) := by
 intro pins s σ H Q I hq
 refine wpAny_List_spliced (thn (h pos pins s σ H _ I hq) fun us s1 ⟨xs, H1, I1, r, z, q⟩ => ⟨by rw [← r.length]; exact z, ?_⟩)
 have hf : H1 s1.heap.objs.size = none := I1.hok.fresh (Nat.le_refl _)
 refine ⟨.ref s1.heap.objs.size, upd H1 s1.heap.objs.size (.lst xs), I1.laid (t' := s1.toks) (fun b u e => Heap.get?_push_of_some _ e) (Nat.le_refl _) ?_, rfl, q _ hf⟩
 exact ⟨z, us, 0, r, Heap.get?_push_size _ rfl⟩
end

noncomputable abbrev Sp := List V → Hp → VK → XK → Prop
noncomputable abbrev CXT := List Env → Hp → Shared → XK → Value → Shared → Prop

structure Env0 (P : Program) (w : World) (K : PySem.W.Frag) (mg : Str → Option Value) (base : Heap) (A : Around) (outer : List Env) (s : Shared) (H : Hp) : Prop where
 frames : A.frames = some outer
 mod : Mod K mg base
 bs : ∀ b o, base.get? b = some o → s.heap.get? b = some o ∧ H b = none
 bsz : base.objs.size ≤ s.heap.objs.size
 funs : s.heap.FunFrames base outer
 frf : ∀ b ∈ frs outer, H b = none
 hok : HOk P w H s.heap
 bare : AllBare s.gens
noncomputable def CE (outer : List Env) (P : Program) (w : World) (H : Hp) (s : Shared) (Q : VK) (u : Value) (s' : Shared) : Prop :=
 ∃ v H', s'.os = s.os ∧ AllBare s'.gens ∧ Un (frs outer) [] H H' s.heap s'.heap ∧ HOk P w H' s'.heap ∧ RelV v u ∧ Q v H'
noncomputable def CR (CX : CXT) (outer : List Env) (P : Program) (w : World) (H : Hp) (s : Shared) (Q : VK) (E : XK) (r : Result) (s' : Shared) : Prop :=
 match r with
 | .ok (.ret u) => CE outer P w H s Q u s'
 | .ok _ => False
 | .error e => CX outer H s E e s'
structure FnOk (P : Program) (w : World) (K : PySem.W.Frag) (mg : Str → Option Value) (base : Heap) (CX : CXT) (k : Nat) (f : Addr) (fd : FuncData) (ps : List Str) (sp : Sp) : Prop where
 len : ∀ vs H Q E, sp vs H Q E → vs.length = ps.length
 run : ∀ (A : Around) (outer : List Env) (s : Shared) (H : Hp) (args : Args) (us : List Value) (vs : List V) (Q : VK) (E : XK), Room k A → Env0 P w K mg base A outer s H → BindsTo s fd args (ps.zip us) → Vals vs us → sp vs H Q E →
  codeAny (model P w) A (.call (.ref f) args) (CR CX outer P w H s Q E) s
theorem FnOk.mono {P : Program} {w : World} {K : PySem.W.Frag} {mg : Str → Option Value} {base : Heap} {CX : CXT} {j k : Nat} {f : Addr} {fd : FuncData} {ps : List Str} {sp : Sp} (F : FnOk P w K mg base CX j f fd ps sp) (h : j ≤ k) :
  FnOk P w K mg base CX k f fd ps sp := ⟨F.len, fun A outer s H args us vs Q E hr => F.run A outer s H args us vs Q E (hr.mono h)⟩
section
variable {X : Cx} {pins : List (Addr × Obj)} {σ : St} {H : Hp} {s s' : Shared}
theorem Inv.env0 (I : Inv X pins σ H s) : Env0 X.prog X.w X.K X.mg X.base X.A X.stack s H :=
 ⟨I.ok.frames, I.ok.mod, I.bs, Nat.le_trans I.ok.bsz I.sz, I.stack, I.stkFree, I.hok, I.bare⟩
theorem Inv.after {Q : VK} {u : Value} (I : Inv X pins σ H s) (h : CE X.stack X.prog X.w H s Q u s') : EP X pins σ Q u s' := by
 obtain ⟨v, H', os, bare, un, hok, r, q⟩ := h
 obtain ⟨hh, g, d, t, os'⟩ := s'
 obtain rfl : os' = s.os := os
 exact ⟨v, H', I.call (h' := hh) (g' := g) (d' := d) (t' := t) (ch := []) un hok bare (fun b z => absurd z (by simp)), r, q⟩
end

noncomputable def tCall (sp : Sp) (dvs : List V) (E : XK) (t : TA) : TE := fun σ H Q => t σ H fun vs H1 => sp (vs ++ dvs) H1 Q E
noncomputable def Binds (K : PySem.W.Frag) (fd : FuncData) (ps : List Str) (ds : List Value) : Prop :=
 ∀ (s : Shared) (us : List Value), K.In s.heap → (us ++ ds).length = ps.length → BindsTo s fd ⟨us, []⟩ (ps.zip (us ++ ds))
theorem Binds.all {K : PySem.W.Frag} {fd : FuncData} {ps : List Str} (h : ∀ us : List Value, us.length = ps.length → bindArgs fd ⟨us, []⟩ = pure (ps.zip us)) : Binds K fd ps [] := fun s us _ hl => by
 rw [List.append_nil] at hl ⊢
 exact .of_eq (h us hl)

noncomputable def Passes (CX : CXT) (X : Cx) (E : XK) : Prop := ∀ (pins : List (Addr × Obj)) (σ : St) (H : Hp) (s : Shared) (e : Value) (s' : Shared), Inv X pins σ H s → CX X.stack H s E e s' → X.xe e s'

section
variable {X : Cx} {CX : CXT} {k : Nat} {f C : Addr} {fd : FuncData} {ps : List Str} {sp : Sp} {dvs : List V} {ds : List Value} {E : XK} {x m : Str} {p pos apos : Pos} {e o : Expr} {es : List Expr} {ta : TE} {t : TA}

theorem run_fn {pins : List (Addr × Obj)} {σ : St} {H : Hp} {s : Shared} {Q : VK} {us : List Value} {vs : List V} (F : FnOk X.prog X.w X.K X.mg X.base CX k f fd ps sp) (hr : Room k X.A) (hb : Binds X.K fd ps ds) (hd : Vals dvs ds) (hx : Passes CX X E)
  (I : Inv X pins σ H s) (r : Vals vs us) (h : sp (vs ++ dvs) H Q E) : wpAny (model X.prog X.w) X.A (call (.ref f) us) (EP X pins σ Q) X.xe s := by
 have r2 : Vals (vs ++ dvs) (us ++ ds) := r.append hd
 have hl : (us ++ ds).length = ps.length := by rw [← r2.length]; exact F.len _ _ _ _ h
 refine wpAny_call (codeAny_mono (F.run X.A X.stack s H ⟨us, []⟩ (us ++ ds) (vs ++ dvs) Q E hr I.env0 (hb s us I.kIn hl) r2 h) fun r s' hq => ?_)
 cases r with
 | error e => exact hx pins σ H s e s' I hq
 | ok fl =>
  cases fl with
  | ret u => exact I.after hq
  | next => exact False.elim hq
  | brk => exact False.elim hq
  | cont => exact False.elim hq

theorem pe_call (F : FnOk X.prog X.w X.K X.mg X.base CX k f fd ps sp) (hr : Room k X.A) (hg : Gl X x) (hm : X.mg x = some (.ref f)) (hk : PySem.W.keepIn X.K (.ref f) = true) (hb : Binds X.K fd ps ds) (hd : Vals dvs ds) (hx : Passes CX X E)
  (ha : PA X (e :: es) t) (hdb : (x == ("__debug__" : Str)) = false := by decide) (he : starEach (e :: es) X.env = (false, eval e X.env) :: starEach es X.env := by rfl) (hpl : (backTo pos (starEach es X.env)).any (·.1) = false := by rfl) :
  PE X (.Call (.Name x p) (e :: es) [] pos) (tCall sp dvs E t) := by
 intro pins s σ H Q I h
 refine wpAny_Call_Name_kw (ld_glob I hg hm ?_ hdb)
 refine PySem.W.callWith_K (h₀ := X.base) I.ok.mod.kin hk (thn (ha pos pins s σ H _ I h) fun us s1 ⟨vs, H1, I1, r, q⟩ => ⟨I1.kIn, ?_⟩) he hpl
 exact run_fn F hr hb hd hx I1 r q
end

section
variable {X : Cx} {CX : CXT} {k : Nat} {f C : Addr} {fd : FuncData} {ps ks : List Str} {sp : Sp} {E : XK} {x m : Str} {p pos apos kpos : Pos} {e o : Expr} {es : List Expr} {kws : List Keyword} {te ta : TE} {t tk : TA} {nm : Option Str}
variable {g : List Value → List Value → List Value} {gV : List V → List V → List V}
end

structure FnScope (N P : List Str) (sc : Scope) : Prop where
 kind : sc.kind = .function
 co : sc.isCoroutine = false
 gen : sc.isGenerator = false
 nd : N.Nodup
 pre : N.take P.length = P
 par : ∀ x ∈ P, sc.names.lookup x = some .local ∨ sc.names.lookup x = some .cell
 nofree : ∀ y ∈ sc.names, y.2 ≠ .free

theorem bindL_out {kindOf : Str → Option NameKind} {x : Str} : ∀ {binds : List (Str × Value)} {m : Str → Option Value}, (∀ v, (x, v) ∉ binds) → bindL kindOf binds m x = m x
 | [], _, _ => rfl
 | (n, v) :: r, m, h => by
  unfold bindL
  rw [bindL_out fun w hw => h w (List.mem_cons_of_mem _ hw)]
  split
  ·have : x ≠ n := by rintro rfl; exact h v List.mem_cons_self
   simp [this]
  ·rfl
theorem bindC_out {kindOf : Str → Option NameKind} {x : Str} : ∀ {binds : List (Str × Value)} {m : Str → Option Value}, (∀ v, (x, v) ∉ binds) → bindC kindOf binds m x = m x
 | [], _, _ => rfl
 | (n, v) :: r, m, h => by
  unfold bindC
  rw [bindC_out fun w hw => h w (List.mem_cons_of_mem _ hw)]
  split
  ·rfl
  ·have : x ≠ n := by rintro rfl; exact h v List.mem_cons_self
   simp [this]
theorem bindL_get {kindOf : Str → Option NameKind} {x : Str} {v : Value} : ∀ {P : List Str} {vs : List Value} {i : Nat} {m : Str → Option Value}, P.Nodup → P[i]? = some x → vs[i]? = some v → kindOf x = some .local →
  bindL kindOf (P.zip vs) m x = some v
 | [], _, _, _, _, h, _, _ => by simp at h
 | _ :: _, [], _, _, _, _, h, _ => by simp at h
 | p :: P, w :: vs, 0, m, nd, h1, h2, hk => by
  simp at h1 h2; subst h1; subst h2
  show bindL kindOf ((p, w) :: P.zip vs) m p = _
  unfold bindL
  rw [bindL_out fun v hv => (List.nodup_cons.mp nd).1 (List.of_mem_zip hv).1, if_pos hk]
  simp
 | p :: P, w :: vs, i + 1, m, nd, h1, h2, hk => by
  show bindL kindOf ((p, w) :: P.zip vs) m x = _
  unfold bindL
  exact bindL_get (i := i) (List.nodup_cons.mp nd).2 (by simpa using h1) (by simpa using h2) hk
theorem bindC_get {kindOf : Str → Option NameKind} {x : Str} {v : Value} : ∀ {P : List Str} {vs : List Value} {i : Nat} {m : Str → Option Value}, P.Nodup → P[i]? = some x → vs[i]? = some v → kindOf x ≠ some .local →
  bindC kindOf (P.zip vs) m x = some v
 | [], _, _, _, _, h, _, _ => by simp at h
 | _ :: _, [], _, _, _, _, h, _ => by simp at h
 | p :: P, w :: vs, 0, m, nd, h1, h2, hk => by
  simp at h1 h2; subst h1; subst h2
  show bindC kindOf ((p, w) :: P.zip vs) m p = _
  unfold bindC
  rw [bindC_out fun v hv => (List.nodup_cons.mp nd).1 (List.of_mem_zip hv).1, if_neg hk]
  simp
 | p :: P, w :: vs, i + 1, m, nd, h1, h2, hk => by
  show bindC kindOf ((p, w) :: P.zip vs) m x = _
  unfold bindC
  exact bindC_get (i := i) (List.nodup_cons.mp nd).2 (by simpa using h1) (by simpa using h2) hk

noncomputable def start (N : List Str) (vs : List V) : St := vs.map some ++ List.replicate (N.length - vs.length) none

noncomputable def cxOf (CX : CXT) (P : Program) (w : World) (K : PySem.W.Frag) (mg : Str → Option Value) (base : Heap) (N : List Str) (qual : Str) (scope : Scope) (f : Addr) (cd : Value) (A : Around) (outer : List Env) (s : Shared) (H : Hp) (E : XK) : Cx where
 prog := P
 w := w
 K := K
 mg := mg
 base := base
 A := A.deeper (envOfC qual scope s.heap.objs.size f cd)
 N := N
 s₀ := s
 H₀ := H
 env := envOfC qual scope s.heap.objs.size f cd
 outer := outer
 stack := envOfC qual scope s.heap.objs.size f cd :: outer
 ex := []
 calm := true
 fn := fun _ => true
 pn := []
 xe := fun e s' => wpAny (model P w) (A.deeper (envOfC qual scope s.heap.objs.size f cd)) (leaving (envOfC qual scope s.heap.objs.size f cd) e) (fun _ s'' => CX outer H s E e s'') (fun e' s'' => CX outer H s E e' s'') s'

theorem cell_has {sc : Scope} {n : Nat} {x : Str} (h : sc.names.lookup x = some .cell) : ∃ c, (cellsFrom n sc.names []).lookup x = some c := by
 have q := PySem.W.cellsFrom_some sc.names n [] (.inl h)
 exact Option.isSome_iff_exists.mp q

theorem inv_start {CX : CXT} {P : Program} {w : World} {K : PySem.W.Frag} {mg : Str → Option Value} {base : Heap} {N ps : List Str} {qual : Str} {scope : Scope} {f : Addr} {cd : Value} {A : Around} {outer : List Env} {s s1 : Shared} {H : Hp} {E : XK} {us : List Value} {vs : List V}
  (S : FnScope N ps scope) (hd : A.handled = none) (e0 : Env0 P w K mg base A outer s H) (hl : vs.length = ps.length) (r : Vals vs us)
  (x : InCallC s s.heap.objs.size (bindL (envOfC qual scope s.heap.objs.size f cd).kindOf (ps.zip us) fun _ => none) (cellsFrom (s.heap.objs.size + 1) scope.names []) (bindC (envOfC qual scope s.heap.objs.size f cd).kindOf (ps.zip us) fun _ => none) s1) :
  Inv (cxOf CX P w K mg base N qual scope f cd A outer s H E) [] (start N vs) H s1 := by
 have hpl : ps.length ≤ N.length := by have := congrArg List.length S.pre; rw [List.length_take] at this; omega
 obtain ⟨h1, tk, rfl, hk⟩ := x.done
 have noA : ∀ b : Addr, b ∉ (cxOf CX P w K mg base N qual scope f cd A outer s H E).ex := fun b z => absurd (show b ∈ ([] : List Addr) from z) (by simp)
 refine ⟨⟨e0.mod, S.kind, rfl, rfl, Nat.le_refl _, fun y z c h1 h2 => ?_, fun y hy => ?_, fun y c _ h => ?_, fun _ => hd, Around.frames_deeper e0.frames, .inr ⟨rfl, rfl⟩, fun b z => absurd z (noA b), e0.bs, e0.bsz, fun b _ _ => noA b, fun b z => absurd z (noA b), e0.funs, e0.frf⟩,
  rfl, e0.bare, Un.kept hk, ⟨_, x.toInCall.ns, fun i y v h1 h2 h3 => ?_⟩, fun y c h => ⟨_, x.cell y c h⟩, e0.hok.fresh (Nat.le_refl _), fun y c h => ?_, fun p hp => absurd (show p ∈ ([] : List (Addr × Obj)) from hp) (by simp), e0.hok.kept hk, ?_⟩
 ·exact name_of_addr x.apart (PySem.mem_of_lookup h1) (PySem.mem_of_lookup h2)
 ·have hy : scope.names.lookup y = some .cell ∨ scope.names.lookup y = some .free := hy
  rcases hy with hy | hy
  ·exact cell_has hy
  ·exact absurd rfl (S.nofree _ (PySem.mem_of_lookup hy))
 ·exact Nat.le_of_lt (x.above y c (PySem.mem_of_lookup h))
 ·have hi : i < vs.length := by
   unfold start at h2
   by_cases hi : i < vs.length
   ·exact hi
   ·rw [List.getElem?_append_right (by simpa using hi)] at h2
    rw [List.getElem?_replicate] at h2
    split at h2 <;> cases h2
  have ha : vs[i]? = some v := by
   unfold start at h2
   rw [List.getElem?_append_left (by simpa using hi), List.getElem?_map] at h2
   cases e : vs[i]? with
   | none => rw [e] at h2; cases h2
   | some a => rw [e] at h2; cases h2; rfl
  obtain ⟨u, hu, rv⟩ := r.get ha
  have hp : ps[i]? = some y := by
   rw [← S.pre, List.getElem?_take_of_lt (by omega)]; exact h1
  have ndP : ps.Nodup := by rw [← S.pre]; exact S.nd.sublist (List.take_sublist _ _)
  refine ⟨u, rv, ?_⟩
  rcases S.par y (List.mem_of_getElem? hp) with k | k
  ·exact .inl ⟨k, bindL_get ndP hp hu k⟩
  ·obtain ⟨c, e⟩ := cell_has (n := s.heap.objs.size + 1) k
   refine .inr ⟨.inl k, c, e, ?_⟩
   have q := x.cell y c e
   rw [bindC_get ndP hp hu (by show scope.names.lookup y ≠ _; rw [k]; decide)] at q
   exact q
 ·exact e0.hok.fresh (Nat.le_of_lt (x.above y c (PySem.mem_of_lookup h)))
 ·unfold start
  show _ = N.length
  rw [List.length_append, List.length_map, List.length_replicate]
  omega

theorem fn_of {CX : CXT} {P : Program} {w : World} {K : PySem.W.Frag} {mg : Str → Option Value} {base : Heap} {k : Nat} {f : Addr} {name qual : Str} {params : Arguments} {body : List Stmt} {scope : Scope} {dV kV doc pm cdv ct oc : Value} {an od : Option Addr}
  {osl : Array (Option Value)} {N ps : List Str} {sp : Sp} (lk : K.lookup f = some ⟨oc, od, .func (PySem.W.fnOf name qual params body scope dV kV doc pm an cdv ct), osl⟩) (hcd : PySem.W.codeIn K cdv qual = true) (S : FnScope N ps scope)
  (len : ∀ vs H Q E, sp vs H Q E → vs.length = ps.length)
  (hbody : ∀ (A : Around) (outer : List Env) (s : Shared) (H : Hp) (vs : List V) (Q : VK) (E : XK), Room k (A.deeper (envOfC qual scope s.heap.objs.size f cdv)) → sp vs H Q E →
   ∃ t, PSs (cxOf CX P w K mg base N qual scope f cdv A outer s H E) body t ∧ t { nx := fun _ H' => Q .non H', rt := Q } (start N vs) H) :
  FnOk P w K mg base CX (k + 1) f (PySem.W.fnOf name qual params body scope dV kV doc pm an cdv ct) ps sp := by
 refine ⟨len, fun A outer s H args us vs Q E hr e0 hb r hsp => ?_⟩
 have hl := len _ _ _ _ hsp
 have KX : K.In s.heap := e0.mod.kin.keeps fun b o e => (e0.bs b o e).1
 have lim : s.heap.NoLimit := e0.mod.nolimit.keeps fun b o e => (e0.bs b o e).1
 have hkind : ∀ y ∈ ps.zip us, scope.names.lookup y.1 = some .local ∨ (scope.names.lookup y.1 = some .cell ∧ ((cellsFrom (s.heap.objs.size + 1) scope.names []).lookup y.1).isSome = true) := fun ⟨n, v⟩ hy => by
  rcases S.par n (List.of_mem_zip hy).1 with q | q
  ·exact .inl q
  ·exact .inr ⟨q, PySem.W.cellsFrom_some _ _ _ (.inl q)⟩
 refine codeAny_call_function hr.depth (KX _ _ lk) rfl S.co S.gen rfl (PySem.W.codeRec_of KX hcd) (hb _ _ _ _ ?_)
 refine wpAny_newFunctionEnv_cells S.kind hkind fun env he s1 x => ?_
 subst he
 refine ⟨lim.keeps x.toInCall.keep, codeAny_func ?_⟩
 obtain ⟨t, ht, hq⟩ := hbody A outer s H vs Q E (hr.deeper _) hsp
 have I : Inv (cxOf CX P w K mg base N qual scope f cdv A outer s H E) [] (start N vs) H s1 := inv_start S hr.hd e0 hl r x
 refine wpAny_mono (ht [] s1 (start N vs) H _ I hq) (fun fl s' hs => ?_) fun e s' hs => hs
 have fin : ∀ {σ' : St} {H' : Hp} {v : V} {u : Value}, Inv (cxOf CX P w K mg base N qual scope f cdv A outer s H E) [] σ' H' s' → RelV v u → Q v H' → CE outer P w H s Q u s' :=
  fun {σ' H' v u} J rv q => ⟨v, H', J.os, J.bare, J.base, J.hok, rv, q⟩
 cases fl with
 | ret u =>
  obtain ⟨v, σ', H', J, rv, q⟩ := hs
  exact fin J rv q
 | next =>
  obtain ⟨σ', H', J, q⟩ := hs
  exact fin (v := V.non) (u := Value.none) J rfl q
 | brk =>
  obtain ⟨_, _, _, q⟩ := hs
  exact False.elim q
 | cont =>
  obtain ⟨_, _, _, q⟩ := hs
  exact False.elim q
end L2

namespace L2
open PySem PySem.Spec PyProof.Rows
section
variable {X : Cx} {x : Str} {p pos : Pos} {e : Expr} {es : List Expr} {t : TA} {id T : String} {r : List V → Hp → VK → Prop}

noncomputable def tCB (r : List V → Hp → VK → Prop) (t : TA) : TE := fun σ H Q => t σ H fun vs H1 => r vs H1 Q
theorem xJ (hc : CallR X (.builtin id) r) (hg : Gl X x) (hm : X.mg x = none) (hv : bootBuiltins x = some (.builtin id)) (ha : PA X (e :: es) t) (hn : x ≠ "__name__" := by decide) (hdb : (x == ("__debug__" : Str)) = false := by decide)
  (he : starEach (e :: es) X.env = (false, eval e X.env) :: starEach es X.env := by rfl) (hpl : (backTo pos (starEach es X.env)).any (·.1) = false := by rfl) : PE X (.Call (.Name x p) (e :: es) [] pos) (tCB r t) := by
 intro pins s σ H Q I h
 refine wpAny_Call_Name_kw (ld_blt I hg hm hv ?_ hn hdb)
 exact PyProof.Rows.callWith_builtin1 (thn (ha pos pins s σ H _ I h) fun us s1 ⟨vs, H1, I1, r1, q1⟩ => hc pins s1 σ H1 vs us Q I1 r1 q1) he hpl
theorem xZ (hc : CallR X (.type T) r) (hg : Gl X x) (hm : X.mg x = none) (hv : bootBuiltins x = some (.type T)) (ha : PA X (e :: es) t) (hn : x ≠ "__name__" := by decide) (hdb : (x == ("__debug__" : Str)) = false := by decide)
  (he : starEach (e :: es) X.env = (false, eval e X.env) :: starEach es X.env := by rfl) (hpl : (backTo pos (starEach es X.env)).any (·.1) = false := by rfl) : PE X (.Call (.Name x p) (e :: es) [] pos) (tCB r t) := by
 intro pins s σ H Q I h
 refine wpAny_Call_Name_kw (ld_blt I hg hm hv ?_ hn hdb)
 exact PyProof.Rows.callWith_type1 (thn (ha pos pins s σ H _ I h) fun us s1 ⟨vs, H1, I1, r1, q1⟩ => hc pins s1 σ H1 vs us Q I1 r1 q1) he hpl
end
end L2

namespace HT
open PySem PyProof.Rows

section
open PySem.SeqAt
open PySem.AutoSeq1 (wpAny_loadPart')
open PySem.MeetsSeq PySem.MeetsSeq2 PySem.MeetsSeq3

end

section
variable {prog : Program} {w : World} {A : Around} {E : Value → Shared → Prop} {s : Shared}

theorem cat_tup {t b : Addr} {vs ws : List Value} {Q : Value → Shared → Prop} (ht : IsTup s.heap t vs.toArray) (hb : IsTup s.heap b ws.toArray) (hv : vs ≠ [])
  (h1 : ws = [] → Q (.ref t) s) (h2 : ws ≠ [] → Q (.ref s.heap.objs.size) { s with heap := s.heap.push { cls := .type "tuple", data := .seq (vs ++ ws).toArray } })
  (hsz : vs.length + ws.length ≤ sizeLine) : wpAny (model prog w) A (binaryOp .Add (.ref t) (.ref b)) Q E s := by
 obtain ⟨⟨cls, dd, data, sl⟩, ho, hc, n, hd⟩ := id ht
 obtain ⟨⟨cls2, dd2, data2, sl2⟩, ho2, hc2, n2, hd2⟩ := id hb
 simp only at hc hd hc2 hd2
 subst hc hd hc2 hd2
 have e : vs.toArray ++ ws.toArray = (vs ++ ws).toArray := by simp
 by_cases hw : ws = []
 ·exact concat_meets ⟨_, ho, rfl⟩ ⟨_, ho2, rfl⟩ noFill_tuple_add seq_tuple_add PySem.F.slot_tuple_add PySem.F.entry_tuple_add (PySem.F.args_tuple_add_2 _ _)
   (tuple_addW1 t b vs.toArray ws.toArray n n2 dd dd2 sl sl2 (by simpa using hv) (by simp [hw])) ⟨ho, ho2, h1 hw⟩
 ·refine concat_meets ⟨_, ho, rfl⟩ ⟨_, ho2, rfl⟩ noFill_tuple_add seq_tuple_add PySem.F.slot_tuple_add PySem.F.entry_tuple_add (PySem.F.args_tuple_add_2 _ _)
   (tuple_addW2 t b vs.toArray ws.toArray n n2 dd dd2 sl sl2 (by simpa using hv) (by simpa using hw) (by rw [List.size_toArray, List.size_toArray]; exact hsz)) ⟨ho, ho2, ?_⟩
  rw [e]
  exact h2 hw

noncomputable def sIx (n d : Nat) : Option Int → Nat
 | none => d
 | some v => if v < 0 then (v + (n : Int)).toNat else min v.toNat n
theorem sIx_none (n d : Nat) : sIx n d none = d := rfl
theorem sIx_nat (n d k : Nat) : sIx n d (some (k : Int)) = min k n := by
 show (if (k : Int) < 0 then ((k : Int) + (n : Int)).toNat else min (k : Int).toNat n) = min k n
 rw [if_neg (by omega), Int.toNat_natCast]
theorem sIx_le (n d : Nat) (hd : d ≤ n) (o : Option Int) : sIx n d o ≤ n := by
 cases o with
 | none => exact hd
 | some v =>
  show (if v < 0 then (v + (n : Int)).toNat else min v.toNat n) ≤ n
  by_cases hv : v < 0
  ·rw [if_pos hv]; omega
  ·rw [if_neg hv]; exact Nat.min_le_right _ _
theorem clip_eq (v : Int) (n d : Nat) : (if v < 0 then max (v + (n : Int)) 0 else min v (n : Int)) = ((sIx n d (some v) : Nat) : Int) := by
 show (if v < 0 then max (v + (n : Int)) 0 else min v (n : Int)) = (((if v < 0 then (v + (n : Int)).toNat else min v.toNat n) : Nat) : Int)
 by_cases hv : v < 0
 ·simp only [if_pos hv]; omega
 ·simp only [if_neg hv]; omega
theorem adjust_gen (lo hi : Option Int) (n : Nat) : Builtin.Slice.sliceAdjust lo hi 1 (n : Int) = (((sIx n 0 lo : Nat) : Int), ((sIx n n hi : Nat) : Int)) := by
 have h1 : ¬ ((1 : Int) < 0) := by omega
 unfold Builtin.Slice.sliceAdjust
 simp only [h1, if_false]
 refine Prod.ext ?_ ?_
 ·cases lo with
  | none => rfl
  | some v => exact clip_eq v n 0
 ·cases hi with
  | none => rfl
  | some v => exact clip_eq v n n
theorem places_gen (i j : Nat) : Builtin.Slice.slicePlaces (i : Int) (j : Int) 1 = j - i := by
 unfold Builtin.Slice.slicePlaces
 have h1 : (1 : Int) > 0 := by omega
 simp only [h1, if_true, Int.ediv_one]
 split <;> omega
theorem slicePart_ {v : Value} {o : Option Int} {Q : Option Int → Shared → Prop} (p : IsPart v o) (h : Q o s) : wpAny (model prog w) A (Builtin.Slice.slicePartIndex v) Q E s := by
 cases p with
 | none => exact slicePart_none h
 | int i t => exact slicePart_int h
theorem sliceApplied_gen {sl : Addr} {vl vu : Value} {lo hi : Option Int} {n : Nat} {Q : Int × Int × Nat → Shared → Prop} (hs : s.heap.IsSliceOf sl vl vu .none) (pl : IsPart vl lo) (pu : IsPart vu hi)
  (h : Q (((sIx n 0 lo : Nat) : Int), 1, sIx n n hi - sIx n 0 lo) s) : wpAny (model prog w) A (Builtin.Slice.sliceApplied (.ref sl) (pure (n : Int))) Q E s := by
 obtain ⟨os, hos, hcs, hds⟩ := id hs
 unfold Builtin.Slice.sliceApplied Builtin.Slice.sliceFields
 refine wpAny_bind (wpAny_bind (wpAny_field hos hds (x := vl) rfl (wpAny_bind (wpAny_field hos hds (x := vu) rfl (wpAny_bind (wpAny_field hos hds (x := .none) rfl (wpAny_pure ?_)))))))
 refine wpAny_bind (slicePart_none ?_)
 show wpAny _ _ (if ((1 : Int) == 0) = true then _ else _) _ _ s
 rw [if_neg (by decide)]
 refine wpAny_bind (slicePart_ pl (wpAny_bind (slicePart_ pu (wpAny_bind (wpAny_pure ?_)))))
 show wpAny _ _ (match Builtin.Slice.sliceAdjust lo hi 1 (n : Int) with | (lo, hi) => pure (lo, (1 : Int), Builtin.Slice.slicePlaces lo hi 1)) _ _ s
 rw [adjust_gen lo hi n]
 show wpAny _ _ (pure (((sIx n 0 lo : Nat) : Int), (1 : Int), Builtin.Slice.slicePlaces ((sIx n 0 lo : Nat) : Int) ((sIx n n hi : Nat) : Int) 1)) _ _ s
 rw [places_gen]
 exact wpAny_pure h
theorem pick_gen (xs : Array Value) (i k : Nat) : ((List.range k).filterMap fun (m : Nat) => xs[((i : Int) + (m : Int) * 1).toNat]?).toArray = ((xs.toList.drop i).take k).toArray := by
 have e : (fun (m : Nat) => xs[((i : Int) + (m : Int) * 1).toNat]?) = fun m => xs[i + m]? := by
  funext m
  have : ((i : Int) + (m : Int) * 1).toNat = i + m := by omega
  rw [this]
 rw [e]
 have := pick_run xs i k
 rw [List.filterMap_map] at this
 have e2 : ((fun x => xs[x]?) ∘ fun x => i + x) = fun m => xs[i + m]? := rfl
 rw [e2] at this
 rw [this]

theorem getItem_tuple_cut {t sl : Addr} {items : Array Value} {vl vu : Value} {lo hi : Option Int} {Q : Value → Shared → Prop} (ht : IsTup s.heap t items) (hs : s.heap.IsSliceOf sl vl vu .none) (pl : IsPart vl lo) (pu : IsPart vu hi)
  (hw : ¬ (sIx items.size 0 lo = 0 ∧ sIx items.size items.size hi = items.size))
  (h : Q (.ref s.heap.objs.size) { s with heap := s.heap.push { cls := .type "tuple", data := .seq ((items.toList.drop (sIx items.size 0 lo)).take (sIx items.size items.size hi - sIx items.size 0 lo)).toArray } })
  (hsz : items.size ≤ sizeLine) : wpAny (model prog w) A (getItem (.ref t) (.ref sl)) Q E s := by
 have htake : sizeOk (.seq ((items.toList.drop (sIx items.size 0 lo)).take (sIx items.size items.size hi - sIx items.size 0 lo)).toArray) := by
  show ((items.toList.drop (sIx items.size 0 lo)).take (sIx items.size items.size hi - sIx items.size 0 lo)).toArray.size ≤ sizeLine
  rw [List.size_toArray, List.length_take, List.length_drop, Array.length_toList]
  omega
 have hj : sIx items.size items.size hi ≤ items.size := sIx_le _ _ (Nat.le_refl _) hi
 obtain ⟨os, hos, hcs, hds⟩ := id hs
 have hTs : s.TypeIs (.ref sl) "slice" := ⟨os, hos, hcs⟩
 unfold getItem
 try with_reducible refine wpAny_holding ?_
 first | refine wpAny_bind (wpAny_pure ?_) | skip
 refine wpAny_bind (wpAny_sequenceKey ht.typeIs (by decide) ?_)
 refine wpAny_bind (wpAny_callSpecial?_slot (name := Str.ofString "__getitem__") ht.typeIs PyProof.Rows.slot_tuple_getitem
  (wpAny_call_entry PyProof.Rows.slot_tuple_getitem ht.typeIs entry_tuple_getitem ?_ (args_tuple_getitem _ _)))
 show wpAny _ _ (Builtin.Tuple.tupleItemsOf (.ref t) >>= _) _ _ s
 refine wpAny_bind (tupleItemsOf_ ht ?_)
 refine wpAny_bind (wpAny_typeOf hTs ?_)
 rw [if_pos (by decide)]
 refine wpAny_bind (sliceApplied_gen hs pl pu ?_)
 have hno : ¬ ((((sIx items.size 0 lo : Nat) : Int) == 0 && (1 : Int) == 1 && (sIx items.size items.size hi - sIx items.size 0 lo) == items.size) = true) := by
  intro q
  rw [Bool.and_eq_true, Bool.and_eq_true] at q
  have q1 : ((sIx items.size 0 lo : Nat) : Int) = 0 := eq_of_beq q.1.1
  have q2 : sIx items.size items.size hi - sIx items.size 0 lo = items.size := eq_of_beq q.2
  exact hw ⟨by omega, by omega⟩
 show wpAny _ _ (if (((sIx items.size 0 lo : Nat) : Int) == 0 && (1 : Int) == 1 && (sIx items.size items.size hi - sIx items.size 0 lo) == items.size) = true then _ else _) _ _ s
 rw [if_neg hno, pick_gen]
 first
  | exact wpAny_bind (m := Builtin.Tuple.tupleExact _) (wpAny_newObj_type (wpAny_pure ⟨_, rfl, wpAny_pure h⟩) htake)
  | exact wpAny_bind (m := Builtin.Tuple.tupleExact _) (wpAny_newObj_type (wpAny_bind (wpAny_pure (wpAny_pure ⟨_, rfl, wpAny_pure h⟩))) htake)
  | exact wpAny_bind (wpAny_bind (m := Builtin.Tuple.tupleExact _) (wpAny_newObj_type (wpAny_pure (wpAny_pure ⟨_, rfl, wpAny_pure h⟩)) htake))
  | exact wpAny_bind (wpAny_bind (m := Builtin.Tuple.tupleExact _) (wpAny_newObj_type (wpAny_pure ⟨_, rfl, wpAny_pure h⟩) htake))
end
end HT

namespace L2
open PySem PySem.Spec PyProof.Rows

noncomputable abbrev TO := St → Hp → (Option Int → Hp → Prop) → Prop
noncomputable def PO (X : Cx) (e : Option Expr) (t : TO) : Prop :=
 ∀ (pins : List (Addr × Obj)) (s : Shared) (σ : St) (H : Hp) (Q : Option Int → Hp → Prop), Inv X pins σ H s → t σ H Q →
  wpAny (model X.prog X.w) X.A (evalPart e X.env) (fun u s' => ∃ o H', Inv X pins σ H' s' ∧ IsPart u o ∧ Q o H') X.xe s
noncomputable def tNoPart : TO := fun _ H Q => Q none H
noncomputable def tPart (t : TE) : TO := fun σ H Q => t σ H fun x H1 => ∃ i, x = .int i ∧ Q (some i) H1

section
variable {X : Cx} {e : Expr} {te : TE} {lo hi : Option Expr} {tl th : TO} {pos p2 : Pos}

theorem po_none : PO X none tNoPart := by
 intro pins s σ H Q I h
 rw [evalPart_none]
 exact wpAny_pure ⟨none, H, I, .none, h⟩
theorem po_some (h : PE X e te) : PO X (some e) (tPart te) := by
 intro pins s σ H Q I hw
 rw [evalPart_some]
 refine thn (h pins s σ H _ I hw) fun u s1 ⟨x, H1, I1, r1, q1⟩ => ?_
 obtain ⟨i, rfl, q⟩ := q1
 obtain ⟨t, rfl⟩ := r1
 exact ⟨some i, H1, I1, .int i t, q⟩

noncomputable def SlR (X : Cx) (r : V → Option Int → Option Int → Hp → VK → Prop) : Prop :=
 ∀ (pins : List (Addr × Obj)) (s : Shared) (σ : St) (H : Hp) (x : V) (v vl vu : Value) (lo hi : Option Int) (sl : Addr) (Q : VK), Inv X pins σ H s → RelV x v → s.heap.IsSliceOf sl vl vu .none → IsPart vl lo → IsPart vu hi → r x lo hi H Q →
  ∃ T id, typeLookup (.type T) "__getitem__" = pure (some (.builtin id)) ∧ s.TypeIs v T ∧ wpAny (model X.prog X.w) X.A (getItem v (.ref sl)) (EP X pins σ Q) X.xe s
noncomputable def tSl (r : V → Option Int → Option Int → Hp → VK → Prop) (te : TE) (tl th : TO) : TE := fun σ H Q => te σ H fun x H1 => tl σ H1 fun l H2 => th σ H2 fun u H3 => r x l u H3 Q
theorem pe_slice {r : V → Option Int → Option Int → Hp → VK → Prop} (hr : SlR X r) (he : PE X e te) (hl : PO X lo tl) (hu : PO X hi th) : PE X (.Subscript e (.Slice lo hi none p2) pos) (tSl r te tl th) := by
 intro pins s σ H Q I h
 refine Subscript_ (thn (he pins s σ H _ I h) fun v s1 ⟨x, H1, I1, r1, q1⟩ => ?_)
 refine wpAny_Slice (thn (hl pins s1 σ H1 _ I1 q1) fun vl s2 ⟨l, H2, I2, pl, q2⟩ => thn (hu pins s2 σ H2 _ I2 q2) fun vu s3 ⟨u, H3, I3, pu, q3⟩ => ?_)
 rw [evalPart_none]
 refine wpAny_pure ?_
 have I4 : Inv X pins σ H3 { s3 with heap := s3.heap.push { cls := .type "slice", data := .fields #[vl, vu, .none] } } := I3.kept (t' := s3.toks) fun b ob q => Heap.get?_push_of_some _ q
 obtain ⟨T, id, hT, ht, hg⟩ := hr pins { s3 with heap := s3.heap.push { cls := .type "slice", data := .fields #[vl, vu, .none] } } σ H3 x v vl vu l u s3.heap.objs.size Q I4 r1 (Heap.IsSliceOf.new ..) pl pu q3
 show wpAny (model X.prog X.w) X.A (subscriptTail e (.Slice lo hi none p2) v (.ref s3.heap.objs.size)) (EP X pins σ Q) X.xe { s3 with heap := s3.heap.push { cls := .type "slice", data := .fields #[vl, vu, .none] } }
 exact tail_any (ops := [.ref s3.heap.objs.size, v]) ht hT hg (by with_unfolding_all rfl)

noncomputable def cutV (xs : List V) (lo hi : Option Int) : List V := (xs.drop (HT.sIx xs.length 0 lo)).take (HT.sIx xs.length xs.length hi - HT.sIx xs.length 0 lo)
theorem cutV_length (xs : List V) (lo hi : Option Int) : (cutV xs lo hi).length ≤ xs.length := by
 unfold cutV
 rw [List.length_take, List.length_drop]
 omega
noncomputable def rSlT (K : PySem.W.Frag) : V → Option Int → Option Int → Hp → VK → Prop := fun x lo hi H Q => ∃ a xs, x = .ref a ∧ SqT K H a xs ∧
 ¬ (HT.sIx xs.length 0 lo = 0 ∧ HT.sIx xs.length xs.length hi = xs.length) ∧ ∀ p, H p = none → Q (.ref p) (upd H p (.tup (cutV xs lo hi)))
theorem sl_tup : SlR X (rSlT X.K) := by
 intro pins s σ H x v vl vu lo hi sl Q I rx hs pl pu h
 obtain ⟨a, xs, rfl, hx, hw, q⟩ := h
 cases rx
 obtain ⟨its, r, ht, hz⟩ := I.tuple hx
 have hlen : its.toArray.size = xs.length := by rw [List.size_toArray]; exact r.length.symm
 refine ⟨"tuple", _, PyProof.Rows.slot_tuple_getitem.lookup, ht.typeIs, ?_⟩
 refine HT.getItem_tuple_cut ht hs pl pu (by rw [hlen]; exact hw) ?_ (by rw [hlen]; exact hz)
 rw [hlen]
 refine ⟨.ref s.heap.objs.size, _, I.laid (t' := s.toks) (o := .tup (cutV xs lo hi)) (fun b ob q => Heap.get?_push_of_some _ q) (Nat.le_refl _) ?_, rfl, q _ (I.hok.fresh (Nat.le_refl _))⟩
 exact ⟨Nat.le_trans (cutV_length xs lo hi) hz, _, (r.drop (HT.sIx xs.length 0 lo)).take (HT.sIx xs.length xs.length hi - HT.sIx xs.length 0 lo), TupX.new _ _⟩

noncomputable def rCatT (K : PySem.W.Frag) : R2 := fun x y H Q => ∃ a b xs ys, x = .ref a ∧ y = .ref b ∧ SqT K H a xs ∧ SqT K H b ys ∧ xs ≠ [] ∧ xs.length + ys.length ≤ sizeLine ∧
 (ys = [] → Q (.ref a) H) ∧ (ys ≠ [] → ∀ p, H p = none → Q (.ref p) (upd H p (.tup (xs ++ ys))))
theorem Vals.nil_iff {xs : List V} {us : List Value} (r : Vals xs us) : us = [] ↔ xs = [] := by
 cases r with
 | nil => simp
 | cons _ _ => simp
theorem op_catT : OpR X (binaryOp .Add) (rCatT X.K) := by
 intro pins s σ H x y v u Q I rx ry h
 obtain ⟨a, b, xs, ys, rfl, rfl, ha, hb, hx, hz, q1, q2⟩ := h
 cases rx
 cases ry
 obtain ⟨its, r1, p1, _⟩ := I.tuple ha
 obtain ⟨its2, r2, p2, _⟩ := I.tuple hb
 refine HT.cat_tup p1 p2 (fun z => hx (r1.nil_iff.mp z)) (fun z => ⟨.ref a, H, I, rfl, q1 (r2.nil_iff.mp z)⟩) (fun z => ?_) (by rw [← r1.length, ← r2.length]; exact hz)
 refine ⟨.ref s.heap.objs.size, _, I.laid (t' := s.toks) (o := .tup (xs ++ ys)) (fun b ob q => Heap.get?_push_of_some _ q) (Nat.le_refl _) ?_, rfl, q2 (fun w => z (r2.nil_iff.mpr w)) _ (I.hok.fresh (Nat.le_refl _))⟩
 exact ⟨by rw [List.length_append]; exact hz, _, r1.append r2, TupX.new _ _⟩
end
end L2

namespace L2
open PySem PySem.Spec PyProof.Rows

noncomputable def ixN (n : Nat) (i : Int) : Option Nat := if 0 ≤ i then (if i < n then some i.toNat else none) else if -(n : Int) ≤ i then some (i + n).toNat else none
noncomputable def atI {α : Type} (xs : List α) (i : Int) : Option α := (ixN xs.length i).bind fun j => xs[j]?
theorem ixN_seq {n : Nat} {i : Int} {j : Nat} (h : ixN n i = some j) : seqIndex? i n = some j ∧ j < n ∧ -(n : Int) ≤ i ∧ i < n := by
 unfold ixN at h
 by_cases h0 : 0 ≤ i
 ·rw [if_pos h0] at h
  by_cases h1 : i < n
  ·rw [if_pos h1] at h
   have e : i.toNat = j := Option.some.inj h
   exact ⟨by rw [seqIndex_of h0 h1, e], by omega, by omega, h1⟩
  ·rw [if_neg h1] at h; cases h
 ·rw [if_neg h0] at h
  by_cases h1 : -(n : Int) ≤ i
  ·rw [if_pos h1] at h
   have e : (i + n).toNat = j := Option.some.inj h
   exact ⟨by rw [seqIndex_neg (by omega) h1, e], by omega, h1, by omega⟩
  ·rw [if_neg h1] at h; cases h
theorem atI_get {α : Type} {xs : List α} {i : Int} {v : α} (h : atI xs i = some v) : ∃ j, seqIndex? i xs.length = some j ∧ xs[j]? = some v ∧ j < xs.length ∧ -(xs.length : Int) ≤ i ∧ i < xs.length := by
 unfold atI at h
 cases e : ixN xs.length i with
 | none => rw [e] at h; cases h
 | some j =>
  rw [e] at h
  obtain ⟨h1, h2, h3, h4⟩ := ixN_seq e
  exact ⟨j, h1, h, h2, h3, h4⟩
theorem atI_nat {α : Type} {xs : List α} {j : Nat} {v : α} (h : xs[j]? = some v) : atI xs (j : Int) = some v := by
 have hj : j < xs.length := (List.getElem?_eq_some_iff.mp h).1
 have e : ixN xs.length (j : Int) = some j := by
  unfold ixN
  rw [if_pos (by omega), if_pos (by omega)]; simp
 unfold atI; rw [e]; exact h
noncomputable def PlainIx (b : Expr) : Prop := ∀ o i, subscripted b false o i = operate [o, i] (getItem o i)
noncomputable def IxR (X : Cx) (r : R2) : Prop :=
 ∀ (value slice : Expr) (pins : List (Addr × Obj)) (s : Shared) (σ : St) (H : Hp) (x y : V) (v u : Value) (Q : VK), Inv X pins σ H s → RelV x v → RelV y u → r x y H Q →
  subscripted slice false v u = operate [v, u] (getItem v u) → wpAny (model X.prog X.w) X.A (subscriptTail value slice v u) (EP X pins σ Q) X.xe s
noncomputable def MtR (X : Cx) (id : String) (r : V → List V → Hp → VK → Prop) : Prop :=
 ∀ (pins : List (Addr × Obj)) (s : Shared) (σ : St) (H : Hp) (x : V) (xs : List V) (v : Value) (us : List Value) (Q : VK), Inv X pins σ H s → RelV x v → Vals xs us → r x xs H Q →
  wpAny (model X.prog X.w) X.A (call (.builtin id) (v :: us)) (EP X pins σ Q) X.xe s
section
variable {X : Cx} {a b : Expr} {ta tb : TE} {pos : Pos}
theorem pe_ix {r : R2} (hr : IxR X r) (ha : PE X a ta) (hb : PE X b tb) (hs : PlainIx b) : PE X (.Subscript a b pos) (tOp r ta tb) := by
 intro pins s σ H Q I h
 exact Subscript_ (binT ha hb I h fun v u s2 x y H2 I2 rx ry q => hr a b pins s2 σ H2 x y v u Q I2 rx ry q (hs _ _))

noncomputable def rIxL (K : PySem.W.Frag) : R2 := fun x y H Q => ∃ p xs i v, x = .ref p ∧ y = .int i ∧ SqL K H p xs ∧ atI xs i = some v ∧ Q v H
noncomputable def rIxT (K : PySem.W.Frag) : R2 := fun x y H Q => ∃ p xs i v, x = .ref p ∧ y = .int i ∧ SqT K H p xs ∧ atI xs i = some v ∧ Q v H
noncomputable def rIxS : R2 := fun x y H Q => ∃ z i c, x = .str z ∧ y = .int i ∧ z.length ≤ sizeLine ∧ atI z.cps.toList i = some c ∧ Q (.str ⟨#[c]⟩) H
theorem ix_list : IxR X (rIxL X.K) := by
 intro value slice pins s σ H x y v u Q I rx ry h hs
 obtain ⟨p, xs, i, z, rfl, rfl, hq, he, q⟩ := h
 cases rx
 obtain ⟨t, rfl⟩ := ry
 obtain ⟨its, r, pl, hz⟩ := I.list hq
 obtain ⟨j, h1, h2, h3, h4, h5⟩ := atI_get he
 obtain ⟨w, ew, rw'⟩ := r.get h2
 have hl := r.length
 have hn := line63
 have fin : EP X pins σ Q w s := ⟨z, H, I, rw', q⟩
 by_cases h0 : 0 ≤ i
 ·have hj : i.toNat = j := by
   rw [seqIndex_of h0 h5] at h1
   exact Option.some.inj h1
  exact item_listR pl.isList h0 (by omega) (by rw [hj]; simpa using ew) fin hs
 ·have hj : (i + (its.toArray.size : Int)).toNat = j := by
   rw [seqIndex_neg (by omega) h4] at h1
   rw [List.size_toArray, ← hl]
   exact Option.some.inj h1
  exact subscriptTail_builtinR (x := w) pl.isList.typeIs slot_list_getitem.lookup
   (wpAny_getItem_list_neg (Q := fun r s' => r = w ∧ EP X pins σ Q r s') pl.isList (by omega) (by rw [List.size_toArray] <;> omega) (by omega) (by rw [hj]; simpa using ew) ⟨rfl, fin⟩) hs
theorem ix_tup : IxR X (rIxT X.K) := by
 intro value slice pins s σ H x y v u Q I rx ry h hs
 obtain ⟨p, xs, i, z, rfl, rfl, hq, he, q⟩ := h
 cases rx
 obtain ⟨t, rfl⟩ := ry
 obtain ⟨its, r, pl, hz⟩ := I.tuple hq
 obtain ⟨j, h1, h2, h3, h4, h5⟩ := atI_get he
 obtain ⟨w, ew, rw'⟩ := r.get h2
 have hl := r.length
 have hn := line63
 have fin : EP X pins σ Q w s := ⟨z, H, I, rw', q⟩
 exact subscriptTail_builtinR (x := w) pl.typeIs slot_tuple_getitem.lookup
  (getItem_tuple (j := j) (Q := fun r s' => r = w ∧ EP X pins σ Q r s') pl (by omega) (by omega) (by rw [List.size_toArray, ← hl]; exact h1) (by simpa using ew) ⟨rfl, fin⟩) hs
theorem ix_str : IxR X rIxS := by
 intro value slice pins s σ H x y v u Q I rx ry h hs
 obtain ⟨z, i, c, rfl, rfl, hz, he, q⟩ := h
 obtain ⟨t, rfl⟩ := rx
 obtain ⟨t', rfl⟩ := ry
 obtain ⟨j, h1, h2, h3, h4, h5⟩ := atI_get he
 have hl : z.cps.toList.length = z.length := by simp [Str.length]
 rw [hl] at h1 h4 h5
 have hn := line63
 exact tail_any (typeIs_str s z t) slot_str_getitem.lookup (getItem_str (c := c) (by
  have e1 : decide (i < -(2 ^ 63 : Int)) = false := decide_eq_false (by omega)
  have e2 : decide (i ≥ 2 ^ 63) = false := decide_eq_false (by omega)
  rw [e1, e2, Bool.or_false]) (by rw [h1]; simpa using h2) ⟨.str ⟨#[c]⟩, H, I.tok _, ⟨_, rfl⟩, q⟩) hs
theorem mapSeq_set (its : List Value) (n j : Nat) (u : Value) : Obj.mapSeq (·.setIfInBounds j u) { cls := .type "list", data := .seq its.toArray n } = { cls := .type "list", data := .seq (its.set j u).toArray n } := by
 simp [Obj.mapSeq]
theorem Inv.lst {pins : List (Addr × Obj)} {σ : St} {H : Hp} {s : Shared} {p : Addr} {xs : List V} (I : Inv X pins σ H s) (h : H p = some (.lst xs)) :
  ∃ (its : List Value) (n : Nat), Vals xs its ∧ s.heap.get? p = some { cls := .type "list", data := .seq its.toArray n } ∧ xs.length ≤ sizeLine := by
 obtain ⟨z, its, n, r, e⟩ := I.hok p _ h
 exact ⟨its, n, r, e, z⟩
theorem Inv.lstUpd {pins : List (Addr × Obj)} {σ : St} {H : Hp} {s : Shared} {p : Addr} {xs ys : List V} {its its' : List Value} {n n' : Nat} {f : Obj → Obj} (I : Inv X pins σ H s) (h : H p = some (.lst xs))
  (ho : s.heap.get? p = some { cls := .type "list", data := .seq its.toArray n }) (hf : f { cls := .type "list", data := .seq its.toArray n } = { cls := .type "list", data := .seq its'.toArray n' }) (r : Vals ys its') (hz : ys.length ≤ sizeLine) (t : Nat) :
  Inv X pins σ (upd H p (.lst ys)) { s with heap := s.heap.update p f, toks := t } := by
 have e : (s.heap.update p f).get? p = some { cls := .type "list", data := .seq its'.toArray n' } := by
  rw [Heap.get?_update_self f ho (by rw [hf] <;> rfl), hf]
 refine I.write (x := p) (e := p) (by rw [h]; trivial) (.inl rfl) (fun b u hb q => (Heap.get?_update_other _ _ (Ne.symm hb)).trans q) ⟨_, e⟩ ?_
 exact ⟨hz, its', n', r, e⟩
noncomputable def rSetL : V → V → V → Hp → (Hp → Prop) → Prop := fun o i v H Q => ∃ p xs k j, o = .ref p ∧ i = .int k ∧ H p = some (.lst xs) ∧ ixN xs.length k = some j ∧ Q (upd H p (.lst (xs.set j v)))
theorem set_list : PSet X rSetL := by
 intro pins s σ H o i v ov iv u Q I ro ri rv h
 obtain ⟨p, xs, k, j, rfl, rfl, hp, hj, q⟩ := h
 cases ro
 obtain ⟨t, rfl⟩ := ri
 obtain ⟨its, n, r, ho, hz⟩ := I.lst hp
 obtain ⟨h1, h2, h3, h4⟩ := ixN_seq hj
 have hl := r.length
 have hn := line63
 have I' : Inv X pins σ (upd H p (.lst (xs.set j v))) { s with heap := s.heap.update p (Obj.mapSeq (·.setIfInBounds j u)) } :=
  I.lstUpd hp ho (mapSeq_set its n j u) (r.set rv j) (by rw [List.length_set]; exact hz) s.toks
 by_cases h0 : 0 ≤ k
 ·have hk : k.toNat = j := by
   rw [seqIndex_of h0 h4] at h1
   exact Option.some.inj h1
  exact PySem.W.ki_setAt ho h0 (by omega) (by rw [List.size_toArray, ← hl]; exact h4) (by rw [hk]; exact ⟨_, I', q⟩)
 ·have hk : (k + (its.toArray.size : Int)).toNat = j := by
   rw [seqIndex_neg (by omega) h3] at h1
   rw [List.size_toArray, ← hl]
   exact Option.some.inj h1
  exact PySem.W.ki_setBack ho (by omega) (by rw [List.size_toArray, ← hl]; exact h3) (by omega) (by rw [hk]; exact ⟨_, I', q⟩)

theorem slice_bounds (lo hi : Option Int) (n : Nat) : (sliceBounds lo hi none n).1 = ((HT.sIx n 0 lo : Nat) : Int) ∧ (sliceBounds lo hi none n).2.1 = ((HT.sIx n n hi : Nat) : Int) ∧ (sliceBounds lo hi none n).2.2 = 1 := by
 refine ⟨?_, ?_, rfl⟩
 ·cases lo with
  | none => simp [sliceBounds, HT.sIx]
  | some i =>
   simp only [sliceBounds, HT.sIx, Option.getD_none, show (1 : Int) > 0 by decide, if_true]
   by_cases h : i < 0
   ·simp only [h, if_true] <;> omega
   ·simp only [h, if_false] <;> omega
 ·cases hi with
  | none => simp [sliceBounds, HT.sIx]
  | some i =>
   simp only [sliceBounds, HT.sIx, Option.getD_none, show (1 : Int) > 0 by decide, if_true]
   by_cases h : i < 0
   ·simp only [h, if_true] <;> omega
   ·simp only [h, if_false] <;> omega
theorem slicePick_cut (its : List Value) (lo hi : Option Int) : slicePick its.toArray lo hi none = ((its.drop (HT.sIx its.length 0 lo)).take (HT.sIx its.length its.length hi - HT.sIx its.length 0 lo)).toArray := by
 obtain ⟨h1, h2, h3⟩ := slice_bounds lo hi its.toArray.size
 unfold slicePick
 rw [h1, h2, h3]
 simp only [sliceRange_one, pick_run, List.size_toArray] <;> rfl
noncomputable def rSlL (K : PySem.W.Frag) : V → Option Int → Option Int → Hp → VK → Prop := fun x lo hi H Q => ∃ a xs, x = .ref a ∧ SqL K H a xs ∧ ∀ p, H p = none → Q (.ref p) (upd H p (.lst (cutV xs lo hi)))
theorem sl_list : SlR X (rSlL X.K) := by
 intro pins s σ H x v vl vu lo hi sl Q I rx hs pl pu h
 obtain ⟨a, xs, rfl, hx, q⟩ := h
 cases rx
 obtain ⟨its, r, ht, hz⟩ := I.list hx
 have hlen := r.length
 refine ⟨"list", _, slot_list_getitem.lookup, ht.isList.typeIs, ?_⟩
 refine wpAny_getItem_list_slice ht.isList hs pl pu .none (by simp) ?_ (by rw [List.size_toArray] <;> omega)
 rw [slicePick_cut, ← hlen]
 refine ⟨.ref s.heap.objs.size, _, I.laid (t' := s.toks) (o := .lst (cutV xs lo hi)) (fun b ob q => Heap.get?_push_of_some _ q) (Nat.le_refl _) ?_, rfl, q _ (I.hok.fresh (Nat.le_refl _))⟩
 exact ⟨Nat.le_trans (cutV_length xs lo hi) hz, _, 0, (r.drop (HT.sIx xs.length 0 lo)).take (HT.sIx xs.length xs.length hi - HT.sIx xs.length 0 lo), Heap.get?_push_size _ rfl⟩

noncomputable def flatV : V → Bool
 | .non => true
 | .bl _ => true
 | .int _ => true
 | .str _ => true
 | _ => false
noncomputable def eqV : V → V → Bool
 | .non, .non => true
 | .bl a, .bl b => a == b
 | .bl a, .int b => (if a then 1 else 0) == b
 | .int a, .bl b => a == (if b then 1 else 0)
 | .int a, .int b => a == b
 | .str a, .str b => a == b
 | _, _ => false
theorem eqAt_V {A : Around} {s : Shared} {y x : V} {u v : Value} (ry : RelV y u) (rx : RelV x v) (fy : flatV y = true) (fx : flatV x = true) : SeqAt.EqAt A s u v (eqV y x) := by
 cases y with
 | non =>
  cases ry
  cases x with
  | non => cases rx; exact SeqAt.EqAt.same _
  | bl b => cases rx; exact SeqAt.EqAt.none_bool b
  | int b => obtain ⟨t, rfl⟩ := rx; exact SeqAt.EqAt.none_int b t
  | str b => obtain ⟨t, rfl⟩ := rx; exact SeqAt.EqAt.none_str b t
  | _ => exact absurd (show false = true from fx) Bool.false_ne_true
 | bl a =>
  cases ry
  cases x with
  | non => cases rx; exact SeqAt.EqAt.bool_none a
  | bl b => cases rx; exact SeqAt.EqAt.bool_bool a b
  | int b => obtain ⟨t, rfl⟩ := rx; exact SeqAt.EqAt.bool_int a b t
  | str b => obtain ⟨t, rfl⟩ := rx; exact SeqAt.EqAt.bool_str a b t
  | _ => exact absurd (show false = true from fx) Bool.false_ne_true
 | int a =>
  obtain ⟨t', rfl⟩ := ry
  cases x with
  | non => cases rx; exact SeqAt.EqAt.int_none a t'
  | bl b => cases rx; exact SeqAt.EqAt.int_bool a t' b
  | int b => obtain ⟨t, rfl⟩ := rx; exact SeqAt.EqAt.int_int a t' b t
  | str b => obtain ⟨t, rfl⟩ := rx; exact SeqAt.EqAt.int_str a t' b t
  | _ => exact absurd (show false = true from fx) Bool.false_ne_true
 | str a =>
  obtain ⟨t', rfl⟩ := ry
  cases x with
  | non => cases rx; exact SeqAt.EqAt.str_none a t'
  | bl b => cases rx; exact SeqAt.EqAt.str_bool a t' b
  | int b => obtain ⟨t, rfl⟩ := rx; exact SeqAt.EqAt.str_int a t' b t
  | str b => obtain ⟨t, rfl⟩ := rx; exact SeqAt.EqAt.str_str a t' b t
  | _ => exact absurd (show false = true from fx) Bool.false_ne_true
 | _ => exact absurd (show false = true from fy) Bool.false_ne_true
noncomputable def eqU (x : V) (u : Value) : Bool := match u with
 | .none => eqV .non x
 | .bool b => eqV (.bl b) x
 | .int i _ => eqV (.int i) x
 | .str z _ => eqV (.str z) x
 | _ => false
theorem eqU_of {x y : V} {u : Value} (r : RelV y u) (f : flatV y = true) : eqU x u = eqV y x := by
 cases y with
 | non => cases r; rfl
 | bl b => cases r; rfl
 | int i => obtain ⟨t, rfl⟩ := r; rfl
 | str z => obtain ⟨t, rfl⟩ := r; rfl
 | _ => exact absurd (show false = true from f) Bool.false_ne_true
theorem any_eqU {x : V} : ∀ {xs : List V} {us : List Value}, Vals xs us → xs.all flatV = true → us.any (eqU x) = xs.any fun y => eqV y x
 | _, _, .nil, _ => rfl
 | y :: xs, u :: us, .cons r t, f => by
  rw [List.all_cons, Bool.and_eq_true] at f
  rw [List.any_cons, List.any_cons, eqU_of r f.1, any_eqU t f.2]
theorem mem_eqAt {A : Around} {s : Shared} {x : V} {v : Value} (rx : RelV x v) (fx : flatV x = true) : ∀ {xs : List V} {us : List Value}, Vals xs us → xs.all flatV = true → ∀ u ∈ us, SeqAt.EqAt A s u v (eqU x u)
 | _, _, .nil, _ => fun u hu => by cases hu
 | y :: xs, u :: us, .cons r t, f => fun u' hu => by
  rw [List.all_cons, Bool.and_eq_true] at f
  rcases List.mem_cons.mp hu with rfl | hu
  ·rw [eqU_of r f.1]; exact eqAt_V r rx f.1 fx
  ·exact mem_eqAt rx fx t f.2 u' hu
noncomputable def inV (x : V) (xs : List V) : Bool := xs.any fun y => eqV y x
noncomputable def rIn (K : PySem.W.Frag) (neg : Bool) : R2 := fun x y H Q => ∃ p xs, y = .ref p ∧ (SqL K H p xs ∨ SqT K H p xs) ∧ flatV x = true ∧ xs.all flatV = true ∧ Q (.bl (if neg then !inV x xs else inV x xs)) H
theorem op_in_seq : OpR X (compareOp .In) (rIn X.K false) := by
 intro pins s σ H x y v u Q I rx ry h
 obtain ⟨p, xs, rfl, hq, fx, fs, q⟩ := h
 cases ry
 rcases hq with hq | hq
 ·obtain ⟨its, r, pl, hz⟩ := I.list hq
  refine SeqAt.in_listAt (eqU x) pl.isList (fun w hw => mem_eqAt rx fx r fs w (by simpa using hw)) ⟨.bl _, H, I, rfl, ?_⟩
  rw [show its.toArray.any (eqU x) = its.any (eqU x) by simp, any_eqU r fs]
  exact q
 ·obtain ⟨its, r, pl, hz⟩ := I.tuple hq
  refine SeqAt.in_tupleAt (eqU x) pl (fun w hw => mem_eqAt rx fx r fs w (by simpa using hw)) ⟨.bl _, H, I, rfl, ?_⟩
  rw [show its.toArray.any (eqU x) = its.any (eqU x) by simp, any_eqU r fs]
  exact q
theorem op_notIn_seq : OpR X (compareOp .NotIn) (rIn X.K true) := by
 intro pins s σ H x y v u Q I rx ry h
 obtain ⟨p, xs, rfl, hq, fx, fs, q⟩ := h
 cases ry
 rcases hq with hq | hq
 ·obtain ⟨its, r, pl, hz⟩ := I.list hq
  refine SeqAt.notIn_listAt (eqU x) pl.isList (fun w hw => mem_eqAt rx fx r fs w (by simpa using hw)) ⟨.bl _, H, I, rfl, ?_⟩
  rw [show its.toArray.any (eqU x) = its.any (eqU x) by simp, any_eqU r fs]
  exact q
 ·obtain ⟨its, r, pl, hz⟩ := I.tuple hq
  refine SeqAt.notIn_tupleAt (eqU x) pl (fun w hw => mem_eqAt rx fx r fs w (by simpa using hw)) ⟨.bl _, H, I, rfl, ?_⟩
  rw [show its.toArray.any (eqU x) = its.any (eqU x) by simp, any_eqU r fs]
  exact q
theorem call_len_seq : CallR X (.builtin "len") (fun xs H Q => ∃ p ys, xs = [.ref p] ∧ (SqL X.K H p ys ∨ SqT X.K H p ys) ∧ Q (.int ys.length) H) := by
 intro pins s σ H xs us Q I r h
 obtain ⟨p, ys, rfl, hq, q⟩ := h
 obtain ⟨u, rfl, rx⟩ := vals1 r
 cases rx
 have hn := line63
 rcases hq with hq | hq
 ·obtain ⟨its, r', pl, hz⟩ := I.list hq
  have hlen := r'.length
  exact Calls.call_len_list pl.isList (by simp only [List.size_toArray] <;> omega) ⟨.int ys.length, H, I.tok _, ⟨s.toks + 1, by rw [List.size_toArray, hlen]⟩, q⟩
 ·obtain ⟨its, r', pl, hz⟩ := I.tuple hq
  have hlen := r'.length
  exact len_tuple pl (by simp only [List.size_toArray] <;> omega) ⟨.int ys.length, H, I.tok _, ⟨s.toks + 1, by rw [List.size_toArray, hlen]⟩, q⟩
theorem call_len_str : CallR X (.builtin "len") (fun xs H Q => ∃ z, xs = [.str z] ∧ z.length ≤ sizeLine ∧ Q (.int z.length) H) := by
 intro pins s σ H xs us Q I r h
 obtain ⟨z, rfl, hz, q⟩ := h
 obtain ⟨u, rfl, t, rfl⟩ := vals1 r
 have hn := line63
 exact len_str (by omega) ⟨.int z.length, H, I.tok _, ⟨_, rfl⟩, q⟩
theorem call_list_of : CallR X (.type "list") (fun xs H Q => ∃ p ys, xs = [.ref p] ∧ (SqL X.K H p ys ∨ SqT X.K H p ys) ∧ ∀ l, H l = none → Q (.ref l) (upd H l (.lst ys))) := by
 intro pins s σ H xs us Q I r h
 obtain ⟨p, ys, rfl, hq, q⟩ := h
 obtain ⟨u, rfl, rx⟩ := vals1 r
 cases rx
 have fin : ∀ (its : List Value), Vals ys its → ys.length ≤ sizeLine → ∀ (h' : Heap) (c' : Nat), (∀ b o', s.heap.get? b = some o' → h'.get? b = some o') →
   h'.get? s.heap.objs.size = some { cls := .type "list", dict := none, data := .seq its.toArray c', slots := #[] } → EP X pins σ Q (.ref s.heap.objs.size) { s with heap := h' } := fun its r' hz h' c' kp e =>
  ⟨.ref s.heap.objs.size, _, I.laid (t' := s.toks) kp (Nat.le_refl _) (show ObjOk X.prog X.w _ h' _ (.lst ys) from ⟨hz, its, c', r', e⟩), rfl, q _ (I.hok.fresh (Nat.le_refl _))⟩
 rcases hq with hq | hq
 ·obtain ⟨its, r', pl, hz⟩ := I.list hq
  have hlen := r'.length
  obtain ⟨o, ho, hc, n, hd⟩ := pl.isList
  exact call_list_seq p (.inl rfl) ho hc hd (fun h' c' kp e => fin its r' hz h' c' kp e) (by simp only [List.size_toArray] <;> omega)
 ·obtain ⟨its, r', pl, hz⟩ := I.tuple hq
  have hlen := r'.length
  obtain ⟨o, ho, hc, n, hd⟩ := pl
  exact call_list_seq p (.inr rfl) ho hc hd (fun h' c' kp e => fin its r' hz h' c' kp e) (by simp only [List.size_toArray] <;> omega)
theorem call_tuple_of : CallR X (.type "tuple") (fun xs H Q => ∃ p ys, xs = [.ref p] ∧ ((SqL X.K H p ys ∧ ∀ l, H l = none → Q (.ref l) (upd H l (.tup ys))) ∨ (SqT X.K H p ys ∧ Q (.ref p) H))) := by
 intro pins s σ H xs us Q I r h
 obtain ⟨p, ys, rfl, h⟩ := h
 obtain ⟨u, rfl, rx⟩ := vals1 r
 cases rx
 rcases h with ⟨hq, q⟩ | ⟨hq, q⟩
 ·obtain ⟨its, r', pl, hz⟩ := I.list hq
  have hlen := r'.length
  refine call_tuple_list pl.isList (fun h' kp => ?_) (by simp only [List.size_toArray] <;> omega)
  have I1 : Inv X pins σ H { s with heap := h' } := I.kept (t' := s.toks) kp
  have I2 : Inv X pins σ (upd H h'.objs.size (.tup ys)) { s with heap := h'.push { cls := .type "tuple", data := .seq its.toArray } } :=
   I1.laid (t' := s.toks) (fun b o e => Heap.get?_push_of_some _ e) (Nat.le_refl _) (show ObjOk X.prog X.w _ _ _ (.tup ys) from ⟨hz, its, r', TupX.new _ _⟩)
  exact ⟨.ref h'.objs.size, _, I2, rfl, q _ (I1.hok.fresh (Nat.le_refl _))⟩
 ·obtain ⟨its, r', pl, hz⟩ := I.tuple hq
  exact call_tuple_same pl ⟨.ref p, H, I, rfl, q⟩

noncomputable def tyV (K : PySem.W.Frag) (T : String) (x : V) (H : Hp) : Prop := match x with
 | .str _ => T = "str"
 | .int _ => T = "int"
 | .ref p => (T = "list" ∧ ∃ xs, SqL K H p xs) ∨ (T = "tuple" ∧ ∃ o, K.lookup p = some o ∧ o.cls = .type "tuple" ∧ o.dict = none) ∨
   (T = "dict" ∧ ((∃ kvs, H p = some (.dK kvs)) ∨ ∃ kvs, H p = some (.dT kvs))) ∨ (T = "set" ∧ ∃ S n, H p = some (.set S n))
 | _ => False
theorem tyV_is {pins : List (Addr × Obj)} {σ : St} {H : Hp} {s : Shared} {T : String} {x : V} {v : Value} (I : Inv X pins σ H s) (r : RelV x v) (ty : tyV X.K T x H) :
  s.TypeIs v T ∧ ∀ a, v = .ref a → ∃ ob, s.heap.get? a = some ob ∧ ob.dict = none := by
 cases x with
 | str z =>
  obtain ⟨t, rfl⟩ := r
  cases (show T = "str" from ty)
  exact ⟨typeIs_str s z t, fun _ e => nomatch e⟩
 | int i =>
  obtain ⟨t, rfl⟩ := r
  cases (show T = "int" from ty)
  exact ⟨typeIs_int s i t, fun _ e => nomatch e⟩
 | ref p =>
  cases r
  rcases ty with ⟨rfl, xs, hq⟩ | ⟨rfl, o, hk, hc, hd⟩ | ⟨rfl, hk⟩ | ⟨rfl, S, n, hk⟩
  ·obtain ⟨its, _, pl, _⟩ := I.list hq
   refine ⟨pl.isList.typeIs, fun a e => ?_⟩
   cases e
   obtain ⟨o, n, e, c, hd, _⟩ := pl
   exact ⟨o, e, hd⟩
  ·refine ⟨⟨o, I.kIn p o hk, hc⟩, fun a e => ?_⟩
   cases e
   exact ⟨o, I.kIn _ o hk, hd⟩
  ·have z : ∃ o, s.heap.get? p = some o ∧ o.ExactDict := by
    rcases hk with ⟨kvs, hk⟩ | ⟨kvs, hk⟩
    ·obtain ⟨_, _, _, _, o, _, _, e, ex, _⟩ := I.hok p _ hk
     exact ⟨o, e, ex⟩
    ·obtain ⟨_, _, _, _, o, _, _, e, ex, _⟩ := I.hok p _ hk
     exact ⟨o, e, ex⟩
   obtain ⟨o, e, ex⟩ := z
   refine ⟨⟨o, e, ex.1⟩, fun a e2 => ?_⟩
   cases e2
   exact ⟨o, e, ex.2.1⟩
  ·obtain ⟨o, _, _, _, e, ex, _⟩ := I.hok p _ hk
   refine ⟨⟨o, e, ex.1⟩, fun a e2 => ?_⟩
   cases e2
   exact ⟨o, e, ex.2.1⟩
 | _ => exact False.elim ty
noncomputable def tBM0 (K : PySem.W.Frag) (T : String) (r : V → List V → Hp → VK → Prop) (to : TE) : TE := fun σ H Q => to σ H fun x H1 => tyV K T x H1 ∧ r x [] H1 Q
noncomputable def tBM (K : PySem.W.Frag) (T : String) (r : V → List V → Hp → VK → Prop) (to : TE) (t : TA) : TE := fun σ H Q => to σ H fun x H1 => tyV K T x H1 ∧ t σ H1 fun xs H2 => r x xs H2 Q
variable {o e : Expr} {es : List Expr} {to : TE} {t : TA} {name : Str} {apos cpos : Pos} {T id : String} {r : V → List V → Hp → VK → Prop}
theorem pe_bm0 (pa : PlainAttrs T) (slot : Slot T name id) (hty : typeOf (.builtin id) = pure (.type "method_descriptor")) (hm : MtR X id r) (ho : PE X o to)
  (hbase : attributeBase o name X.env (eval o X.env) = eval o X.env := by rfl) (hline : (apos.endLine == cpos.line) = true := by rfl) : PE X (.Call (.Attribute o name apos) [] [] cpos) (tBM0 X.K T r to) := by
 intro pins s σ H Q I h
 refine wpAny_Call_method0_late hbase hline (thn (ho pins s σ H _ I h) fun v s1 ⟨x, H1, I1, r1, ty, q1⟩ => ?_)
 obtain ⟨h1, h2⟩ := tyV_is I1 r1 ty
 exact ⟨T, id, pa, slot, hty, h1, h2, Calls.callWith_builtin rfl (PySem.evalArgs_none (hm pins s1 σ H1 x [] v [] Q I1 r1 .nil q1))⟩
theorem pe_bm (pa : PlainAttrs T) (slot : Slot T name id) (hty : typeOf (.builtin id) = pure (.type "method_descriptor")) (hm : MtR X id r) (ho : PE X o to) (ha : PA X (e :: es) t)
  (hbase : attributeBase o name X.env (eval o X.env) = eval o X.env := by rfl)
  (hfew : ((backTo cpos (starEach (e :: es) X.env)).all (fun x => !x.1) && (backToKw cpos (keywordEach [] X.env)).all (fun x => x.1.isSome)
   && decide ((e :: es).length + ([] : List Keyword).length + (if ([] : List Keyword).isEmpty then 0 else 1) < 30)) = true := by rfl)
  (hline : (apos.endLine == cpos.line) = true := by rfl) (hs : starEach (e :: es) X.env = (false, eval e X.env) :: starEach es X.env := by rfl) (hplain : (backTo cpos (starEach es X.env)).any (·.1) = false := by rfl) :
  PE X (.Call (.Attribute o name apos) (e :: es) [] cpos) (tBM X.K T r to t) := by
 intro pins s σ H Q I h
 refine wpAny_Call_method_late hbase hfew hline rfl (thn (ho pins s σ H _ I h) fun v s1 ⟨x, H1, I1, r1, ty, q1⟩ => ?_)
 obtain ⟨h1, h2⟩ := tyV_is I1 r1 ty
 refine ⟨T, id, pa, slot, hty, h1, h2, ?_⟩
 have hA := ha cpos pins s1 σ H1 _ I1 q1
 rw [hs] at hA ⊢
 refine Calls.callWith_builtin (by show (false || (backTo cpos (starEach es X.env)).any (·.1)) = false; rw [hplain] <;> rfl) (Calls.evalArgs_plain ?_)
 exact thn hA fun us s2 ⟨vs, H2, I2, r2, q2⟩ => hm pins s2 σ H2 x vs v us Q I2 r1 r2 q2
end
end L2

namespace L2
open PySem PySem.Spec PyProof.Rows

noncomputable def MtM (X : Cx) (id : String) (r : V → List V → Hp → VK → Prop) : Prop :=
 ∀ (pins : List (Addr × Obj)) (s : Shared) (σ : St) (H : Hp) (x : V) (xs : List V) (v : Value) (us : List Value) (Q : VK), Inv X pins σ H s → RelV x v → Vals xs us → r x xs H Q →
  wpAny (model X.prog X.w) X.A (call (.builtin id) (v :: us)) (EP X pins σ Q) X.xe s

theorem Vals.one {x : V} {us : List Value} (h : Vals [x] us) : ∃ u, us = [u] ∧ RelV x u := by
 cases h with
 | cons r t =>
  cases t
  exact ⟨_, rfl, r⟩
theorem Vals.zero : ∀ {us : List Value}, Vals [] us → us = []
 | _, .nil => rfl
theorem Vals.dropLast {xs : List V} {us : List Value} (h : Vals xs us) : Vals xs.dropLast us.dropLast := by
 induction h with
 | nil => exact .nil
 | cons r t ih =>
  cases t with
  | nil => exact .nil
  | cons q t' => exact .cons r ih
theorem Vals.rep {xs : List V} {us : List Value} (h : Vals xs us) : ∀ k : Nat, Vals (List.replicate k xs).flatten (List.replicate k us).flatten
 | 0 => .nil
 | k + 1 => by
  rw [List.replicate_succ, List.replicate_succ, List.flatten_cons, List.flatten_cons]
  exact Vals.append h (Vals.rep h k)
theorem erase_last {α : Type} (l : List α) : l.eraseIdx (l.length - 1) = l.dropLast := by
 induction l with
 | nil => rfl
 | cons a r ih =>
  cases r with
  | nil => rfl
  | cons b r =>
   have e : (a :: b :: r).length - 1 = ((b :: r).length - 1) + 1 := by
    have h1 : (a :: b :: r).length = r.length + 2 := rfl
    have h2 : (b :: r).length = r.length + 1 := rfl
    omega
   rw [e, List.eraseIdx_cons_succ, ih]
   all_goals rfl
theorem foldl_rep (its : List Value) : ∀ (k : Nat) (acc : List Value),
  List.foldl (fun x1 x2 => x1 ++ x2) acc.toArray (List.replicate k its.toArray) = (acc ++ (List.replicate k its).flatten).toArray
 | 0, acc => by simp
 | k + 1, acc => by
  have e : acc.toArray ++ its.toArray = (acc ++ its).toArray := by simp
  have e2 : (acc ++ its) ++ (List.replicate k its).flatten = acc ++ (List.replicate (k + 1) its).flatten := by
   rw [List.replicate_succ, List.flatten_cons, List.append_assoc]
  rw [← e2, ← foldl_rep its k (acc ++ its), ← e, List.replicate_succ, List.foldl_cons]

section
variable {X : Cx} {pins : List (Addr × Obj)} {σ : St} {H : Hp} {s : Shared} {l b : Addr} {xs ys zs : List V}

theorem Inv.lset {its its' : List Value} {n : Nat} {f : Array Value → Array Value} {t' : Nat} (I : Inv X pins σ H s) (hH : H l = some (.lst xs))
  (e : s.heap.get? l = some { cls := .type "list", data := .seq its.toArray n }) (hf : f its.toArray = its'.toArray) (hv : Vals ys its') (hz : ys.length ≤ sizeLine) :
  Inv X pins σ (upd H l (.lst ys)) { s with heap := s.heap.update l (Obj.mapSeq f), toks := t' } := by
 have q := PySem.IsL.update e f
 rw [hf] at q
 refine I.write (x := l) (e := l) (by rw [hH]; exact trivial) (.inl rfl) (fun b' u hb hu => (Heap.get?_update_other s.heap (Obj.mapSeq f) (Ne.symm hb)).trans hu) ⟨_, q⟩ ?_
 exact ⟨hz, its', _, hv, q⟩
theorem Inv.lnew {its : List Value} {t' : Nat} (I : Inv X pins σ H s) (hv : Vals ys its) (hz : ys.length ≤ sizeLine) :
  Inv X pins σ (upd H s.heap.objs.size (.lst ys)) { s with heap := s.heap.push { cls := .type "list", data := .seq its.toArray }, toks := t' } :=
 I.laid (fun _ _ q => Heap.get?_push_of_some _ q) (Nat.le_refl _) ⟨hz, its, 0, hv, Heap.get?_push_size _ rfl⟩
theorem Inv.fresh (I : Inv X pins σ H s) : H s.heap.objs.size = none := I.hok.fresh (Nat.le_refl _)
theorem Inv.lstM (I : Inv X pins σ H s) (hH : H l = some (.lst xs)) : xs.length ≤ sizeLine ∧ ∃ (its : List Value) (n : Nat), Vals xs its ∧ xs.length = its.length ∧ s.heap.get? l = some { cls := .type "list", data := .seq its.toArray n } := by
 obtain ⟨z, its, n, r, e⟩ := I.hok l _ hH
 exact ⟨z, its, n, r, r.length, e⟩

theorem notLongL {n : Nat} (h : n ≤ sizeLine) : Builtin.List.listTooLong n = false := by
 unfold Builtin.List.listTooLong
 exact decide_eq_false (by omega)
end

section
variable {X : Cx}

noncomputable def rAppend : V → List V → Hp → VK → Prop := fun x vs H Q => ∃ l xs y, x = .ref l ∧ vs = [y] ∧ H l = some (.lst xs) ∧ xs.length < sizeLine ∧ Q .non (upd H l (.lst (xs ++ [y])))
theorem mt_append : MtM X "list.append" rAppend := by
 intro pins s σ H x vs v us Q I rx rv h
 obtain ⟨l, xs, y, rfl, rfl, hH, hz, q⟩ := h
 cases rx
 obtain ⟨u, rfl, ru⟩ := rv.one
 obtain ⟨z, its, n, r, hl, e⟩ := I.lstM hH
 refine call_meets F.slot_list_append ⟨_, e, rfl⟩ F.entry_list_append (F.args_list_append_2 _ _) (PySem.list_append l its.toArray n u (by rw [List.size_toArray]; omega)) ⟨e, ?_⟩
 refine ⟨.non, _, I.lset (its' := its ++ [u]) hH e (by simp) (r.append (.cons ru .nil)) ?_, rfl, q⟩
 rw [List.length_append, List.length_singleton]
 omega

noncomputable def rExtend : V → List V → Hp → VK → Prop := fun x vs H Q => ∃ l b xs zs, x = .ref l ∧ vs = [.ref b] ∧ H l = some (.lst xs) ∧ H b = some (.lst zs) ∧ xs.length + zs.length ≤ sizeLine ∧ Q .non (upd H l (.lst (xs ++ zs)))
theorem mt_extend : MtM X "list.extend" rExtend := by
 intro pins s σ H x vs v us Q I rx rv h
 obtain ⟨l, b, xs, zs, rfl, rfl, hH, hB, hz, q⟩ := h
 cases rx
 obtain ⟨u, rfl, ru⟩ := rv.one
 cases ru
 obtain ⟨z, its, n, r, hl, e⟩ := I.lstM hH
 obtain ⟨z2, its2, n2, r2, hl2, e2⟩ := I.lstM hB
 have hsz : its.toArray.size + its2.toArray.size ≤ sizeLine := by rw [List.size_toArray, List.size_toArray]; omega
 have hlong : ¬ (!its.toArray.isEmpty && Builtin.List.listTooLong (its.toArray.size + its2.toArray.size)) = true := by
  rw [notLongL hsz, Bool.and_false]
  exact Bool.false_ne_true
 refine call_meets F.slot_list_extend ⟨_, e, rfl⟩ F.entry_list_extend (F.args_list_extend_2 _ _)
  (AutoSeq1.list_extend_list_list_0 l its.toArray n b its2.toArray n2 hlong (by rw [List.size_toArray]; omega) (by omega)) ⟨e, e2, ?_⟩
 refine ⟨.non, _, I.lset (its' := its ++ its2) hH e (by simp) (r.append r2) ?_, rfl, q⟩
 rw [List.length_append]
 omega

noncomputable def rPop : V → List V → Hp → VK → Prop := fun x vs H Q => ∃ l xs y, x = .ref l ∧ vs = [] ∧ H l = some (.lst xs) ∧ xs[xs.length - 1]? = some y ∧ Q y (upd H l (.lst xs.dropLast))
theorem mt_pop : MtM X "list.pop" rPop := by
 intro pins s σ H x vs v us Q I rx rv h
 obtain ⟨l, xs, y, rfl, rfl, hH, hy, q⟩ := h
 cases rx
 have hus := rv.zero
 subst hus
 obtain ⟨z, its, n, r, hl, e⟩ := I.lstM hH
 obtain ⟨u, hu, ru⟩ := r.get hy
 have hy' : its.toArray[its.toArray.size - 1]? = some u := by
  show its.toArray[its.length - 1]? = some u
  rw [← Array.getElem?_toList, ← hl]
  exact hu
 refine call_meets F.slot_list_pop ⟨_, e, rfl⟩ F.entry_list_pop (F.args_list_pop_1 _) (MeetsSeq.list_pop_last l its.toArray n u hy' (by rw [List.size_toArray]; omega)) ⟨e, ?_⟩
 refine ⟨y, _, I.lset (its' := its.dropLast) hH e ?_ r.dropLast ?_, ru, q⟩
 ·show its.toArray.eraseIdxIfInBounds (its.toArray.size - 1) = its.dropLast.toArray
  rw [List.size_toArray, List.eraseIdxIfInBounds_toArray, erase_last]
 ·rw [List.length_dropLast]
  omega

noncomputable def rCat : R2 := fun x y H Q => ∃ l b xs zs, x = .ref l ∧ y = .ref b ∧ H l = some (.lst xs) ∧ H b = some (.lst zs) ∧ xs.length + zs.length ≤ sizeLine ∧ ∀ p, H p = none → Q (.ref p) (upd H p (.lst (xs ++ zs)))
theorem op_cat : OpR X (binaryOp .Add) rCat := by
 intro pins s σ H x y v u Q I rx ry h
 obtain ⟨l, b, xs, zs, rfl, rfl, hH, hB, hz, q⟩ := h
 cases rx
 cases ry
 obtain ⟨z, its, n, r, hl, e⟩ := I.lstM hH
 obtain ⟨z2, its2, n2, r2, hl2, e2⟩ := I.lstM hB
 refine PySem.P.add_list e e2 ?_ (by rw [List.size_toArray, List.size_toArray]; omega)
 have ea : its.toArray ++ its2.toArray = (its ++ its2).toArray := by simp
 rw [ea]
 exact ⟨.ref _, _, I.lnew (t' := s.toks) (r.append r2) (by rw [List.length_append]; omega), rfl, q _ I.fresh⟩
noncomputable def rRep : R2 := fun x y H Q => ∃ l k xs, x = .ref l ∧ y = .int k ∧ H l = some (.lst xs) ∧ -(2 ^ 63) ≤ k ∧ k < 2 ^ 63 ∧ xs.length * k.toNat ≤ sizeLine ∧
 ∀ p, H p = none → Q (.ref p) (upd H p (.lst (List.replicate k.toNat xs).flatten))
theorem len_rep {α : Type} (xs : List α) (k : Nat) : (List.replicate k xs).flatten.length = k * xs.length := by
 induction k with
 | zero => simp
 | succ k ih => rw [List.replicate_succ, List.flatten_cons, List.length_append, ih, Nat.succ_mul, Nat.add_comm]
theorem op_rep : OpR X (binaryOp .Mult) rRep := by
 intro pins s σ H x y v u Q I rx ry h
 obtain ⟨l, k, xs, rfl, rfl, hH, h1, h2, hz, q⟩ := h
 cases rx
 obtain ⟨t, rfl⟩ := ry
 obtain ⟨z, its, n, r, hl, e⟩ := I.lstM hH
 have hlen : its.toArray.size * k.toNat ≤ sizeLine := by rw [List.size_toArray, ← hl]; exact hz
 have hcap : ¬ its.toArray.size * k.toNat > (2 ^ 63 - 1) / 8 := by
  have : (sizeLine : Nat) ≤ (2 ^ 63 - 1) / 8 := by decide
  omega
 have hfit : ¬ (!Builtin.List.listFitsIndex k) = true := by
  rw [fitsIndex_both h1 h2]
  exact Bool.false_ne_true
 have hlong : ¬ Builtin.List.listTooLong (its.toArray.size * k.toNat) = true := by
  rw [notLongL hlen]
  exact Bool.false_ne_true
 have hnew : List.foldl (fun x1 x2 => x1 ++ x2) #[] (List.replicate (if its.toArray.isEmpty = true then 0 else k.toNat) its.toArray) = (List.replicate k.toNat its).flatten.toArray := by
  have f0 : ∀ m : Nat, List.foldl (fun x1 x2 => x1 ++ x2) #[] (List.replicate m its.toArray) = (List.replicate m its).flatten.toArray := fun m => by
   have := foldl_rep its m []
   rw [List.nil_append] at this
   exact this
  rw [f0]
  cases its with
  | nil => simp
  | cons a r' => rw [if_neg (by simp)]
 refine wpAny_binaryOp_repeat_ref (T := "list") (U := "int") (by decide) ⟨_, e, rfl⟩ (fun s' => typeIs_int s' k t) noFill_list_mul F.fills_int_mul F.slot_int_rmul repeat_list F.slot_int_index.lookup
  (call_meets F.slot_int_rmul (typeIs_int s k t) F.entry_int_rmul (F.args_int_rmul_2 _ _) (int___rmul___int_list k t l its.toArray n)
   ⟨e, rfl, ⟨_, e, rfl⟩, call_meets F.slot_list_mul ⟨_, e, rfl⟩ F.entry_list_mul (F.args_list_mul_2 _ _) (AutoListH.list___mul___list_int_3 l its.toArray n k t hfit hcap hlong) ⟨e, ?_⟩⟩)
 rw [hnew]
 exact ⟨.ref _, _, I.lnew (t' := s.toks) (r.rep k.toNat) (by rw [len_rep, Nat.mul_comm]; exact hz), rfl, q _ I.fresh⟩

end

section
variable {prog : Program} {w : World} {A : Around} {E : Value → Shared → Prop} {s : Shared}
end

section
variable {X : Cx}
end
end L2

namespace L2
open PySem PySem.Spec PyProof.Rows

section
variable {κ : Type} [DecidableEq κ]
noncomputable def valV (kvs : List (κ × V)) (k : κ) : Option V := (kvs.find? fun kv => decide (kv.1 = k)).map (·.2)
noncomputable def putK (kvs : List (κ × V)) (k : κ) (v : V) : List (κ × V) :=
 if (kvs.any fun kv => decide (kv.1 = k)) = true then kvs.map (fun kv => if kv.1 = k then (kv.1, v) else kv) else kvs ++ [(k, v)]
theorem valV_pos {p : κ × V} {r : List (κ × V)} {k : κ} (e : p.1 = k) : valV (p :: r) k = some p.2 := by simp [valV, List.find?_cons, e]
theorem valV_neg {p : κ × V} {r : List (κ × V)} {k : κ} (e : ¬ p.1 = k) : valV (p :: r) k = valV r k := by simp [valV, List.find?_cons, e]
theorem valV_any (k : κ) : ∀ kvs : List (κ × V), (kvs.any fun kv => decide (kv.1 = k)) = (valV kvs k).isSome
 | [] => rfl
 | p :: r => by
  rw [List.any_cons]
  by_cases e : p.1 = k
  ·simp only [valV_pos e, decide_eq_true e, Bool.true_or, Option.isSome_some]
  ·rw [valV_neg e, decide_eq_false e, Bool.false_or]; exact valV_any k r
theorem valV_map (k j : κ) (y : V) : ∀ kvs : List (κ × V), valV (kvs.map fun kv => if kv.1 = k then (kv.1, y) else kv) j = (valV kvs j).map fun x => if j = k then y else x
 | [] => rfl
 | p :: r => by
  have ih := valV_map k j y r
  rw [List.map_cons]
  by_cases h : p.1 = k
  ·rw [if_pos h]
   by_cases e : p.1 = j
   ·rw [valV_pos (p := (p.1, y)) e, valV_pos e, Option.map_some, if_pos (e.symm.trans h)]
   ·rw [valV_neg (p := (p.1, y)) e, valV_neg e, ih]
  ·rw [if_neg h]
   by_cases e : p.1 = j
   ·rw [valV_pos (p := p) e, valV_pos e, Option.map_some, if_neg (fun z => h (e.trans z))]
   ·rw [valV_neg (p := p) e, valV_neg e, ih]
theorem valV_snoc (k j : κ) (y : V) : ∀ kvs : List (κ × V), valV kvs k = none → valV (kvs ++ [(k, y)]) j = if j = k then some y else valV kvs j
 | [], _ => by
  by_cases e : k = j
  ·rw [if_pos e.symm]; exact valV_pos (p := (k, y)) e
  ·rw [if_neg (fun z => e z.symm)]; exact valV_neg (p := (k, y)) e
 | p :: r, hn => by
  rw [List.cons_append]
  have hk : ¬ p.1 = k := fun z => by rw [valV_pos z] at hn; cases hn
  rw [valV_neg hk] at hn
  have ih := valV_snoc k j y r hn
  by_cases e : p.1 = j
  ·rw [valV_pos e, valV_pos e, if_neg (fun z => hk (e.trans z))]
  ·rw [valV_neg e, valV_neg e, ih]
theorem valV_put (kvs : List (κ × V)) (k j : κ) (y : V) : valV (putK kvs k y) j = if j = k then some y else valV kvs j := by
 unfold putK
 by_cases a : (kvs.any fun kv => decide (kv.1 = k)) = true
 ·rw [if_pos a, valV_map]
  rw [valV_any] at a
  by_cases e : j = k
  ·obtain ⟨x, hx⟩ := Option.isSome_iff_exists.mp a
   rw [if_pos e, e, hx, Option.map_some, if_pos rfl]
  ·rw [if_neg e]
   cases valV kvs j with
   | none => rfl
   | some x => rw [Option.map_some, if_neg e]
 ·rw [if_neg a]
  refine valV_snoc k j y kvs ?_
  rw [valV_any] at a
  cases q : valV kvs k with
  | none => rfl
  | some x => rw [q] at a; exact (a rfl).elim
theorem length_putK (kvs : List (κ × V)) (k : κ) (v : V) : (putK kvs k v).length ≤ kvs.length + 1 := by
 unfold putK
 split
 ·rw [List.length_map]; omega
 ·rw [List.length_append, List.length_cons, List.length_nil]; omega
theorem RelO.isSome_eq {o : Option V} {u : Option Value} (r : RelO o u) : o.isSome = u.isSome := by
 cases o with
 | none => cases u with
  | none => rfl
  | some _ => exact (show False from r).elim
 | some _ => cases u with
  | none => exact (show False from r).elim
  | some _ => rfl
theorem KV.val {kvs : List (κ × V)} {vs : List (κ × Value)} (r : KV kvs vs) (k : κ) : RelO (valV kvs k) (valueAt vs k) := by
 unfold KV at r
 induction r with
 | nil => exact True.intro
 | @cons p q ps qs h t ih =>
  obtain ⟨h1, h2⟩ := h
  by_cases e : p.1 = k
  ·have e' : q.1 = k := h1.symm.trans e
   have b : valueAt (q :: qs) k = some q.2 := by simp [valueAt, List.find?_cons, e']
   rw [valV_pos e, b]; exact h2
  ·have e' : ¬ q.1 = k := fun z => e (h1.trans z)
   have b : valueAt (q :: qs) k = valueAt qs k := by simp [valueAt, List.find?_cons, e']
   rw [valV_neg e, b]; exact ih
theorem KV.any {kvs : List (κ × V)} {vs : List (κ × Value)} (r : KV kvs vs) (k : κ) : (kvs.any fun kv => decide (kv.1 = k)) = vs.any fun kv => decide (kv.1 = k) := by
 unfold KV at r
 induction r with
 | nil => rfl
 | cons h t ih => rw [List.any_cons, List.any_cons, ih, h.1]
theorem KV.repl {kvs : List (κ × V)} {vs : List (κ × Value)} (r : KV kvs vs) (k : κ) {y : V} {u : Value} (ry : RelV y u) :
  KV (kvs.map fun kv => if kv.1 = k then (kv.1, y) else kv) (vs.map fun kv => if kv.1 = k then (kv.1, u) else kv) := by
 unfold KV at r ⊢
 induction r with
 | nil => exact .nil
 | @cons p q ps qs h t ih =>
  rw [List.map_cons, List.map_cons]
  refine .cons ?_ ih
  obtain ⟨h1, h2⟩ := h
  by_cases e : p.1 = k
  ·rw [if_pos e, if_pos (h1.symm.trans e)]; exact ⟨h1, ry⟩
  ·rw [if_neg e, if_neg (fun z => e (h1.trans z))]; exact ⟨h1, h2⟩
theorem KV.put {kvs : List (κ × V)} {vs : List (κ × Value)} (r : KV kvs vs) (k : κ) {y : V} {u : Value} (ry : RelV y u) : KV (putK kvs k y) (stored vs k u) := by
 unfold putK stored
 rw [r.any k]
 by_cases e : (vs.any fun kv => decide (kv.1 = k)) = true
 ·rw [if_pos e, if_pos e]; exact r.repl k ry
 ·rw [if_neg e, if_neg e]; exact Paired.snoc r ⟨rfl, ry⟩
theorem KV.length {kvs : List (κ × V)} {vs : List (κ × Value)} (r : KV kvs vs) : kvs.length = vs.length := Paired.length r
end

theorem kV_is {P : Program} {w : World} {k : Key} {u : Value} (r : RelV (kV k) u) : (mixKind P w).is k u = true := by
 cases k with
 | inl i => obtain ⟨t, e⟩ := (show ∃ t, u = Value.int i t from r); subst e; exact mixKind_int P w i t
 | inr x => obtain ⟨t, e⟩ := (show ∃ t, u = Value.str x t from r); subst e; exact mixKind_str P w x t
theorem items_are {P : Program} {w : World} : ∀ {ks : List Key} {us : List Value}, Vals (ks.map kV) us → ItemsAre (mixKind P w) ks us
 | [], _, r => by rw [List.map_nil] at r; cases r; exact .nil
 | k :: ks, _, r => by
  rw [List.map_cons] at r
  cases r with
  | cons h t => exact .cons (kV_is h) (items_are t)

noncomputable abbrev KT (H : Hp) : List (List Key × V) → List (List Key × Addr × Value) → Prop := Paired fun p q => p.1 = q.1 ∧ H q.2.1 = some (.tup (p.1.map kV)) ∧ RelV p.2 q.2.2
theorem KT.val {H : Hp} {kvs : List (List Key × V)} {xs : List (List Key × Addr × Value)} (r : KT H kvs xs) (k : List Key) : RelO (valV kvs k) ((atKey xs k).map (·.2)) := by
 induction r with
 | nil => exact True.intro
 | @cons p q ps qs h t ih =>
  obtain ⟨h1, _, h2⟩ := h
  by_cases e : p.1 = k
  ·have e' : q.1 = k := h1.symm.trans e
   have b : atKey (q :: qs) k = some q.2 := by simp [atKey, List.find?_cons, e']
   rw [valV_pos e, b]; exact h2
  ·have e' : ¬ q.1 = k := fun z => e (h1.trans z)
   have b : atKey (q :: qs) k = atKey qs k := by simp [atKey, List.find?_cons, e']
   rw [valV_neg e, b]; exact ih
theorem KT.repl {H : Hp} {kvs : List (List Key × V)} {xs : List (List Key × Addr × Value)} (r : KT H kvs xs) (k : List Key) {y : V} {u : Value} (ry : RelV y u) :
  KT H (kvs.map fun kv => if kv.1 = k then (kv.1, y) else kv) (xs.map (putAt k u)) := by
 induction r with
 | nil => exact .nil
 | @cons p q ps qs h t ih =>
  rw [List.map_cons, List.map_cons]
  refine .cons ?_ ih
  obtain ⟨h1, h2, h3⟩ := h
  unfold putAt
  by_cases e : p.1 = k
  ·rw [if_pos e, if_pos (h1.symm.trans e)]; exact ⟨h1, h2, ry⟩
  ·rw [if_neg e, if_neg (fun z => e (h1.trans z))]; exact ⟨h1, h2, h3⟩
theorem KT.put {H : Hp} {kvs : List (List Key × V)} {xs : List (List Key × Addr × Value)} (r : KT H kvs xs) (k : List Key) {b : Addr} {y : V} {u : Value} (hb : H b = some (.tup (k.map kV))) (ry : RelV y u) :
  KT H (putK kvs k y) (storedH xs k b u) := by
 have e : (kvs.any fun kv => decide (kv.1 = k)) = (atKey xs k).isSome := by
  rw [valV_any, (r.val k).isSome_eq, Option.isSome_map]
 unfold putK storedH
 rw [e]
 by_cases q : (atKey xs k).isSome = true
 ·rw [if_pos q, if_pos q]; exact r.repl k ry
 ·rw [if_neg q, if_neg q]; exact Paired.snoc r ⟨rfl, hb, ry⟩
theorem KT.keeps {H H' : Hp} {kvs : List (List Key × V)} {xs : List (List Key × Addr × Value)} (r : KT H kvs xs) (ht : ∀ b ys, H b = some (.tup ys) → H' b = some (.tup ys)) : KT H' kvs xs :=
 Paired.mapP r fun _ _ z => ⟨z.1, ht _ _ z.2.1, z.2.2⟩

section
variable {P : Program} {w : World} {H : Hp} {h : Heap} {a : Addr}
theorem rd_of {u : HO} (ok : HOk P w H h) (e : Rd H a u) : ObjOk P w H h a u := e.ok ok
theorem dk_rd {kvs : List (Key × V)} (ok : HOk P w H h) (e : Rd H a (.dK kvs)) : kvs.length ≤ sizeLine ∧ (a == sysModules) = false ∧ ∃ vs, KV kvs vs ∧ h.DictOf (mixKind P w) a vs :=
 show ObjOk P w H h a (.dK kvs) from rd_of ok e
theorem dk_of {kvs : List (Key × V)} (ok : HOk P w H h) (e : H a = some (.dK kvs)) : kvs.length ≤ sizeLine ∧ (a == sysModules) = false ∧ ∃ vs, KV kvs vs ∧ h.DictOf (mixKind P w) a vs := dk_rd ok (.inl e)
theorem key_of {ks : List Key} (ok : HOk P w H h) (e : H a = some (.tup (ks.map kV))) : (tupleKind (mixKind P w)).is h ks a := by
 obtain ⟨_, its, r, o, h1, h2, n, h3, _⟩ := (show ObjOk P w H h a (.tup (ks.map kV)) from ok a _ e)
 exact ⟨o, its.toArray, n, h1, h2, h3, by simpa using items_are r⟩
theorem dt_rd {kvs : List (List Key × V)} (ok : HOk P w H h) (e : Rd H a (.dT kvs)) : kvs.length ≤ sizeLine ∧ (a == sysModules) = false ∧
  ∃ xs, KT H kvs xs ∧ h.DictOfH (tupleKind (mixKind P w)) a xs := by
 obtain ⟨z, y, xs, r, o, es, ep, h1, h2, h3, h4, h5⟩ := (show ObjOk P w H h a (.dT kvs) from rd_of ok e)
 refine ⟨z, y, xs, r, o, es, ep, h1, h2, h3, h4, fun x hx => ?_, h5⟩
 have all : ∀ {l : List (List Key × V)} {m : List (List Key × Addr × Value)}, KT H l m → ∀ x ∈ m, (tupleKind (mixKind P w)).is h x.1 x.2.1 := by
  intro l m q
  induction q with
  | nil => intro x hx; exact nomatch hx
  | @cons p q ps qs hq t ih =>
   intro x hx
   rcases List.mem_cons.mp hx with e | hx
   ·subst e
    exact key_of ok (by rw [← hq.1]; exact hq.2.1)
   ·exact ih x hx
 exact all r x hx
theorem dt_of {kvs : List (List Key × V)} (ok : HOk P w H h) (e : H a = some (.dT kvs)) : kvs.length ≤ sizeLine ∧ (a == sysModules) = false ∧
  ∃ xs, KT H kvs xs ∧ h.DictOfH (tupleKind (mixKind P w)) a xs := dt_rd ok (.inl e)
end

noncomputable def DGet (H : Hp) (a : Addr) (y : V) (r : Option V) : Prop :=
 (∃ kvs k, Rd H a (.dK kvs) ∧ y = kV k ∧ r = valV kvs k) ∨ ∃ kvs k b, Rd H a (.dT kvs) ∧ y = .ref b ∧ H b = some (.tup (k.map kV)) ∧ r = valV kvs k
noncomputable def DPut (H : Hp) (a : Addr) (y v : V) (H' : Hp) : Prop :=
 (∃ kvs k, H a = some (.dK kvs) ∧ y = kV k ∧ kvs.length < sizeLine ∧ H' = upd H a (.dK (putK kvs k v))) ∨
 ∃ kvs k b, H a = some (.dT kvs) ∧ y = .ref b ∧ H b = some (.tup (k.map kV)) ∧ kvs.length < sizeLine ∧ H' = upd H a (.dT (putK kvs k v))
theorem DGet.k {H : Hp} {a : Addr} {kvs : List (Key × V)} {k : Key} (e : H a = some (.dK kvs)) : DGet H a (kV k) (valV kvs k) := .inl ⟨kvs, k, .inl e, rfl, rfl⟩
theorem DPut.k {H : Hp} {a : Addr} {kvs : List (Key × V)} {k : Key} {v : V} (e : H a = some (.dK kvs)) (hl : kvs.length < sizeLine) : DPut H a (kV k) v (upd H a (.dK (putK kvs k v))) := .inl ⟨kvs, k, e, rfl, hl, rfl⟩
section
variable {X : Cx} {pins : List (Addr × Obj)} {σ : St} {H : Hp} {s : Shared} {a : Addr} {y v : V} {u r : Value} {o : Option V} {A : Around} {E : Value → Shared → Prop}

theorem Inv.big (I : Inv X pins σ H s) : sysModules < s.heap.objs.size := by
 have h : mainGlobals < s.heap.objs.size := (I.mod.glob.keeps I.bk).lt
 exact Nat.lt_trans (by decide) h

theorem d_getItem {Q : Value → Shared → Prop} (hu : A.units + 1 < cLine) (I : Inv X pins σ H s) (g : DGet H a y (some v)) (ry : RelV y u) (h : ∀ w' s', Inv X pins σ H s' → RelV v w' → Q w' s') :
  wpAny (model X.prog X.w) A (getItem (.ref a) u) Q E s := by
 rcases g with ⟨kvs, k, e, ey, l⟩ | ⟨kvs, k, b, e, ey, eb, l⟩
 ·subst ey
  obtain ⟨z, hd, vs, rel, dd⟩ := dk_rd I.hok e
  obtain ⟨w', hw, rw'⟩ := RelO.some_of (v := v) (o := valueAt vs k) (by rw [l]; exact rel.val k)
  exact wpAny_getItem_of (kV_is ry) dd.mapOf hw (h w' _ (I.tok _) rw')
 ·subst ey
  cases (show u = Value.ref b from ry)
  obtain ⟨z, hd, xs, rel, dd⟩ := dt_rd I.hok e
  obtain ⟨w', hw, rw'⟩ := RelO.some_of (v := v) (o := (atKey xs k).map (·.2)) (by rw [l]; exact rel.val k)
  obtain ⟨p, hp, hp2⟩ := Option.map_eq_some_iff.mp hw
  refine wpAny_getItem_heap (tupleKind_room_in1 hu) (key_of I.hok eb) dd hp ?_
  rw [hp2]
  exact h w' _ (I.tok _) rw'
theorem d_write {h' : Heap} {t' : Nat} {ob : HO} (I : Inv X pins σ H s) (mu : Mut (H a)) (hs : Heap.SameBut a s.heap h') (he : ∃ q, h'.get? a = some q) (new : ObjOk X.prog X.w (upd H a ob) h' a ob) :
  Inv X pins σ (upd H a ob) { s with heap := h', toks := t' } :=
 I.write (x := a) (e := a) mu (.inl rfl) (fun b q hb z => (hs.2 b hb).trans z) he new
theorem dk_new {P : Program} {w : World} {H' : Hp} {h' : Heap} {kvs : List (Key × V)} {vs : List (Key × Value)} (z : kvs.length ≤ sizeLine) (hd : (a == sysModules) = false) (rel : KV kvs vs) (dd : h'.DictOf (mixKind P w) a vs) :
  ObjOk P w H' h' a (.dK kvs) := ⟨z, hd, vs, rel, dd⟩
theorem d_setItem {H' : Hp} {Q : Unit → Shared → Prop} (hu : A.units + 1 < cLine) (I : Inv X pins σ H s) (g : DPut H a y v H') (ry : RelV y u) (rv : RelV v r) (h : ∀ s', Inv X pins σ H' s' → Q () s') :
  wpAny (model X.prog X.w) A (setItem (.ref a) u r) Q E s := by
 rcases g with ⟨kvs, k, e, ey, l, eH⟩ | ⟨kvs, k, b, e, ey, eb, l, eH⟩
 ·subst ey eH
  obtain ⟨z, hd, vs, rel, dd⟩ := dk_of I.hok e
  have hz : vs.length ≤ sizeLine := by rw [← rel.length]; exact z
  have hl : (putK kvs k v).length ≤ sizeLine := by have := length_putK kvs k v; omega
  refine wpAny_setItem_pairs (hsz := hz) (kV_is ry) dd fun h' dd' hs => h _ ?_
  have he : ∃ q, h'.get? a = some q := let ⟨q, _, _, hq, _⟩ := dd'; ⟨q, hq⟩
  exact d_write I (by rw [e]; exact True.intro) hs he (dk_new hl hd (rel.put k rv) dd')
 ·subst ey eH
  cases (show u = Value.ref b from ry)
  obtain ⟨z, hd, xs, rel, dd⟩ := dt_of I.hok e
  have hz : xs.length ≤ sizeLine := by rw [← Paired.length rel]; exact z
  have hl : (putK kvs k v).length ≤ sizeLine := by have := length_putK kvs k v; omega
  refine wpAny_setItem_heap (hsz := hz) (tupleKind_room_in1 hu) (key_of I.hok eb) dd fun h' dd' hs => h _ ?_
  obtain ⟨q, es, ep, hq, h2, h3, h4, _, h5⟩ := dd'
  refine d_write I (by rw [e]; exact True.intro) hs ⟨q, hq⟩ ⟨hl, hd, _, (rel.put k eb rv).keeps fun c ys ec => ?_, q, es, ep, hq, h2, h3, h4, h5⟩
  rw [qA (ne_of ec e (fun z => nomatch z))]
  exact ec
end

section
variable {X : Cx} {pins : List (Addr × Obj)} {σ : St} {H : Hp} {s : Shared} {a : Addr} {kvs : List (Key × V)} {k : Key} {u : Value} {A : Around} {E : Value → Shared → Prop}
end

noncomputable def NoSl (i : Expr) : Prop := ∀ ov iv, subscripted i false ov iv = operate [ov, iv] (getItem ov iv)
theorem subD_of {prog : Program} {w : World} {A : Around} {E : Value → Shared → Prop} {s : Shared} {env : Env} {value slice : Expr} {pos : Pos} {T id : String} {Q : Value → Shared → Prop}
  (hl : typeLookup (.type T) "__getitem__" = pure (some (.builtin id))) (hs : NoSl slice)
  (h : wpAny (model prog w) A (eval value env) (fun o s₁ => wpAny (model prog w) A (eval slice env) (fun i s₂ => s₂.TypeIs o T ∧ wpAny (model prog w) A (getItem o i) Q E s₂) E s₁) E s) :
  wpAny (model prog w) A (eval (.Subscript value slice pos) env) Q E s := by
 refine Subscript_ (wpAny_mono h (fun o s₁ h₁ => wpAny_mono h₁ (fun i s₂ h₂ => ?_) fun _ _ x => x) fun _ _ x => x)
 obtain ⟨hT, h₂⟩ := h₂
 unfold subscriptTail
 refine wpAny_bind ?_
 rw [getitemInPython_of_ne hT.not_modules]
 refine wpAny_bind (wpAny_specialOf hT hl ?_)
 have fin : wpAny (model prog w) A (subscripted slice false o i) (fun r s₃ => wpAny (model prog w) A (letTemporaryGo value o r >>= fun _ => pure r) Q E s₃) E s₂ := by
  rw [hs o i]
  exact wpAny_operating (wpAny_mono h₂ (fun r s₃ h₃ => wpAny_bind (wpAny_letTemporaryGo (wpAny_pure h₃))) fun _ _ x => x)
 first
  | exact wpAny_pure (wpAny_bind fin)
  | exact wpAny_bind (wpAny_pure (wpAny_bind fin))
  | exact wpAny_bind fin

theorem dict_typeIs {X : Cx} {pins : List (Addr × Obj)} {σ : St} {H : Hp} {s : Shared} {a : Addr} {y : V} {o : Option V} (I : Inv X pins σ H s) (g : DGet H a y o) : s.TypeIs (.ref a) "dict" := by
 rcases g with ⟨kvs, k, e, _, _⟩ | ⟨kvs, k, b, e, _, _, _⟩
 ·obtain ⟨_, _, vs, _, dd⟩ := dk_rd I.hok e
  exact dd.typeIs
 ·obtain ⟨_, _, xs, _, dd⟩ := dt_rd I.hok e
  exact dd.typeIs
noncomputable def tDGet (td ty : TE) : TE := fun σ H Q => td σ H fun x H1 => ty σ H1 fun y H2 => ∃ a v, x = .ref a ∧ DGet H2 a y (some v) ∧ Q v H2
noncomputable def sDPut (td ty tv : TE) : TS := fun D σ H => tv σ H fun v H1 => td σ H1 fun x H2 => ty σ H2 fun y H3 => ∃ a H4, x = .ref a ∧ DPut H3 a y v H4 ∧ D.nx σ H4
section
variable {X : Cx} {o i e value : Expr} {pos pos' tpos : Pos} {td ty tv : TE}
theorem pe_dget (hu : X.A.units + 1 < cLine) (ho : PE X o td) (hi : PE X i ty) (hs : NoSl i) : PE X (.Subscript o i pos) (tDGet td ty) := by
 intro pins s σ H Q I h
 refine subD_of PySem.F.slot_dict_getitem.lookup hs (thn (ho pins s σ H _ I h) fun u s1 ⟨x, H1, I1, rx, q1⟩ => thn (hi pins s1 σ H1 _ I1 q1) fun iv s2 ⟨y, H2, I2, ry, a, v, ex, g, q2⟩ => ?_)
 subst ex
 obtain rfl : u = Value.ref a := rx
 exact ⟨dict_typeIs I2 g, d_getItem hu I2 g ry fun w' s3 I3 rw' => ⟨v, H2, I3, rw', q2⟩⟩
theorem ps_dput (hu : X.A.units + 1 < cLine) (ho : PE X o td) (hi : PE X i ty) (hv : PE X value tv) (hs : swapsWith value (some (.Subscript o i pos')) pos.line X.env = pure false) :
  PS X (.Assign [.Subscript o i pos'] value pos) (sDPut td ty tv) := by
 intro pins s σ H D I h
 refine wpAny_Assign_Subscript (thn (hv pins s σ H _ I h) fun r s1 ⟨v, H1, I1, rv, q1⟩ => thn (ho pins s1 σ H1 _ I1 q1) fun u s2 ⟨x, H2, I2, rx, q2⟩ => thn (hi pins s2 σ H2 _ I2 q2) fun iv s3 ⟨y, H3, I3, ry, a, H4, ex, g, q3⟩ => ?_) hs
 subst ex
 obtain rfl : u = Value.ref a := rx
 exact d_setItem hu I3 g ry rv fun s4 I4 => ⟨σ, H4, I4, q3⟩
end

section
variable {X : Cx} {pos : Pos}
end

noncomputable def mergeK (kvs more : List (Key × V)) : List (Key × V) := more.foldl (fun acc kv => putK acc kv.1 kv.2) kvs
theorem KV.merge : ∀ {more : List (Key × V)} {rs : List (Key × Value)} {kvs : List (Key × V)} {vs : List (Key × Value)}, KV more rs → KV kvs vs → KV (mergeK kvs more) (merged vs rs) := by
 intro more rs kvs vs r
 unfold KV at r
 induction r generalizing kvs vs with
 | nil => intro q; exact q
 | @cons p q ps qs h t ih =>
  intro r0
  have e : KV (putK kvs p.1 p.2) (stored vs q.1 q.2) := by
   have := r0.put p.1 h.2
   rw [← h.1]; exact this
  exact ih e
theorem length_mergeK : ∀ (more kvs : List (Key × V)), (mergeK kvs more).length ≤ kvs.length + more.length
 | [], kvs => by show kvs.length ≤ kvs.length + 0; omega
 | p :: r, kvs => by
  have h1 := length_mergeK r (putK kvs p.1 p.2)
  have h2 := length_putK kvs p.1 p.2
  show (mergeK (putK kvs p.1 p.2) r).length ≤ _
  rw [List.length_cons]; omega
section
variable {X : Cx} {pins : List (Addr × Obj)} {σ : St} {H : Hp} {s : Shared} {a : Addr} {y d : V} {u r : Value} {o : Option V} {A : Around} {E : Value → Shared → Prop}
end

section
variable {X : Cx} {o e f : Expr} {apos cpos : Pos} {td ty tx : TE}
end

section
variable {X : Cx} {pins : List (Addr × Obj)} {σ : St} {H : Hp} {s : Shared} {a : Addr} {kvs : List (Key × V)} {A : Around} {E : Value → Shared → Prop}
theorem d_copyOf {Q : Value → Shared → Prop} (I : Inv X pins σ H s) (e : Rd H a (.dK kvs)) (h : ∀ p s', H p = none → Inv X pins σ (upd H p (.dK kvs)) s' → Q (.ref p) s') : wpAny (model X.prog X.w) A (call (.type "dict") [.ref a]) Q E s := by
 obtain ⟨z, hd, vs, rel, dd⟩ := dk_rd I.hok e
 refine kt_call_dict hd dd (by rw [← rel.length]; exact z) fun h' dd' hs => ?_
 refine h _ _ (I.hok.fresh (Nat.le_refl _)) (I.laid (a := s.heap.objs.size) (o := .dK kvs) (t' := s.toks) (fun b q hq => ?_) (Nat.le_refl _) (dk_new z (beq_eq_false_iff_ne.mpr (Ne.symm (Nat.ne_of_lt I.big))) rel dd'))
 exact (hs.2 b (Nat.ne_of_lt (Heap.lt_size hq))).trans (Heap.get?_push_of_some _ hq)
end

section
variable {X : Cx} {pins : List (Addr × Obj)} {σ : St} {H : Hp} {s : Shared} {a : Addr} {y : V} {u : Value} {A : Around} {E : Value → Shared → Prop}
end
end L2

namespace Att
open PySem PySem.W PySem.Calls PyProof.Rows

theorem ints_of_wellAll {P : Params} {h : Heap} : ∀ (ns : List Int) (vs : List Value), WellAll P h vs (ns.map WData.int) → IntsAre vs ns := by
 intro ns
 induction ns with
 | nil =>
  intro vs w
  rw [List.map_nil] at w
  cases w
  exact .nil
 | cons n ns ih =>
  intro vs w
  rw [List.map_cons] at w
  cases w with
  | cons a b =>
   cases a
   exact .cons _ _ (ih _ b)

theorem script_of {l : OpenLaw} {n : Nat} (hn : l.most = some n) {P : Params} {h : Heap} {args : List WData} {vals : List Value}
  (hpre : l.row.toRowW.claim.pre args = true) (hwl : WellAll P h vals args) :
  ∃ a vs ns, vals = [Value.ref a] ∧ args = [WData.list (ns.map WData.int)] ∧ h.get? a = some { cls := .type "list", data := .seq vs.toArray } ∧ IntsAre vs ns ∧ ns.length ≤ n := by
 have hsh : WShape.hasAll [] args [.list .int] = true := (pre_splitW hpre).1
 have hc : l.pre.holds [] { args := args } = true := (pre_splitW hpre).2
 obtain ⟨d, r, rfl, h1, h2⟩ := hasAllW_cons hsh
 obtain rfl := hasAllW_nil h2
 obtain ⟨xs, rfl, h3⟩ := hasW_list h1
 obtain ⟨ns, rfl⟩ := items_int h3
 have hlen : ns.length ≤ n := by
  unfold OpenLaw.pre at hc
  have h4 : (WTm.not (.lt (.lit (.int (n : Int))) (.len (.arg 0)))).holds [] { args := [.list (ns.map .int)] } = true := by
   have h4 := (holds_andW hc).1
   rw [hn] at h4
   exact h4
  have h5 := condW_of h4 (w_not (w_lt w_lit (w_len_list (w_arg rfl))))
  rw [List.length_map] at h5
  refine Nat.le_of_not_lt fun q => ?_
  have q' : (n : Int) < ((ns.length : Nat) : Int) := by omega
  first
   | (rw [decide_eq_true q'] at h5; exact absurd h5 (by decide))
   | (simp at h5; omega)
 cases hwl with
 | cons w1 w2 =>
  cases w2
  cases w1 with
  | list ho hall => exact ⟨_, _, ns, rfl, rfl, ho, ints_of_wellAll ns _ hall, hlen⟩

theorem post_true (l : OpenLaw) (args : List WData) : l.row.toRowW.claim.post args (.bool true) args = true :=
 postW_of (r := l.row.toRowW) (X := (true == true))
  (show WShape.has [] (.bool true) .bool = true by first | rfl | decide | simp [WShape.has, WShape.arms, WShape.armsAll])
  (show (WTm.eq .res (.lit (.bool true))).value [] { args := args, res := some (.bool true), after := args } = some (.bool (true == true)) from w_eq_bool (w_res rfl) w_lit) rfl

theorem attach_call {l : OpenLaw} {n : Nat} {q : Program} {loose : List Str} {XP : (Str → Option Value) → Heap → Prop} {YP : World → Heap → Prop} {d : DefRec}
  (hn : l.most = some n) (hdf : d.params.defaults = [])
  (call : ∀ (w : World) (s₀ s₁ : Shared) (mg mb : Str → Option Value) (fa : Addr) (o : Obj) (pm cd doc : Value) (a : Addr) (vs : List Value) (ns : List Int),
   Ground q loose [] XP w s₀ mg mb s₁.heap → YP w s₁.heap →
   s₁.heap.get? fa = some o → o.data = .func (docDef d.name d.params d.body d.scope pm cd doc) → s₁.heap.CodeRec cd d.name → mg d.name = some (.ref fa) →
   s₁.heap.get? a = some { cls := .type "list", data := .seq vs.toArray } → IntsAre vs ns → ns.length ≤ n → s₁.gens = #[] →
   codeAny (model l.prog w) callerA (.call (.ref fa) ⟨[.ref a], []⟩) (fun r s' => r = .ok (.ret (.bool true)) ∧ OldK s₁.heap s'.heap ∧ s'.os = s₁.os ∧ AllBare s'.gens) s₁) :
  WalkO q loose XP YP l.row.toRowW d [] (fun f vs => PySem.call f vs) := by
 intro w s₀ s₁ mg mb G Y fa o pm cd doc dV kV ho hd hcd hD hmg hg args vals as hpre hlay hrd hwl hlo
 obtain rfl : dV = .none := Dflts.none hD hdf
 obtain rfl : kV = .none := Dflts.noKw hD
 obtain ⟨a, vs, ns, rfl, rfl, hobj, hints, hlen⟩ := script_of hn hpre hwl
 refine enter_call (codeAny_mono (call w s₀ s₁ mg mb fa o pm cd doc a vs ns G Y ho (fd_plain hd) hcd hmg hobj hints hlen hg) fun r s' hq => ?_)
 obtain ⟨rfl, h2, h3, h4⟩ := hq
 exact ⟨.inl ⟨.bool true, .bool true, [], rfl, fun _ => rfl, .bool true, post_true l _, fun _ => ⟨List.Pairwise.nil, fun _ hm => (nomatch hm)⟩⟩, h2, h3, h4⟩

section
variable {prog : Program} {w : World} {A : Around} {E : Value → Shared → Prop} {s : Shared} {K : Frag}

end
end Att

namespace L2
open PySem PySem.Spec PyProof.Rows

theorem vals_ints : ∀ {vs : List Value} {ns : List Int}, IntsAre vs ns → Vals (ns.map V.int) vs
 | _, _, .nil => .nil
 | _, _, .cons n t h => .cons ⟨t, rfl⟩ (vals_ints h)

noncomputable def Only (H : Hp) : Prop := ∀ b, H b = none ∨ ∃ o xs, H b = some (.frz o (.lst xs))

theorem law_call {P : Program} {w : World} {K : PySem.W.Frag} {mg mb : Str → Option Value} {CX : CXT} {k : Nat} {fa a : Addr} {fd : FuncData} {x : Str} {sp : Sp} {s₁ : Shared} {vs : List Value} {ns : List Int}
  (KX : K.In s₁.heap) (hns : s₁.heap.Ns mainGlobals mg) (hb : s₁.heap.Ns builtinsNs mb) (hbb : ∀ x : Str, x ≠ "__name__" → mb x = bootBuiltins x) (hlim : s₁.heap.NoLimit) (hg : s₁.gens = #[])
  (ha : s₁.heap.get? a = some { cls := .type "list", data := .seq vs.toArray }) (hi : IntsAre vs ns) (hl : ns.length ≤ sizeLine) (hr : Room k callerA)
  (F : ∀ base : Heap, K.In base → base.Ns mainGlobals mg → FnOk P w K mg base CX k fa fd [x] sp) (hbind : ∀ (s : Shared) (u : Value), BindsTo s fd ⟨[u], []⟩ [(x, u)])
  (hsp : ∀ H : Hp, Only H → SqL K H a (ns.map V.int) → sp [.ref a] H (fun v _ => v = .bl true) fun _ _ _ => False)
  (hCX : ∀ H e s', CX [] H s₁ (fun _ _ _ => False) e s' → False) :
  codeAny (model P w) callerA (.call (.ref fa) ⟨[.ref a], []⟩) (fun r s' => r = .ok (.ret (.bool true)) ∧ OldK s₁.heap s'.heap ∧ s'.os = s₁.os ∧ AllBare s'.gens) s₁ := by
 have rv := vals_ints hi
 have lenV := hi.length
 have core : ∀ H : Hp, Only H → SqL K H a (ns.map V.int) → HOk P w H s₁.heap → (∀ b, H b ≠ none → b = a) → (H a ≠ none → K.lookup a = none) →
   codeAny (model P w) callerA (.call (.ref fa) ⟨[.ref a], []⟩) (fun r s' => r = .ok (.ret (.bool true)) ∧ OldK s₁.heap s'.heap ∧ s'.os = s₁.os ∧ AllBare s'.gens) s₁ := by
  intro H hO hS hok hA hK
  have base_of : ∀ {b : Addr} {o : Obj}, s₁.heap.get? b = some o → H b = none → (hidT s₁.heap H).get? b = some o := fun e n => hidT_get e n
  have noA : ∀ {b : Addr} {o : Obj} {es : Array DictEntry} {ep : Nat}, s₁.heap.get? b = some o → o.data = .dict es ep → H b = none := fun {b o es ep} e d => by
   cases q : H b with
   | none => rfl
   | some u =>
    have e' : b = a := hA b (by rw [q]; simp)
    subst e'
    rw [ha] at e; cases e
    have d' : Data.seq vs.toArray _ = Data.dict es ep := d
    cases d'
  have nsK : ∀ {b : Addr} {m : Str → Option Value}, s₁.heap.Ns b m → (hidT s₁.heap H).Ns b m := fun {b m} ⟨o, es, ep, e, d, r⟩ => ⟨o, es, ep, base_of e (noA e d), d, r⟩
  have hKb : K.In (hidT s₁.heap H) := fun b o e => base_of (KX b o e) (by
   cases q : H b with
   | none => rfl
   | some u =>
    have e' : b = a := hA b (by rw [q]; simp)
    subst e'
    rw [hK (by rw [q]; simp)] at e; cases e)
  have hM : Mod K mg (hidT s₁.heap H) := ⟨hKb, nsK hns, ⟨mb, nsK hb, hbb⟩, let ⟨mc, h1, h2⟩ := hlim; ⟨mc, nsK h1, h2⟩⟩
  have e0 : Env0 P w K mg (hidT s₁.heap H) callerA [] s₁ H := ⟨rfl, hM, fun b o e => of_hidT e, Nat.le_of_eq (hidT_size _ _), trivial, fun b hb => absurd (show b ∈ ([] : List Addr) from hb) (by simp), hok, .of_eq hg⟩
  refine codeAny_mono ((F _ hKb (nsK hns)).run callerA [] s₁ H ⟨[.ref a], []⟩ [.ref a] [.ref a] _ _ hr e0 (hbind s₁ (.ref a)) (.cons rfl .nil) (hsp H hO hS)) fun r s' h => ?_
  cases r with
  | error e => exact (hCX H e s' h).elim
  | ok fl =>
   cases fl with
   | next => exact False.elim h
   | brk => exact False.elim h
   | cont => exact False.elim h
   | ret u =>
    obtain ⟨v, H', os, bare, un, hok', r', q⟩ := h
    have q' : v = .bl true := q
    subst q'
    obtain rfl : u = Value.bool true := r'
    refine ⟨rfl, OldK.of_keep fun b o e => ?_, os, bare⟩
    cases q : H b with
    | none => exact un.keep b o e q (by intro z; exact absurd (show b ∈ ([] : List Addr) from z) (by simp)) (by simp)
    | some u =>
     rcases hO b with z | ⟨ob, xs, z⟩
     ·rw [q] at z; cases z
     ·have z2 := un.frzs b ob _ z
      obtain ⟨e1, _⟩ := hok b _ z
      obtain ⟨e2, _⟩ := hok' b _ z2
      rw [e] at e1; cases e1
      exact e2
 cases hk : K.lookup a with
 | some o =>
  have e := KX a o hk
  rw [ha] at e
  cases e
  refine core (fun _ => none) (fun _ => .inl rfl) (.inr ⟨_, vs.toArray, _, hk, rfl, rfl, rfl, by rw [List.size_toArray, lenV]; exact hl, by simpa using rv⟩) (fun b u z => by have z' : (none : Option HO) = some u := z; cases z') (fun b z => absurd rfl z) fun z => absurd rfl z
 | none =>
  refine core (fun b => if b = a then some (.frz { cls := .type "list", data := .seq vs.toArray } (.lst (ns.map V.int))) else none) (fun b => ?_) (.inl (.inr ⟨{ cls := .type "list", data := .seq vs.toArray }, if_pos rfl⟩)) (fun b u z => ?_) (fun b z => ?_) fun _ => hk
  ·by_cases hb : b = a
   ·exact .inr ⟨_, _, if_pos hb⟩
   ·exact .inl (if_neg hb)
  ·by_cases hb : b = a
   ·have z' := (if_pos hb).symm.trans z
    cases z'
    subst hb
    exact ⟨ha, by rw [List.length_map]; exact hl, vs, _, rv, ha⟩
   ·have z' := (if_neg hb).symm.trans z
    cases z'
  ·by_cases hb : b = a
   ·exact hb
   ·exact absurd (if_neg hb) z
end L2

namespace L2
open PySem PySem.Spec PyProof.Rows

theorem walk_of {l : PySem.W.OpenLaw} {n k : Nat} {q : Program} {loose : List Str} {XP : (Str → Option Value) → Heap → Prop} {YP : World → Heap → Prop} {d : DefRec} {K : Params → PySem.W.Frag} {CX : World → CXT} {sp : World → Sp} {x : Str}
  (hn : l.most = some n) (hn2 : n ≤ sizeLine) (hdf : d.params.defaults = []) (hr : Room k callerA)
  (hY : ∀ (w : World) (h : Heap), YP w h → (K w.params).In h)
  (F : ∀ (w : World) (mg : Str → Option Value) (fa : Addr) (h : Heap), (K w.params).In h → h.Ns mainGlobals mg → mg d.name = some (.ref fa) →
   ∃ fd : FuncData, (∀ (s : Shared) (u : Value), BindsTo s fd ⟨[u], []⟩ [(x, u)]) ∧
    ∀ base : Heap, (K w.params).In base → base.Ns mainGlobals mg → FnOk l.prog w (K w.params) mg base (CX w) k fa fd [x] (sp w))
  (hsp : ∀ (w : World) (H : Hp) (a : Addr) (ns : List Int), ns.length ≤ n → Only H → SqL (K w.params) H a (ns.map V.int) → sp w [.ref a] H (fun v _ => v = .bl true) fun _ _ _ => False)
  (hCX : ∀ (w : World) (H : Hp) (s : Shared) (e : Value) (s' : Shared), CX w [] H s (fun _ _ _ => False) e s' → False) :
  PySem.W.WalkO q loose XP YP l.row.toRowW d [] (fun f vs => PySem.call f vs) := by
 refine Att.attach_call hn hdf fun w s₀ s₁ mg mb fa o pm cd doc a vs ns G Y ho hd hcd hmg hobj hints hlen hg => ?_
 have KX := hY w _ Y
 obtain ⟨fd, hb, hF⟩ := F w mg fa _ KX G.T.g hmg
 exact law_call KX G.T.g G.T.b G.T.builtins G.T.nolimit hg hobj hints (Nat.le_trans hlen hn2) hr hF hb (fun H hO hS => hsp w H a ns hlen hO hS) fun H e s' => hCX w H s₁ e s'
end L2

namespace L2
open PySem PySem.Spec PyProof.Rows

noncomputable abbrev CX0 : CXT := fun _ _ _ _ _ _ => False
noncomputable abbrev E0 : XK := fun _ _ _ => False
theorem pass0 {X : Cx} : Passes CX0 X E0 := fun _ _ _ _ _ _ _ h => h.elim

structure Fun (K : PySem.W.Frag) (x qual : Str) (st : Stmt) (f : Addr) (fd : FuncData) : Prop where
 ex : ∃ (oc : Value) (od : Option Addr) (kV doc pm : Value) (an : Option Addr) (cdv ct : Value) (osl : Array (Option Value)),
  fd = PySem.W.fnOf x qual (xD st) (xC st) (xB st) .none kV doc pm an cdv ct ∧ K.lookup f = some ⟨oc, od, .func fd, osl⟩ ∧ PySem.W.codeIn K cdv qual = true
 kp : PySem.W.keepIn K (.ref f) = true
section
variable {P : Program} {w : World} {K : PySem.W.Frag} {mg : Str → Option Value} {base : Heap}
theorem Fun.ok {x qual : Str} {st : Stmt} {f : Addr} {fd : FuncData} {N ps : List Str} {k : Nat} {sp : Sp} (F : Fun K x qual st f fd) (S : FnScope N ps (xB st)) (len : ∀ vs H Q E, sp vs H Q E → vs.length = ps.length)
  (hbody : ∀ (cdv : Value) (A : Around) (outer : List Env) (s : Shared) (H : Hp) (vs : List V) (Q : VK) (E : XK), Room k (A.deeper (envOfC qual (xB st) s.heap.objs.size f cdv)) → sp vs H Q E →
   ∃ t, PSs (cxOf CX0 P w K mg base N qual (xB st) f cdv A outer s H E).nox (xC st) t ∧ t { nx := fun _ H' => Q .non H', rt := Q } (start N vs) H) : FnOk P w K mg base CX0 (k + 1) f fd ps sp := by
 obtain ⟨oc, od, kV, doc, pm, an, cdv, ct, osl, rfl, lk, hcd⟩ := F.ex
 refine fn_of lk hcd S len fun A outer s H vs Q E hr hsp => ?_
 obtain ⟨t, h, q⟩ := hbody cdv A outer s H vs Q E hr hsp
 exact ⟨t, h.nox, q⟩
theorem Fun.binds {x qual : Str} {st : Stmt} {f : Addr} {fd : FuncData} {ps : List Str} (F : Fun K x qual st f fd)
  (h : ∀ (kV doc pm : Value) (an : Option Addr) (cdv ct : Value) (us : List Value), us.length = ps.length → bindArgs (PySem.W.fnOf x qual (xD st) (xC st) (xB st) .none kV doc pm an cdv ct) ⟨us, []⟩ = pure (ps.zip us)) : Binds K fd ps [] := by
 obtain ⟨oc, od, kV, doc, pm, an, cdv, ct, osl, rfl, lk, hcd⟩ := F.ex
 exact .all (h kV doc pm an cdv ct)
theorem fun_mk {x qual : Str} {st : Stmt} {f : Addr} {oc : Value} {od an : Option Addr} {osl : Array (Option Value)} {kV doc pm cdv ct : Value} (l : K.lookup f = some ⟨oc, od, .func (PySem.W.fnOf x qual (xD st) (xC st) (xB st) .none kV doc pm an cdv ct), osl⟩)
  (c : PySem.W.codeIn K cdv qual = true) (k : PySem.W.keepIn K (.ref f) = true) : Fun K x qual st f (PySem.W.fnOf x qual (xD st) (xC st) (xB st) .none kV doc pm an cdv ct) := ⟨⟨oc, od, kV, doc, pm, an, cdv, ct, osl, rfl, l, c⟩, k⟩
end
theorem hu_of {A : Around} {k : Nat} (hr : Room k A) : A.units + 1 < cLine := Nat.lt_of_le_of_lt (Nat.add_le_add_left (by decide : 1 ≤ 64) _) hr.units
section
variable {X : Cx}
theorem pv (i : Nat) {x : Str} {pos : Pos} (hN : X.N[i]? = some x := by rfl) (hv : Vis X.env.scope x := by first | exact Or.inl rfl | exact Or.inr (Or.inl rfl) | exact Or.inr (Or.inr rfl)) (hd : (x == ("__debug__" : Str)) = false := by decide)
  (hcd : (x == ("__classdict__" : Str)) = false := by decide) : PE X (.Name x pos) (tVar i) := pe_var hN hv hd hcd
end

theorem iteF {A B : Prop} (h : B) : if false = true then A else B := by
 rw [if_neg Bool.false_ne_true]
 exact h
theorem iteT {A B : Prop} (h : A) : if true = true then A else B := by
 rw [if_pos rfl]
 exact h
theorem ite2 {c A B : Prop} [Decidable c] (h1 : c → A) (h2 : ¬ c → B) : if c then A else B := by
 by_cases h : c
 ·rw [if_pos h]
  exact h1 h
 ·rw [if_neg h]
  exact h2 h
noncomputable def Same (H H' : Hp) : Prop := ∀ b o, H b = some o → H' b = some o
theorem Same.refl (H : Hp) : Same H H := fun _ _ h => h
theorem Same.trans {H H1 H2 : Hp} (a : Same H H1) (b : Same H1 H2) : Same H H2 := fun c o h => b c o (a c o h)
theorem Same.free {H H' : Hp} (e : Same H H') {l : Addr} (h : H' l = Option.none) : H l = Option.none := by
 cases q : H l with
 | none => rfl
 | some o =>
  rw [e l o q] at h
  cases h
theorem Same.seq {K : PySem.W.Frag} {H H' : Hp} {a : Addr} {xs : List V} (e : Same H H') (h : SqL K H a xs) : SqL K H' a xs := by
 rcases h with (h | ⟨o, h⟩) | h
 ·exact .inl (.inl (e _ _ h))
 ·exact .inl (.inr ⟨o, e _ _ h⟩)
 ·exact .inr h

end L2

namespace L2
open PySem PySem.Spec PyProof.Rows
section
variable {X : Cx}
end
section
variable {κ : Type} [DecidableEq κ]
theorem nd_snoc : ∀ {l : List κ} {k : κ}, l.Nodup → ¬ k ∈ l → (l ++ [k]).Nodup
 | [], k, _, _ => by simp
 | a :: r, k, h, hk => by
  obtain ⟨h1, h2⟩ := List.nodup_cons.mp h
  show (a :: (r ++ [k])).Nodup
  refine List.nodup_cons.mpr ⟨fun m => ?_, nd_snoc h2 fun m => hk (List.mem_cons.mpr (Or.inr m))⟩
  rcases List.mem_append.mp m with q | q
  ·exact h1 q
  ·exact hk (List.mem_cons.mpr (Or.inl (List.mem_singleton.mp q).symm))
end
end L2

namespace L2
open PySem PySem.Spec PyProof.Rows

theorem closure_of {scope : Scope} {env : Env} (h : ∀ p ∈ scope.names, p.2 = .free → ∃ c, env.cells.lookup p.1 = some c) :
  ∃ cl, closureFor scope env = pure cl ∧ (∀ x c, cl.lookup x = some c → env.cells.lookup x = some c) ∧ (∀ p ∈ scope.names, p.2 = .free → ∃ c, cl.lookup p.1 = some c) := by
 have key : ∀ (names : List (Str × NameKind)) (acc : List (Str × Addr)), (∀ p ∈ names, p.2 = .free → ∃ c, env.cells.lookup p.1 = some c) → (∀ x c, acc.lookup x = some c → env.cells.lookup x = some c) →
   ∃ cl, (forIn names acc (fun (x : Str × NameKind) (r : List (Str × Addr)) => (if (x.2 == NameKind.free) = true then (do let a ← cellOf env x.1; pure (ForInStep.yield ((x.1, a) :: r))) else pure (ForInStep.yield r) : Sem (ForInStep (List (Str × Addr))))) : Sem (List (Str × Addr))) = pure cl ∧
    (∀ x c, cl.lookup x = some c → env.cells.lookup x = some c) ∧ (∀ x c, acc.lookup x = some c → ∃ c, cl.lookup x = some c) ∧ (∀ p ∈ names, p.2 = .free → ∃ c, cl.lookup p.1 = some c) := by
  intro names
  induction names with
  | nil => intro acc _ ha; exact ⟨acc, rfl, ha, fun x c e => ⟨c, e⟩, fun p hp => by cases hp⟩
  | cons p r ih =>
   intro acc hn ha
   obtain ⟨n, k⟩ := p
   by_cases hk : k = .free
   ·subst hk
    obtain ⟨c, hc⟩ := hn (n, .free) List.mem_cons_self rfl
    have ha' : ∀ x d, ((n, c) :: acc).lookup x = some d → env.cells.lookup x = some d := fun x d e => by
     rw [List.lookup_cons] at e
     cases hx : x == n with
     | true => rw [hx] at e; cases e; rw [eq_of_beq hx]; exact hc
     | false => rw [hx] at e; exact ha x d e
    obtain ⟨cl, e, h1, h2, h3⟩ := ih ((n, c) :: acc) (fun p hp => hn p (List.mem_cons_of_mem _ hp)) ha'
    have hcell : cellOf env n = pure c := by unfold cellOf; rw [hc]
    refine ⟨cl, ?_, h1, fun x d ex => ?_, fun p hp hf => ?_⟩
    ·rw [List.forIn_cons]
     show (if (NameKind.free == NameKind.free) = true then (do let a ← cellOf env n; pure (ForInStep.yield ((n, a) :: acc))) else _) >>= _ = _
     rw [if_pos (show (NameKind.free == NameKind.free) = true from rfl), hcell]
     exact e
    ·cases hx : x == n with
     | true => exact h2 x c (by rw [List.lookup_cons, hx])
     | false => exact h2 x d (by rw [List.lookup_cons, hx]; exact ex)
    ·rcases List.mem_cons.mp hp with rfl | hp
     ·exact h2 n c (by rw [List.lookup_cons, beq_self_eq_true])
     ·exact h3 p hp hf
   ·obtain ⟨cl, e, h1, h2, h3⟩ := ih acc (fun p hp => hn p (List.mem_cons_of_mem _ hp)) ha
    refine ⟨cl, ?_, h1, h2, fun p hp hf => ?_⟩
    ·rw [List.forIn_cons]
     show (if (k == NameKind.free) = true then _ else _) >>= _ = _
     rw [if_neg (by simpa using hk)]
     exact e
    ·rcases List.mem_cons.mp hp with rfl | hp
     ·exact absurd hf hk
     ·exact h3 p hp hf
 obtain ⟨cl, e, h1, _, h3⟩ := key scope.names [] h (fun x c e => by cases e)
 refine ⟨cl, ?_, h1, h3⟩
 show (forIn scope.names [] _ >>= fun r => pure r) = pure cl
 rw [bind_pure]
 exact e

theorem look_self {α : Type} (x : Str) (k : α) (l : List (Str × α)) : List.lookup x ((x, k) :: l) = some k := by rw [List.lookup_cons, beq_self_eq_true]
theorem look_next {α : Type} {x n : Str} (k : α) (l : List (Str × α)) (h : (x == n) = false) : List.lookup x ((n, k) :: l) = List.lookup x l := by rw [List.lookup_cons, h]
theorem lookup_relabel {env : Env} {x : Str} : ∀ (names : List (Str × NameKind)),
  (names.map fun (n, k) => if (k == NameKind.free && env.scope.kind == .function && env.kindOf n == some .cell) then (n, NameKind.cell) else (n, k)).lookup x =
   (names.lookup x).map fun k => if (k == NameKind.free && env.scope.kind == .function && env.kindOf x == some .cell) then NameKind.cell else k
 | [] => rfl
 | (n, k) :: r => by
  have ih := @lookup_relabel env x r
  show List.lookup x ((if (k == NameKind.free && env.scope.kind == .function && env.kindOf n == some .cell) = true then (n, NameKind.cell) else (n, k)) :: _) = _
  cases hx : x == n with
  | true =>
   have e : x = n := eq_of_beq hx
   subst e
   rw [look_self]
   by_cases hc : (k == NameKind.free && env.scope.kind == .function && env.kindOf x == some .cell) = true
   ·rw [if_pos hc, look_self]
    show _ = some (if (k == NameKind.free && env.scope.kind == .function && env.kindOf x == some .cell) = true then NameKind.cell else k)
    rw [if_pos hc]
   ·rw [if_neg hc, look_self]
    show _ = some (if (k == NameKind.free && env.scope.kind == .function && env.kindOf x == some .cell) = true then NameKind.cell else k)
    rw [if_neg hc]
  | false =>
   rw [look_next _ _ hx]
   by_cases hc : (k == NameKind.free && env.scope.kind == .function && env.kindOf n == some .cell) = true
   ·rw [if_pos hc, look_next _ _ hx]; exact ih
   ·rw [if_neg hc, look_next _ _ hx]; exact ih

noncomputable def cxC (X : Cx) (scope : Scope) (cl : List (Str × Addr)) (N : List Str) (fp : List Addr) (s : Shared) (H : Hp) : Cx where
 prog := X.prog
 w := X.w
 K := X.K
 mg := X.mg
 base := X.base
 A := X.A
 N := N
 s₀ := s
 H₀ := H
 env := compEnvC scope cl s.heap.objs.size X.env
 outer := X.stack
 stack := X.stack
 ex := fp
 fn := fun _ => false
 calm := X.calm
 pn := []
 xe := fun _ _ => False

noncomputable def PTs (X : Cx) (ifs : List Expr) (t : TT) : Prop :=
 ∀ (pins : List (Addr × Obj)) (s : Shared) (σ : St) (H : Hp) (Q : Bool → Hp → Prop), Inv X pins σ H s → t σ H Q →
  wpAny (model X.prog X.w) X.A (forIn ifs true fun c r => if r = true then do let ok ← isTrue c X.env (eval c X.env); pure (ForInStep.yield ok) else pure (ForInStep.yield r)) (TP X pins σ Q) X.xe s
noncomputable def tYes : TT := fun _ H Q => Q true H
theorem pts_nil {X : Cx} : PTs X [] tYes := fun _ _ _ H _ I h => wpAny_tests_nil ⟨H, I, h⟩
theorem pts_one {X : Cx} {c : Expr} {t : TT} (h : PT X c t) : PTs X [c] t := fun pins s σ H Q I q => wpAny_tests_one (h pins s σ H Q I q)

noncomputable def frees (js : List Nat) (σ : St) : St := js.map fun j => σ.getD j none
noncomputable abbrev stC (k : Nat) (js : List Nat) (σ : St) : St := List.replicate k none ++ frees js σ

noncomputable def rdC (k : Nat) (js : List Nat) (g : TG) (tt : TT) (te : TE) (J : It) (σ : St) (H1 : Hp) (Q : VK) : Prop := ∀ D, H1 D = none →
 ∃ W : Nat → Nat → List V → Hp → Prop, (∃ m, W 0 m [] (upd H1 D (.lst []))) ∧ ∀ i m ys H2, W i m ys H2 → H2 D = some (.lst ys) ∧
  ((J.stop i H2 ∧ Q (.ref D) H2) ∨ (J.go i H2 ∧ ∀ x H3, J.yld i H2 x H3 → g x (stC k js σ) H3 fun σ4 H4 => (∃ ow : St, ow.length = k ∧ σ4 = ow ++ frees js σ) ∧
   tt σ4 H4 fun b H5 => if b = true then te σ4 H5 fun y H6 => H6 D = some (.lst ys) ∧ ys.length < sizeLine ∧ ∃ m', m' < m ∧ W (i + 1) m' (ys ++ [y]) (upd H6 D (.lst (ys ++ [y])))
    else ∃ m', m' < m ∧ W (i + 1) m' ys H5))
noncomputable def tComp (k : Nat) (js : List Nat) (wi : TI) (g : TG) (tt : TT) (te : TE) : TE := fun σ H Q => wi σ H fun J H1 => rdC k js g tt te J σ H1 Q

structure CompOk (sc : Scope) (N0 : List Str) (scope : Scope) (N : List Str) (k : Nat) (js : List Nat) : Prop where
 kind : scope.kind = .function
 cell : ∀ y ∈ scope.names, y.2 ≠ .cell
 names : ∀ y ∈ scope.names, y.2 = .local → scope.names.lookup y.1 = some .local
 free : ∀ p ∈ scope.names, p.2 = .free → sc.names.lookup p.1 = some .cell ∨ sc.names.lookup p.1 = some .free
 fn : ∀ x ∈ N.drop k, scope.names.lookup x = some .free
 at' : js.map (fun j => N0[j]?) = (N.drop k).map some
 le : k ≤ N.length
 nd : N.Nodup

theorem mem_of_look {names : List (Str × NameKind)} {x : Str} {k : NameKind} (h : names.lookup x = some k) : (x, k) ∈ names := PySem.mem_of_lookup h

section
variable {X : Cx} {elt tg iter : Expr} {ifs : List Expr} {scope : Scope} {cpos : Pos} {N : List Str} {k : Nat} {js : List Nat} {cl : List (Str × Addr)} {g : TG} {tt : TT} {te : TE}

theorem inv_block {pins : List (Addr × Obj)} {σ : St} {H : Hp} {s : Shared} {fp : List Addr} {h₁ : Heap} {t' : Nat} {m : Str → Option Value} (C : CompOk X.env.scope X.N scope N k js)
  (hcl1 : ∀ x c, cl.lookup x = some c → X.env.cells.lookup x = some c) (hcl2 : ∀ p ∈ scope.names, p.2 = .free → ∃ c, cl.lookup p.1 = some c)
  (I : Inv X pins σ H s) (f2 : ∀ b ∈ fp, FpOk X pins H b) (flt : ∀ b ∈ fp, b < s.heap.objs.size) (hns : h₁.Ns s.heap.objs.size m) (keep : ∀ b o, s.heap.get? b = some o → h₁.get? b = some o) :
  Inv (cxC X scope cl N fp s H) [] (stC k js σ) H { s with heap := h₁, toks := t' } := by
 have relk : ∀ x, (cxC X scope cl N fp s H).env.kindOf x = (scope.names.lookup x).map fun k => if (k == NameKind.free && X.env.scope.kind == .function && X.env.kindOf x == some .cell) then NameKind.cell else k := fun x => lookup_relabel scope.names
 have wasfree : ∀ x, ((cxC X scope cl N fp s H).env.kindOf x = some .cell ∨ (cxC X scope cl N fp s H).env.kindOf x = some .free) → scope.names.lookup x = some .free := fun x hx => by
  rw [relk x] at hx
  cases e : scope.names.lookup x with
  | none => rw [e] at hx; rcases hx with hx | hx <;> cases hx
  | some kd =>
   rw [e] at hx
   by_cases hk : kd = .free
   ·rw [hk]
   ·have hk' : (kd == NameKind.free) = false := by simpa using hk
    rw [Option.map_some, hk', Bool.false_and, Bool.false_and, if_neg Bool.false_ne_true] at hx
    rcases hx with hx | hx
    ·exact absurd (Option.some.inj hx) (C.cell _ (mem_of_look e))
    ·exact absurd (Option.some.inj hx) hk
 have clt : ∀ x c, cl.lookup x = some c → c < s.heap.objs.size := fun x c e => by
  obtain ⟨v, z⟩ := I.cell x c (hcl1 x c e)
  exact z.lt
 have ok : (cxC X scope cl N fp s H).Ok :=
  {mod := I.ok.mod
   kind := by show (relabel scope X.env).kind = _; exact C.kind
   glob := I.ok.glob
   blt := I.ok.blt
   above := Nat.le_refl _
   inj := fun x y c e1 e2 => I.ok.inj x y c (hcl1 x c e1) (hcl1 y c e2)
   has := fun x hx => hcl2 (x, .free) (mem_of_look (wasfree x hx)) rfl
   cab := fun x c z => by cases z
   hd := I.ok.hd
   frames := I.ok.frames
   stk := .inl rfl
   exf := fun b hb => ⟨Nat.ne_of_lt (flt b hb), fun x c e => (f2 b hb).2.2.2.2.1 x c (hcl1 x c e)⟩
   bs := fun b o e => I.bs b o e
   bsz := Nat.le_trans I.ok.bsz I.sz
   noex := fun b o e hb => by
    rcases (f2 b hb).2.2.2.1 with z | z
    ·exact I.ok.noex b o e z
    ·exact absurd (Nat.lt_of_lt_of_le (Heap.lt_size (I.ok.bs b o e).1) z) (Nat.lt_irrefl _)
   exfs := fun b hb z => by
    rcases List.mem_cons.mp (I.stkSub b z) with q | q
    ·exact (f2 b hb).2.1 q
    ·exact (f2 b hb).2.2.1 q
   funs := I.stack
   frf := I.stkFree }
 have hlen : (stC k js σ).length = N.length := by
  have q := congrArg List.length C.at'
  rw [List.length_map, List.length_map, List.length_drop] at q
  have := C.le
  show (List.replicate k none ++ frees js σ).length = N.length
  rw [List.length_append, List.length_replicate, frees, List.length_map]
  omega
 refine ⟨ok, rfl, I.bare, Un.kept keep, ⟨m, hns, fun i x v e1 e2 e3 => ?_⟩, fun x c e => ?_, I.hok.fresh (Nat.le_refl _), fun x c e => I.freeC x c (hcl1 x c e), fun p hp => absurd (show p ∈ ([] : List (Addr × Obj)) from hp) (by simp), I.hok.kept keep, hlen⟩
 ·have e1 : N[i]? = some x := e1
  have hik : k ≤ i := by
   by_cases hik : k ≤ i
   ·exact hik
   ·have e2' : (List.replicate k (none : Option V) ++ frees js σ)[i]? = some (some v) := e2
    rw [List.getElem?_append_left (by rw [List.length_replicate]; omega), List.getElem?_replicate] at e2'
    split at e2' <;> cases e2'
  obtain ⟨d, rfl⟩ : ∃ d, i = k + d := ⟨i - k, by omega⟩
  have e2' : (List.replicate k (none : Option V) ++ frees js σ)[k + d]? = some (some v) := e2
  rw [List.getElem?_append_right (by rw [List.length_replicate]; omega), List.length_replicate, Nat.add_sub_cancel_left, frees, List.getElem?_map] at e2'
  have ed : (N.drop k)[d]? = some x := by rw [List.getElem?_drop]; exact e1
  cases ej : js[d]? with
  | none => rw [ej] at e2'; cases e2'
  | some j =>
   rw [ej] at e2'
   have ev : σ.getD j none = some v := Option.some.inj e2'
   have ej2 : X.N[j]? = some x := by
    have q := congrArg (fun l => l[d]?) C.at'
    simp only [List.getElem?_map, ej, ed, Option.map_some] at q
    exact Option.some.inj q
   have eσ : σ[j]? = some (some v) := by
    rw [List.getD_eq_getElem?_getD] at ev
    cases z : σ[j]? with
    | none => rw [z] at ev; cases ev
    | some w => rw [z] at ev; exact congrArg some ev
   have hfx : scope.names.lookup x = some .free := C.fn x (List.mem_of_getElem? ed)
   have hX : X.env.scope.names.lookup x = some .cell ∨ X.env.scope.names.lookup x = some .free := C.free (x, .free) (mem_of_look hfx) rfl
   obtain ⟨mX, _, lX⟩ := I.loc
   obtain ⟨u, ru, lu⟩ := lX j x v ej2 eσ (hX.elim (fun z => .inr (.inl z)) fun z => .inr (.inr z))
   refine ⟨u, ru, .inr ⟨?_, ?_⟩⟩
   ·rw [relk x, hfx]
    show some (if _ then _ else _) = _ ∨ some (if _ then _ else _) = _
    split
    ·exact .inl rfl
    ·exact .inr rfl
   ·rcases lu with ⟨z, _⟩ | ⟨_, c, ec, ic⟩
    ·have z : X.env.scope.names.lookup x = some .local := z
     rcases hX with q | q <;> rw [q] at z <;> cases z
    ·obtain ⟨c', ec'⟩ := hcl2 (x, .free) (mem_of_look hfx) rfl
     have : c' = c := Option.some.inj ((hcl1 x c' ec').symm.trans ec)
     subst this
     obtain ⟨o, ho, hd⟩ := ic
     exact ⟨c', ec', o, keep _ _ ho, hd⟩
 ·obtain ⟨v, o, ho, hd⟩ := I.cell x c (hcl1 x c e)
  exact ⟨v, o, keep _ _ ho, hd⟩

theorem comp_run {pins : List (Addr × Obj)} {σ : St} {H2 : Hp} {s2 : Shared} {E : Value → Shared → Prop} {it : Addr} {fp : List Addr} {tn : Nat → Heap → Prop} {J : It} {Q : VK} {RR : Value → Addr → Result → Shared → Prop}
  (hc : X.calm = true) (C : CompOk X.env.scope X.N scope N k js) (hcl1 : ∀ x c, cl.lookup x = some c → X.env.cells.lookup x = some c) (hcl2 : ∀ p ∈ scope.names, p.2 = .free → ∃ c, cl.lookup p.1 = some c)
  (hg : ∀ fp s H, PG (cxC X scope cl N fp s H) tg g) (ht : ∀ fp s H, PTs (cxC X scope cl N fp s H) ifs tt) (he : ∀ fp s H, PE (cxC X scope cl N fp s H) elt te)
  (I : Inv X pins σ H2 s2) (T : Turn X.prog X.w X.K tg J fp it tn) (st : tn 0 s2.heap) (f2 : ∀ b ∈ fp, FpOk X pins H2 b) (rd : rdC k js g tt te J σ H2 Q)
  (fin : ∀ D L H' s', Inv X pins σ H' s' → FpOk X pins H' L → (∃ m, s'.heap.Ns L m) → Q (.ref D) H' → RR (.ref D) L (.ok .next) s') :
  wpAny (model X.prog X.w) X.A (newList []) (fun acc s₃ => wpAny (model X.prog X.w) X.A (newFunctionEnv scope X.env.globals cl [] X.env.qual none .none (some X.env)) (fun cenv s₄ =>
   codeAny (model X.prog X.w) X.A (.compStart (.ListComp elt [⟨tg, iter, ifs, 0⟩] scope cpos) 0 (.ref it) acc { cenv with scope := relabel scope X.env }) (RR acc cenv.locals) s₄) E s₃) E s2 := by
 refine wpAny_newObj_type (wpAny_newFunctionEnv C.cell (by intro y hy; simp at hy) (fun h₁ hns₁ hsb₁ => ?_) C.kind)
 dsimp only at hns₁ hsb₁ ⊢
 have hD : H2 s2.heap.objs.size = none := I.hok.fresh (Nat.le_refl _)
 have Id : Inv X pins σ (upd H2 s2.heap.objs.size (.lst [])) { s2 with heap := s2.heap.push { cls := .type "list", dict := none, data := .seq ([] : List Value).toArray } } :=
  I.laid (t' := s2.toks) (fun b u e => Heap.get?_push_of_some _ e) (Nat.le_refl _) ⟨Nat.zero_le _, [], 0, .nil, Heap.get?_push_size _ rfl⟩
 have kD : ∀ b o, s2.heap.get? b = some o → (s2.heap.push { cls := .type "list", dict := none, data := .seq ([] : List Value).toArray }).get? b = some o := fun b o e => Heap.get?_push_of_some _ e
 generalize hHd : s2.heap.push { cls := .type "list", dict := none, data := .seq ([] : List Value).toArray } = Hd at hns₁ hsb₁ Id kD ⊢
 have szd : Hd.objs.size = s2.heap.objs.size + 1 := by rw [← hHd, Heap.size_push]
 have keep : ∀ b o, Hd.get? b = some o → h₁.get? b = some o := fun b o e => hsb₁.extBut b o (Nat.ne_of_lt (Heap.lt_size e)) (Heap.get?_push_of_some _ e)
 have flt2 : ∀ b ∈ fp, b < s2.heap.objs.size := fun b hb => by
  obtain ⟨o, e, _⟩ := T.obj _ _ st b hb
  exact Heap.lt_size e
 have fd : ∀ b ∈ fp, FpOk X pins (upd H2 s2.heap.objs.size (.lst [])) b := fun b hb =>
  ⟨by rw [qA (Nat.ne_of_lt (flt2 b hb))]; exact (f2 b hb).1, (f2 b hb).2⟩
 obtain ⟨W, ⟨m0, w0⟩, turn⟩ := rd _ hD
 generalize hY : cxC X scope cl N fp { s2 with heap := Hd } (upd H2 s2.heap.objs.size (.lst [])) = Y
 have hg := hg fp { s2 with heap := Hd } (upd H2 s2.heap.objs.size (.lst []))
 have ht := ht fp { s2 with heap := Hd } (upd H2 s2.heap.objs.size (.lst []))
 have he := he fp { s2 with heap := Hd } (upd H2 s2.heap.objs.size (.lst []))
 have loop : ∀ s₃ : Shared, s₃ = { s2 with heap := h₁, toks := s2.toks + ([] : List (Str × Value)).length } →
   codeAny (model X.prog X.w) X.A (.compLoop (.ListComp elt [⟨tg, iter, ifs, 0⟩] scope cpos) 0 (.ref it) (.ref s2.heap.objs.size) (compEnvC scope cl Hd.objs.size X.env))
    (RR (.ref s2.heap.objs.size) Hd.objs.size) s₃ := by
  rintro s₃ rfl
  have IY : Inv Y [] (stC k js σ) (upd H2 s2.heap.objs.size (.lst [])) { s2 with heap := h₁, toks := s2.toks + ([] : List (Str × Value)).length } := by
   rw [← hY]
   exact inv_block (t' := s2.toks + ([] : List (Str × Value)).length) C hcl1 hcl2 Id fd (fun b hb => Nat.lt_of_lt_of_le (flt2 b hb) (by show s2.heap.objs.size ≤ Hd.objs.size; omega)) hns₁ keep
  rw [hY] at hg ht he
  have yprog : Y.prog = X.prog := by rw [← hY]; rfl
  have yw : Y.w = X.w := by rw [← hY]; rfl
  have yK : Y.K = X.K := by rw [← hY]; rfl
  have yA : Y.A = X.A := by rw [← hY]; rfl
  have yc : Y.calm = true := by rw [← hY]; exact hc
  have yenv : Y.env = compEnvC scope cl Hd.objs.size X.env := by rw [← hY]; rfl
  have yxe : Y.xe = fun _ _ => False := by rw [← hY]; rfl
  have ybase : ∀ {pn σ' H' s'}, Inv Y pn σ' H' s' → Un (frs X.stack) fp (upd H2 s2.heap.objs.size (.lst [])) H' Hd s'.heap ∧ s'.os = s2.os := fun {pn σ' H' s'} J => by
   have u := J.base
   have o := J.os
   rw [← hY] at u o
   exact ⟨u, o⟩
  have statY : ∀ {H' : Hp}, (∀ b ∈ fp, H' b = none) → ∀ b ∈ fp, FpOk Y [] H' b := fun {H'} hn b hb => by
   rw [← hY]
   refine ⟨hn b hb, Nat.ne_of_lt (Nat.lt_of_lt_of_le (flt2 b hb) (by show s2.heap.objs.size ≤ Hd.objs.size; omega)), ?_, .inl hb, fun x c e => (f2 b hb).2.2.2.2.1 x c (hcl1 x c e), fun p hp => absurd (show p ∈ ([] : List (Addr × Obj)) from hp) (by simp)⟩
   intro z
   rcases List.mem_cons.mp (I.stkSub b z) with q | q
   ·exact (f2 b hb).2.1 q
   ·exact (f2 b hb).2.2.1 q
  have st₁ : tn 0 h₁ := T.keep _ _ _ st fun b hb o e => keep b o (kD b o e)
  refine codeAny_loop rfl (fun n s' => ∃ i ys H', Inv Y [] (stC k js σ) H' s' ∧ tn i s'.heap ∧ (∀ b ∈ fp, H' b = none) ∧ W i n ys H') ?_ m0 ⟨0, [], _, IY, st₁, fun b hb => (fd b hb).1, w0⟩
  rintro n s3 ⟨i, ys, H3, I3, st3, fr3, w3⟩
  show wpAny _ X.A ((compTurn (.ListComp elt [⟨tg, iter, ifs, 0⟩] scope cpos) 0 (.ref it) (.ref s2.heap.objs.size) (compEnvC scope cl Hd.objs.size X.env)).onRaise (fun x => do noteFrame x (compEnvC scope cl Hd.objs.size X.env); theTreesLotGoes x)) _ _ s3
  refine wpAny_noted ?_
  rw [compTurn_list]
  obtain ⟨hDs, tr⟩ := turn i n ys H3 w3
  have hPE : ∀ {α : Type} {t : Sem α} {R R' : α → Shared → Prop} {E' : Value → Shared → Prop} {s : Shared}, wpAny (model Y.prog Y.w) Y.A t R Y.xe s → (∀ a s, R a s → R' a s) → wpAny (model X.prog X.w) X.A t R' E' s := fun {α t R R' E' s} h hQ => by
   rw [yprog, yw, yA, yxe] at h
   exact wpAny_mono h hQ fun _ _ z => z.elim
  rcases tr with ⟨stop, qn⟩ | ⟨go, step⟩
  ·refine wpAny_bind (wpAny_standAt (wpAny_bind ?_))
   have dn := T.done Y yprog yw yK yc i [] s3 (stC k js σ) H3 (fun _ _ => False) I3 (statY fr3) st3 stop
   rw [yA] at dn
   refine wpAny_mono dn (fun r s4 ⟨hr, I4⟩ => ?_) fun _ _ z => z.elim
   subst hr
   obtain ⟨u4, o4⟩ := ybase I4
   refine wpAny_pure (fin _ _ H3 s4 ?_ ?_ ?_ qn)
   ·refine I.call' (ch := fp) o4 ((Un.laid (fun b o e => kD b o e) (Nat.le_refl _) hD).trans u4) (by have := I4.hok; rw [yprog, yw] at this; exact this) I4.bare fun b hb => ?_
    obtain ⟨_, q1, q2, q3, q4, q5⟩ := f2 b hb
    exact ⟨q3, q1, q4, q5⟩
   ·refine I.fpOk (by show s2.heap.objs.size ≤ Hd.objs.size; omega) ?_
    have := I4.free
    rw [yenv] at this
    exact this
   ·obtain ⟨m, hn, _⟩ := I4.loc
    rw [yenv] at hn
    exact ⟨m, hn⟩
  ·refine wpAny_bind (wpAny_standAt (wpAny_bind ?_))
   have itm := T.item Y yprog yw yK yc i [] s3 (stC k js σ) H3 (fun _ _ => False) I3 (statY fr3) st3 go
   rw [yA] at itm
   refine wpAny_mono itm (fun r s4 ⟨u, hr, h4⟩ => ?_) fun _ _ z => z.elim
   subst hr
   refine wpAny_bind (wpAny_mono h4 (fun _ s5 ⟨x, H5, I5, r5, y5, st5, fr5⟩ => ?_) fun _ _ z => z.elim)
   have I5' := I5.pinned (statY fr5) (T.obj _ _ st5)
   have as := hg _ s5 (stC k js σ) H5 x u _ I5' r5 (step x H5 y5)
   rw [yenv] at as
   refine wpAny_bind (hPE as fun _ s6 ⟨σ6, H6, I6, ⟨ow, eow, e6⟩, q6⟩ => ?_)
   have again : ∀ {H7 : Hp} {s7 : Shared} {zs : List V}, Inv Y ([] ++ pinsAt fp s5.heap) σ6 H7 s7 → (∃ m', m' < n ∧ W (i + 1) m' zs H7) →
     ∃ m, m < n ∧ ∃ i ys H', Inv Y [] (stC k js σ) H' s7 ∧ tn i s7.heap ∧ (∀ b ∈ fp, H' b = none) ∧ W i m ys H' := fun {H7 s7 zs} I7 ⟨m', hm, w7⟩ => by
    have J7 : Inv Y ([] ++ pinsAt fp s5.heap) (stC k js σ) H7 s7 := by
     refine I7.weak ?_ fun j v e => ?_
     ·rw [e6]
      show (List.replicate k none ++ frees js σ).length = _
      rw [List.length_append, List.length_append, List.length_replicate, eow]
     ·have e : (List.replicate k (none : Option V) ++ frees js σ)[j]? = some (some v) := e
      rw [e6]
      by_cases hj : j < k
      ·rw [List.getElem?_append_left (by rw [List.length_replicate]; exact hj), List.getElem?_replicate] at e
       split at e <;> cases e
      ·rw [List.getElem?_append_right (by rw [List.length_replicate]; omega), List.length_replicate] at e
       rw [List.getElem?_append_right (by omega), eow]
       exact e
    refine ⟨m', hm, i + 1, zs, H7, J7.unpinned, T.keep _ _ _ st5 fun b hb o e => (I7.pin (b, o) (List.mem_append_right _ (List.mem_append_right _ (mem_pinsAt hb e)))).1, fun b hb => ?_, w7⟩
    obtain ⟨o, e, d⟩ := T.obj _ _ st5 b hb
    exact (I7.pin (b, o) (List.mem_append_right _ (List.mem_append_right _ (mem_pinsAt hb e)))).2.1
   have tst := ht _ s6 σ6 H6 _ I6 q6
   rw [yenv] at tst
   refine wpAny_bind (hPE tst fun b s7 ⟨H7, I7, q7⟩ => ?_)
   cases b with
   | false => exact wpAny_pure ⟨rfl, again I7 q7⟩
   | true =>
    have ev := he _ s7 σ6 H7 _ I7 q7
    rw [yenv] at ev
    refine wpAny_bind (wpAny_bind (hPE ev fun v s8 ⟨y, H8, I8, r8, q8, z8, w8⟩ => ?_))
    refine wpAny_bind (hPE (mt_append (X := Y) _ s8 σ6 H8 (.ref s2.heap.objs.size) [y] (.ref s2.heap.objs.size) [v] (fun _ H9 => H9 = upd H8 s2.heap.objs.size (.lst (ys ++ [y]))) I8 rfl (.cons r8 .nil) ⟨_, ys, y, rfl, rfl, q8, z8, rfl⟩) fun _ s9 ⟨_, H9, I9, _, e9⟩ => ?_)
    subst e9
    exact wpAny_pure (wpAny_pure ⟨rfl, again I9 w8⟩)
 exact codeAny_compStart_list (loop _ rfl) (T.self _ 0 _ _ _ (T.keep _ _ _ st fun b hb o e => keep b o (kD b o e)) (loop _ rfl))

theorem hcl_of {pins : List (Addr × Obj)} {σ : St} {H : Hp} {s : Shared} (I : Inv X pins σ H s) (C : CompOk X.env.scope X.N scope N k js) : ∀ p ∈ scope.names, p.2 = .free → ∃ c, X.env.cells.lookup p.1 = some c :=
 fun p hp hf => I.ok.has p.1 (C.free p hp hf)

theorem pe_comp {wi : TI} {sc : Scope} {N0 : List Str} (hc : X.calm = true) (C : CompOk sc N0 scope N k js) (hi : PI X tg iter wi)
  (hg : ∀ cl fp s H, PG (cxC X scope cl N fp s H) tg g) (ht : ∀ cl fp s H, PTs (cxC X scope cl N fp s H) ifs tt) (he : ∀ cl fp s H, PE (cxC X scope cl N fp s H) elt te)
  (hs : ∀ x, foldedSetIterable iter X.env x = pure x := by intro _; rfl) (hsc : X.env.scope = sc := by rfl) (hN0 : X.N = N0 := by rfl) : PE X (.ListComp elt [⟨tg, iter, ifs, 0⟩] scope cpos) (tComp k js wi g tt te) := by
 subst hsc hN0
 intro pins s σ H Q I h
 obtain ⟨cl, e, h1, h2⟩ := closure_of (hcl_of I C)
 rw [eval_ListComp]
 refine wpAny_comprehension_free (use := none) rfl hs e C.kind C.names (thn (hi pins s σ H _ I h) fun v s1 q => thn q fun itv s2 q2 => ?_)
 obtain ⟨it, fp, tn, J, H2, rfl, I2, T, st, f2, rd⟩ := q2
 refine comp_run (RR := fun acc L => compPost (model X.prog X.w) X.A X.xe none (EP X pins σ Q) acc L) hc C h1 h2 (hg cl) (ht cl) (he cl) I2 T st f2 rd ?_
 intro D L H' s' I' ⟨f0, f1, _, f3, f4, f5⟩ ⟨m, hn⟩ q
 refine ⟨m, hn, fun h' sb => ⟨.ref D, H', ?_, rfl, q⟩⟩
 exact I'.turned (t' := s'.toks) (fun b o hb e => (sb.2 b hb).trans e) f0 f1 f3 f4 f5

theorem ps_setComp {wi : TI} {i : Nat} {x : Str} {pos pos' : Pos} {sc : Scope} {N0 : List Str} (hN : X.N.Nodup) (hi' : X.N[i]? = some x) (hx : Loc X.env.scope x) (hc : X.calm = true) (C : CompOk sc N0 scope N k js) (hi : PI X tg iter wi)
  (hg : ∀ cl fp s H, PG (cxC X scope cl N fp s H) tg g) (ht : ∀ cl fp s H, PTs (cxC X scope cl N fp s H) ifs tt) (he : ∀ cl fp s H, PE (cxC X scope cl N fp s H) elt te)
  (hsw : swapsWith (.ListComp elt [⟨tg, iter, ifs, 0⟩] scope cpos) (some (.Name x pos')) pos.line X.env = pure true := by rfl)
  (hs : ∀ x, foldedSetIterable iter X.env x = pure x := by intro _; rfl) (hsc : X.env.scope = sc := by rfl) (hN0 : X.N = N0 := by rfl) (hf : X.fn x = true ∨ X.env.scope.names.lookup x = some .local := by first | exact .inl rfl | exact .inr rfl | assumption) :
  PS X (.Assign [.Name x pos'] (.ListComp elt [⟨tg, iter, ifs, 0⟩] scope cpos) pos) (tAsg (tComp k js wi g tt te) (gName i)) := by
 subst hsc hN0
 intro pins s σ H D I h
 obtain ⟨cl, e, h1, h2⟩ := closure_of (hcl_of I C)
 rw [exec_Assign_Name_used _ _ _ _ hsw]
 refine wpAny_bind (wpAny_standAt (wpAny_bind ?_))
 show wpAny _ X.A (do let _ ← comprehension (.ListComp elt [⟨tg, iter, ifs, 0⟩] scope cpos) scope X.env _ (newList []) false (eval iter X.env) (some (assign (.Name x pos') X.env))) _ _ s
 refine wpAny_bind (wpAny_mono (wpAny_comprehension_free (use := some (assign (.Name x pos') X.env)) (Q := fun _ s' => SP X pins D .next s') rfl hs e C.kind C.names
  (thn (hi pins s σ H _ I h) fun v s1 q => thn q fun itv s2 q2 => ?_)) (fun _ s' hq => wpAny_pure (wpAny_pure hq)) fun _ _ z => z)
 obtain ⟨it, fp, tn, J, H2, rfl, I2, T, st, f2, rd⟩ := q2
 refine comp_run (RR := fun acc L => compPost (model X.prog X.w) X.A X.xe (some (assign (.Name x pos') X.env)) (fun _ s' => SP X pins D .next s') acc L) hc C h1 h2 (hg cl) (ht cl) (he cl) I2 T st f2 rd ?_
 intro A' L H' s' I' ⟨f0, f1, f2', f3, f4, f5⟩ ⟨m, hn⟩ q
 show wpAny _ X.A (assign (.Name x pos') X.env (.ref A')) _ _ s'
 refine wpAny_assign_Name (store_ok2 (v := V.ref A') I' hN hi' hx rfl (fun s'' I'' ⟨a, sb, ha⟩ => ?_) hf)
 have hLa : L ≠ a := by
  rcases ha with rfl | ha
  ·exact f1
  ·exact fun z => f4 x a ha z.symm
 refine ⟨m, hn.sameBut sb hLa, fun h' sb' => ⟨σ.set i (some (.ref A')), H', ?_, q⟩⟩
 exact I''.turned (t' := s''.toks) (fun b o hb e => (sb'.2 b hb).trans e) f0 f1 f3 f4 f5
end

noncomputable abbrev turnC (k : Nat) (js : List Nat) (g : TG) (tt : TT) (te : TE) (σ : St) (D : Addr) (x : V) (ys : List V) (H : Hp) (N : List V → Hp → Prop) : Prop :=
 g x (stC k js σ) H fun σ4 H4 => (∃ ow : St, ow.length = k ∧ σ4 = ow ++ frees js σ) ∧
  tt σ4 H4 fun b H5 => if b = true then te σ4 H5 fun y H6 => H6 D = some (.lst ys) ∧ ys.length < sizeLine ∧ N (ys ++ [y]) (upd H6 D (.lst (ys ++ [y]))) else N ys H5
section
variable {K : PySem.W.Frag} {a : Addr} {xs : List V} {k : Nat} {js : List Nat} {g : TG} {tt : TT} {te : TE} {σ : St} {H1 : Hp} {Q : VK}
theorem comp_list (Pv : Addr → Nat → List V → Hp → Prop) (h0 : ∀ D, H1 D = none → Pv D 0 [] (upd H1 D (.lst [])))
  (hl : ∀ D i ys H, i ≤ xs.length → Pv D i ys H → SqL K H a xs)
  (hs : ∀ D i x ys H (N : List V → Hp → Prop), H1 D = none → H D = some (.lst ys) → xs[i]? = some x → Pv D i ys H → (∀ zs H', H' D = some (.lst zs) → Pv D (i + 1) zs H' → N zs H') → turnC k js g tt te σ D x ys H N)
  (hd : ∀ D ys H, H1 D = none → H D = some (.lst ys) → Pv D xs.length ys H → Q (.ref D) H) : rdC k js g tt te (Itl K a) σ H1 Q := by
 intro D hD
 refine ⟨fun i m ys H => m = xs.length - i ∧ i ≤ xs.length ∧ H D = some (.lst ys) ∧ Pv D i ys H, ⟨xs.length, by simp, Nat.zero_le _, qW, h0 D hD⟩, ?_⟩
 rintro i m ys H ⟨rfl, hi, hDy, p⟩
 refine ⟨hDy, ?_⟩
 have q := hl D i ys H hi p
 by_cases hlt : i < xs.length
 ·refine .inr ⟨⟨xs, xs[i], q, by simp [hlt]⟩, fun x H' y => ?_⟩
  obtain ⟨e, y⟩ := y
  subst e
  exact hs D i x ys _ (fun zs H' => ∃ m', m' < xs.length - i ∧ m' = xs.length - (i + 1) ∧ i + 1 ≤ xs.length ∧ H' D = some (.lst zs) ∧ Pv D (i + 1) zs H') hD hDy (y xs q) p fun zs H' e p' => ⟨xs.length - (i + 1), by omega, rfl, hlt, e, p'⟩
 ·have e : i = xs.length := by omega
  subst e
  exact .inl ⟨⟨xs, q, Nat.le_refl _⟩, hd D ys H hD hDy p⟩
theorem comp_range {lo : Int} {n : Nat} (Pv : Addr → Nat → List V → Hp → Prop) (h0 : ∀ D, H1 D = none → Pv D 0 [] (upd H1 D (.lst [])))
  (hs : ∀ D i ys H (N : List V → Hp → Prop), H1 D = none → H D = some (.lst ys) → i < n → Pv D i ys H → (∀ zs H', H' D = some (.lst zs) → Pv D (i + 1) zs H' → N zs H') → turnC k js g tt te σ D (.int (lo + i)) ys H N)
  (hd : ∀ D ys H, H1 D = none → H D = some (.lst ys) → Pv D n ys H → Q (.ref D) H) : rdC k js g tt te (Itr lo n) σ H1 Q := by
 intro D hD
 refine ⟨fun i m ys H => m = n - i ∧ i ≤ n ∧ H D = some (.lst ys) ∧ Pv D i ys H, ⟨n, by simp, Nat.zero_le _, qW, h0 D hD⟩, ?_⟩
 rintro i m ys H ⟨rfl, hi, hDy, p⟩
 refine ⟨hDy, ?_⟩
 by_cases hlt : i < n
 ·refine .inr ⟨hlt, fun x H' y => ?_⟩
  obtain ⟨e, y⟩ := y
  subst e y
  exact hs D i ys _ (fun zs H' => ∃ m', m' < n - i ∧ m' = n - (i + 1) ∧ i + 1 ≤ n ∧ H' D = some (.lst zs) ∧ Pv D (i + 1) zs H') hD hDy hlt p fun zs H' e p' => ⟨n - (i + 1), by omega, rfl, hlt, e, p'⟩
 ·have e : i = n := by omega
  subst e
  exact .inl ⟨Nat.le_refl _, hd D ys H hD hDy p⟩
end
noncomputable def scopeOf (e : Expr) : Scope := match e with
 | .ListComp _ _ s _ => s
 | _ => { kind := .function, names := [], isGenerator := false, isCoroutine := false }
noncomputable def argOf (e : Expr) (i : Nat) : Expr := match e with
 | .Call _ as _ _ => as.getD i (.Constant .none 0 ⟨0, 0, 0, 0⟩)
 | _ => .Constant .none 0 ⟨0, 0, 0, 0⟩
noncomputable def stAt (l : List Stmt) (i : Nat) : Stmt := l.getD i (.Pass ⟨0, 0, 0, 0⟩)
noncomputable def asgVal (s : Stmt) : Expr := match s with
 | .Assign _ v _ => v
 | .Return (some v) _ => v
 | _ => .Constant .none 0 ⟨0, 0, 0, 0⟩
end L2

namespace L2
open PySem PySem.Spec PyProof.Rows

theorem log2_lt {n k : Nat} (h : n < 2 ^ (k + 1)) : n.log2 ≤ k := by
 by_cases h0 : n = 0
 ·subst h0; simp
 ·exact Nat.lt_succ_iff.mp ((Nat.log2_lt h0).mpr h)
theorem bits_of {a : Int} (h : a.natAbs < 2 ^ 1000) : Builtin.Int.intBits a ≤ 2 ^ 20 := by
 unfold Builtin.Int.intBits
 split
 ·exact Nat.zero_le _
 ·have := log2_lt (n := a.natAbs) (k := 999) h
  have e : (2 : Nat) ^ 20 = 1048576 := by decide
  omega
theorem mulOk {a b : Int} (ha : a.natAbs < 2 ^ 1000) (hb : b.natAbs < 2 ^ 1000) : IntMulOk a b := IntMulOk.of_bits (bits_of ha) (bits_of hb)
section
variable {X : Cx} {a b : Expr} {ta tb : TE} {pos : Pos}
theorem op_mulB : OpR X (binaryOp .Mult) (rI (fun i j => i.natAbs < 2 ^ 1000 ∧ j.natAbs < 2 ^ 1000) fun i j => .int (i * j)) := opI fun _ _ _ _ _ _ _ hc q => mul_int q (mulOk hc.1 hc.2)
theorem op_fdivB : OpR X (binaryOp .FloorDiv) (rI (fun _ j => 0 < j ∧ j.natAbs < 2 ^ 1000) fun i j => .int (i / j)) := opI fun i j _ _ _ _ _ hc q => by
 have h0 : j ≠ 0 := by have := hc.1; omega
 have e : i.fdiv j = i / j := Int.fdiv_eq_ediv_of_nonneg _ (by have := hc.1; omega)
 refine floordiv_int h0 (by rw [e]; exact q) (.inl (PyProof.noPylong_of_log2 ?_))
 have := log2_lt (n := j.natAbs) (k := 999) hc.2
 omega

theorem op_repS : OpR X (binaryOp .Mult) (fun x y H Q => ∃ z n, x = .str z ∧ y = .int n ∧ -1000 ≤ n ∧ n ≤ 1000 ∧ z.length ≤ 1000 ∧ Q (.str (Txt.mul z n)) H) := by
 intro pins s σ H x y v u Q I rx ry h
 obtain ⟨z, n, rfl, rfl, h0, h1, h2, q⟩ := h
 obtain ⟨t, rfl⟩ := rx
 obtain ⟨t', rfl⟩ := ry
 refine SB.mul ⟨?_, fun a b => ?_, fun a b => ?_⟩ fun t'' k => ⟨.str (Txt.mul z n), H, I.tok _, ⟨_, rfl⟩, q⟩
 ·rw [decide_eq_false (by omega), decide_eq_false (by omega)]; rfl
 ·intro c
  have : (2 ^ 63 - 1) / n ≥ (2 ^ 63 - 1) / 1000 := by
   apply Int.le_ediv_of_mul_le (by omega)
   have : (2 ^ 63 - 1 : Int) / 1000 * n ≤ (2 ^ 63 - 1) / 1000 * 1000 := Int.mul_le_mul_of_nonneg_left h1 (by decide)
   exact Int.le_trans this (by decide)
  have e : ((2 : Int) ^ 63 - 1) / 1000 = 9223372036854775 := by decide
  omega
 ·show decide (z.length * n.toNat > sizeLine) = false
  refine decide_eq_false ?_
  have : z.length * n.toNat ≤ 1000 * 1000 := Nat.mul_le_mul h2 (by omega)
  have e : sizeLine = 16777216 := by decide
  omega
theorem fold_size (x : Array Nat) : ∀ (k : Nat) (acc : Array Nat), ((List.replicate k x).foldl (· ++ ·) acc).size = acc.size + k * x.size
 | 0, acc => by simp
 | k + 1, acc => by
  rw [List.replicate_succ, List.foldl_cons, fold_size x k, Array.size_append, Nat.succ_mul]
  omega
theorem mul_len (x : Str) (n : Int) : (Txt.mul x n).length ≤ x.length * n.toNat := by
 unfold Txt.mul
 split
 ·exact Nat.zero_le _
 ·split
  ·rename_i h1 h2
   have : 1 ≤ n.toNat := by omega
   exact Nat.le_mul_of_pos_right _ (by omega)
  ·show ((List.replicate n.toNat x.cps).foldl (· ++ ·) #[]).size ≤ _
   rw [fold_size, Nat.mul_comm]
   exact Nat.le_of_eq (by simp [Str.length])

inductive DEq (K : PySem.W.Frag) (H : Hp) : Nat → V → V → Prop
 | int {n} (i : Int) : DEq K H n (.int i) (.int i)
 | str {n} (x : Str) : DEq K H n (.str x) (.str x)
 | bl {n} (b : Bool) : DEq K H n (.bl b) (.bl b)
 | non {n} : DEq K H n .non .non
 | same {n} (a : Addr) : DEq K H n (.ref a) (.ref a)
 | lst {n} {a b : Addr} {xs ys : List V} : SqL K H a xs → SqL K H b ys → xs.length = ys.length → (∀ (j : Nat) x y, xs[j]? = some x → ys[j]? = some y → DEq K H n x y) → DEq K H (n + 1) (.ref a) (.ref b)
 | tup {n} {a b : Addr} {xs ys : List V} : SqT K H a xs → SqT K H b ys → xs.length = ys.length → (∀ (j : Nat) x y, xs[j]? = some x → ys[j]? = some y → DEq K H n x y) → DEq K H (n + 1) (.ref a) (.ref b)
theorem all_true (n : Nat) : (List.range n).all (fun _ => true) = true := List.all_eq_true.mpr fun _ _ => rfl
theorem Inv.deq {pins : List (Addr × Obj)} {σ : St} {H : Hp} {s : Shared} (I : Inv X pins σ H s) : ∀ {n : Nat} {x y : V}, DEq X.K H n x y → ∀ {A : Around} {u v : Value}, RelV x u → RelV y v → A.units + n < cLine → SeqAt.EqAt A s u v true := by
 intro n x y d
 induction d with
 | int i => intro A u v r q _; obtain ⟨t, rfl⟩ := r; obtain ⟨t', rfl⟩ := q; have := SeqAt.EqAt.int_int (A := A) (s := s) i t i t'; rwa [beq_self_eq_true] at this
 | str i => intro A u v r q _; obtain ⟨t, rfl⟩ := r; obtain ⟨t', rfl⟩ := q; have := SeqAt.EqAt.str_str (A := A) (s := s) i t i t'; rwa [beq_self_eq_true] at this
 | bl i => intro A u v r q _; cases r; cases q; exact SeqAt.EqAt.same _
 | non => intro A u v r q _; cases r; cases q; exact SeqAt.EqAt.same _
 | same a => intro A u v r q _; cases r; cases q; exact SeqAt.EqAt.same _
 | @lst n a b xs ys ha hb hl _ ih =>
  intro A u v r q hu
  cases r; cases q
  obtain ⟨its, r1, p1, _⟩ := I.list ha
  obtain ⟨its2, r2, p2, _⟩ := I.list hb
  by_cases hab : a = b
  ·subst hab; exact SeqAt.EqAt.same _
  ·refine SeqAt.EqAt.of_refs hab ?_
   have sz : its.toArray.size = its2.toArray.size := by rw [List.size_toArray, List.size_toArray, ← r1.length, ← r2.length, hl]
   have := SeqAt.RcAt.lists (A := A) (s := s) (e := fun _ => true) p1.isList p2.isList sz (by omega) fun j h1 h2 => ?_
   ·rwa [all_true] at this
   ·have h1' : j < xs.length := by rw [r1.length]; simpa using h1
    have h2' : j < ys.length := by rw [← hl]; exact h1'
    obtain ⟨u1, e1, q1⟩ := r1.get (List.getElem?_eq_getElem h1')
    obtain ⟨u2, e2, q2⟩ := r2.get (List.getElem?_eq_getElem h2')
    have g1 : its.toArray[j] = u1 := by
     have : its[j]? = some its.toArray[j] := by simp
     exact Option.some.inj (this.symm.trans e1)
    have g2 : its2.toArray[j] = u2 := by
     have : its2[j]? = some its2.toArray[j] := by simp
     exact Option.some.inj (this.symm.trans e2)
    rw [g1, g2]
    exact ih j _ _ (List.getElem?_eq_getElem h1') (List.getElem?_eq_getElem h2') q1 q2 (by show A.units + 1 + n < cLine; omega)
 | @tup n a b xs ys ha hb hl _ ih =>
  intro A u v r q hu
  cases r; cases q
  obtain ⟨its, r1, p1, _⟩ := I.tuple ha
  obtain ⟨its2, r2, p2, _⟩ := I.tuple hb
  by_cases hab : a = b
  ·subst hab; exact SeqAt.EqAt.same _
  ·refine SeqAt.EqAt.of_refs hab ?_
   have sz : its.toArray.size = its2.toArray.size := by rw [List.size_toArray, List.size_toArray, ← r1.length, ← r2.length, hl]
   have := SeqAt.RcAt.tuples (A := A) (s := s) (e := fun _ => true) (show s.heap.IsTuple a its.toArray from p1) (show s.heap.IsTuple b its2.toArray from p2) (by omega) fun j h1 h2 => ?_
   ·rw [all_true, sz, beq_self_eq_true] at this
    exact this
   ·have h1' : j < xs.length := by rw [r1.length]; simpa using h1
    have h2' : j < ys.length := by rw [← hl]; exact h1'
    obtain ⟨u1, e1, q1⟩ := r1.get (List.getElem?_eq_getElem h1')
    obtain ⟨u2, e2, q2⟩ := r2.get (List.getElem?_eq_getElem h2')
    have g1 : its.toArray[j] = u1 := by
     have : its[j]? = some its.toArray[j] := by simp
     exact Option.some.inj (this.symm.trans e1)
    have g2 : its2.toArray[j] = u2 := by
     have : its2[j]? = some its2.toArray[j] := by simp
     exact Option.some.inj (this.symm.trans e2)
    rw [g1, g2]
    exact ih j _ _ (List.getElem?_eq_getElem h1') (List.getElem?_eq_getElem h2') q1 q2 (by show A.units + 1 + n < cLine; omega)
noncomputable def rEqL (K : PySem.W.Frag) (k : Bool) : R2 := fun x y H Q => ∃ n a b xs ys, n ≤ 60 ∧ x = .ref a ∧ y = .ref b ∧ SqL K H a xs ∧ SqL K H b ys ∧ xs.length = ys.length ∧ (∀ (j : Nat) x y, xs[j]? = some x → ys[j]? = some y → DEq K H n x y) ∧ Q (.bl k) H
theorem items_deq {pins : List (Addr × Obj)} {σ : St} {H : Hp} {s : Shared} (I : Inv X pins σ H s) {n : Nat} {xs ys : List V} {its its2 : List Value} (r1 : Vals xs its) (r2 : Vals ys its2) (hl : xs.length = ys.length)
  (hd : ∀ (j : Nat) x y, xs[j]? = some x → ys[j]? = some y → DEq X.K H n x y) {A : Around} (hu : A.units + n < cLine) : ∀ j (h1 : j < its.toArray.size) (h2 : j < its2.toArray.size), SeqAt.EqAt A s its.toArray[j] its2.toArray[j] true := by
 intro j h1 h2
 have h1' : j < xs.length := by rw [r1.length]; simpa using h1
 have h2' : j < ys.length := by rw [← hl]; exact h1'
 obtain ⟨u1, e1, q1⟩ := r1.get (List.getElem?_eq_getElem h1')
 obtain ⟨u2, e2, q2⟩ := r2.get (List.getElem?_eq_getElem h2')
 have g1 : its.toArray[j] = u1 := by
  have : its[j]? = some its.toArray[j] := by simp
  exact Option.some.inj (this.symm.trans e1)
 have g2 : its2.toArray[j] = u2 := by
  have : its2[j]? = some its2.toArray[j] := by simp
  exact Option.some.inj (this.symm.trans e2)
 rw [g1, g2]
 exact I.deq (hd j _ _ (List.getElem?_eq_getElem h1') (List.getElem?_eq_getElem h2')) q1 q2 hu
theorem op_eqL (hu : X.A.units + 64 < cLine) : OpR X (compareOp .Eq) (rEqL X.K true) := by
 intro pins s σ H x y v u Q I rx ry h
 obtain ⟨n, a, b, xs, ys, hn, rfl, rfl, ha, hb, hl, hd, q⟩ := h
 cases rx; cases ry
 obtain ⟨its, r1, p1, _⟩ := I.list ha
 obtain ⟨its2, r2, p2, _⟩ := I.list hb
 have sz : its.toArray.size = its2.toArray.size := by rw [List.size_toArray, List.size_toArray, ← r1.length, ← r2.length, hl]
 refine SeqAt.RcAt.lists (e := fun _ => true) p1.isList p2.isList sz (by omega) (items_deq I r1 r2 hl hd (by show X.A.units + 1 + n < cLine; omega)) _ _ _ _ ?_
 rw [all_true]
 exact ⟨.bl true, H, I, rfl, q⟩
theorem op_neL (hu : X.A.units + 64 < cLine) : OpR X (compareOp .NotEq) (rEqL X.K false) := by
 intro pins s σ H x y v u Q I rx ry h
 obtain ⟨n, a, b, xs, ys, hn, rfl, rfl, ha, hb, hl, hd, q⟩ := h
 cases rx; cases ry
 obtain ⟨its, r1, p1, _⟩ := I.list ha
 obtain ⟨its2, r2, p2, _⟩ := I.list hb
 have sz : its.toArray.size = its2.toArray.size := by rw [List.size_toArray, List.size_toArray, ← r1.length, ← r2.length, hl]
 refine SeqAt.RcNeAt.lists (e := fun _ => true) p1.isList p2.isList sz (by omega) (items_deq I r1 r2 hl hd (by show X.A.units + 1 + n < cLine; omega)) _ _ _ _ ?_
 rw [all_true]
 exact ⟨.bl false, H, I, rfl, q⟩
theorem op_neE (hu : X.A.units + 64 < cLine) : OpR X (compareOp .NotEq) (fun x y H Q => ∃ a b xs, x = .ref a ∧ y = .ref b ∧ SqL X.K H a xs ∧ SqL X.K H b [] ∧ Q (.bl (!xs.isEmpty)) H) := by
 intro pins s σ H x y v u Q I rx ry h
 obtain ⟨a, b, xs, rfl, rfl, ha, hb, q⟩ := h
 cases xs with
 | nil => exact op_neL hu pins s σ H _ _ v u Q I rx ry ⟨0, a, b, [], [], by omega, rfl, rfl, ha, hb, rfl, fun j x y e => by simp at e, q⟩
 | cons z zs =>
  cases rx; cases ry
  obtain ⟨its, r1, p1, _⟩ := I.list ha
  obtain ⟨its2, r2, p2, _⟩ := I.list hb
  have l1 := r1.length
  have l2 := r2.length
  refine SeqAt.RcNeAt.lists_lengths p1.isList p2.isList ?_ (by omega) _ _ _ _ ⟨.bl true, H, I, rfl, q⟩
  simp only [List.length_cons, List.length_nil] at l1 l2
  rw [bne_iff_ne, List.size_toArray, List.size_toArray]
  omega
theorem op_eqT (hu : X.A.units + 64 < cLine) : OpR X (compareOp .Eq) (fun x y H Q => ∃ n a b xs ys, n ≤ 60 ∧ x = .ref a ∧ y = .ref b ∧ SqT X.K H a xs ∧ SqT X.K H b ys ∧ xs.length = ys.length ∧ (∀ (j : Nat) x y, xs[j]? = some x → ys[j]? = some y → DEq X.K H n x y) ∧ Q (.bl true) H) := by
 intro pins s σ H x y v u Q I rx ry h
 obtain ⟨n, a, b, xs, ys, hn, rfl, rfl, ha, hb, hl, hd, q⟩ := h
 cases rx; cases ry
 obtain ⟨its, r1, p1, _⟩ := I.tuple ha
 obtain ⟨its2, r2, p2, _⟩ := I.tuple hb
 have sz : its.toArray.size = its2.toArray.size := by rw [List.size_toArray, List.size_toArray, ← r1.length, ← r2.length, hl]
 refine SeqAt.RcAt.tuples (e := fun _ => true) (show s.heap.IsTuple a its.toArray from p1) (show s.heap.IsTuple b its2.toArray from p2) (by omega) (items_deq I r1 r2 hl hd (by show X.A.units + 1 + n < cLine; omega)) _ _ _ _ ?_
 rw [all_true, sz, beq_self_eq_true]
 exact ⟨.bl true, H, I, rfl, q⟩

theorem call_isinst : CallR X (.builtin "isinstance") (fun xs H Q => ∃ x T t b, xs = [x, .ty T] ∧ TyOf X.K H x t ∧ PySem.W.kitOne X.K t (.type T) = some b ∧ Q (.bl b) H) := by
 intro pins s σ H xs us Q I r h
 obtain ⟨x, T, t, b, rfl, ty, e, q⟩ := h
 obtain ⟨u, v, rfl, ru, rv⟩ := vals2 r
 cases rv
 exact isinst_ok I ru ty e fun tk => ⟨.bl b, H, I.tok _, rfl, q⟩
theorem pe_ty {x : Str} {T : String} {pos : Pos} (hg : Gl X x) (hm : X.mg x = none) (hv : bootBuiltins x = some (.type T)) (hn : x ≠ "__name__" := by decide) (hd : (x == ("__debug__" : Str)) = false := by decide) : PE X (.Name x pos) (tC (.ty T)) :=
 pe_bltn hg hm hv rfl hn hd
end

noncomputable def But (d : Addr) (H H' : Hp) : Prop := ∀ b o, b ≠ d → H b = some o → H' b = some o
theorem But.refl {d : Addr} (H : Hp) : But d H H := fun _ _ _ h => h
theorem But.trans {d : Addr} {H H1 H2 : Hp} (a : But d H H1) (b : But d H1 H2) : But d H H2 := fun c o n h => b c o n (a c o n h)
theorem Same.but {d : Addr} {H H' : Hp} (s : Same H H') : But d H H' := fun b o _ h => s b o h
theorem But.upd {d : Addr} {H : Hp} {o : HO} : But d H (upd H d o) := fun b u n h => by rw [qA n]; exact h
theorem qV {H : Hp} {p : Addr} (h : H p = none) (o : HO) : Same H (upd H p o) := fun b u q => by rw [qA (qB q h)]; exact q
theorem at_head {α : Type} (x : α) (xs : List α) : atI (x :: xs) 0 = some x := atI_nat (xs := x :: xs) (j := 0) rfl
theorem bt_len : bootBuiltins "len" = some (.builtin "len") := by decide +kernel
theorem bt_min : bootBuiltins "min" = some (.builtin "min") := by decide +kernel
theorem bt_isinstance : bootBuiltins "isinstance" = some (.builtin "isinstance") := by decide +kernel
theorem bt_list : bootBuiltins "list" = some (.type "list") := by decide +kernel
theorem bt_tuple : bootBuiltins "tuple" = some (.type "tuple") := by decide +kernel
theorem bt_int : bootBuiltins "int" = some (.type "int") := by decide +kernel
theorem bt_bool : bootBuiltins "bool" = some (.type "bool") := by decide +kernel
theorem bt_dict : bootBuiltins "dict" = some (.type "dict") := by decide +kernel
end L2

namespace PySem
namespace FR
end FR
section
variable {prog : Program} {w : World} {A : Around} {E : Value → Shared → Prop} {s : Shared}
end
end PySem
namespace L2
open PySem PySem.Spec PyProof.Rows
section
variable {X : Cx} {tg : Expr}
end
theorem paired_app {α β : Type} {F : α → β → Prop} : ∀ {a c : List α} {b d : List β}, Paired F a b → Paired F c d → Paired F (a ++ c) (b ++ d)
 | _, _, _, _, .nil, q => q
 | _, _, _, _, .cons f p, q => .cons f (paired_app p q)
theorem xV {α β : Type} {F : α → β → Prop} : ∀ {a : List α} {b : List β} {i : Nat} {x : α} {y : β}, Paired F a b → a[i]? = some x → b[i]? = some y → F x y
 | _, _, _, _, _, .nil, e, _ => by simp at e
 | _, _, 0, _, _, .cons f _, e1, e2 => by simp at e1 e2; subst e1 e2; exact f
 | _, _, i + 1, _, _, .cons _ p, e1, e2 => xV (i := i) p (by simpa using e1) (by simpa using e2)
end L2

namespace PySem
namespace FD
theorem list_no_keys : typeLookup (.type "list") "keys" = pure none := by rw [typeLookup_type, builtinLookup_eq_fast]; kernel_rfl
theorem zip_no_keys : typeLookup (.type "zip") "keys" = pure none := by rw [typeLookup_type, builtinLookup_eq_fast]; kernel_rfl
theorem zip_no_getattr : typeLookup (.type "zip") "__getattr__" = pure none := by rw [typeLookup_type, builtinLookup_eq_fast]; kernel_rfl
theorem entry_zip_ga : entryFor table "zip.__getattribute__" = some Builtin.«object.__getattribute__» :=
 entryFor_alias (id' := "object.__getattribute__") (by kernel_rfl) (by decide +kernel) (by decide +kernel) (by kernel_rfl)
theorem keys_len : ("keys" : Str).length + 100 ≤ sizeLine := by decide +kernel
theorem keys_name : (["__module__", "__name__", "__qualname__", "__doc__", "__annotations__"] : List Str).contains "keys" = false := by decide +kernel
end FD
theorem ga_miss_zip (z : Addr) (vs : Array Value) (u : Tok) :
  Meets (Builtin.«object.__getattribute__» ⟨[.ref z, .str "keys" u], []⟩) (fun A R s => s.heap.get? z = some { cls := .type "zip", dict := none, data := .fields vs, slots := #[] } ∧ raisesAttr (.ref z) "keys" A R s) :=
 Meets.of_wp fun prog w A R s hs => by
  obtain ⟨hp, g, d, tk, os⟩ := s
  obtain ⟨hx, hs⟩ := hs
  have hT : (⟨hp, g, d, tk, os⟩ : Shared).TypeIs (.ref z) "zip" := ⟨_, hx, rfl⟩
  have f1 := FD.zip_no_keys
  unfold Builtin.«object.__getattribute__»
  repeat (any_goals (first | assumption | wp_step))
  try (simp only [FD.keys_name, Bool.false_eq_true, if_false]; repeat (any_goals (first | assumption | wp_step)))
  exact wpAny_raiseAttrError hs.1 hs.2 (attrMsg_fits (by decide +kernel) FD.keys_len)
section
variable {prog : Program} {w : World} {A : Around} {E : Value → Shared → Prop} {s : Shared}
theorem keys_none_zip {z : Addr} {vs : Array Value} {Q : Option Value → Shared → Prop} (hx : s.heap.get? z = some { cls := .type "zip", dict := none, data := .fields vs, slots := #[] }) (hA : A.handled = none)
  (h : ∀ h' tk, (∀ b o, s.heap.get? b = some o → h'.get? b = some o) → Q none { s with heap := h', toks := tk }) : wpAny (model prog w) A (getAttr? (.ref z) "keys") Q E s := by
 obtain ⟨hp, g, d, tk, os⟩ := s
 have hT : ∀ tk', (⟨hp, g, d, tk', os⟩ : Shared).TypeIs (.ref z) "zip" := fun _ => ⟨_, hx, rfl⟩
 have f1 := sub_AttributeError
 have f3 := F.slot_zip_getattribute.lookup
 have f4 := F.slot_zip_getattribute.bind (.ref z)
 have f5 := FD.zip_no_getattr
 unfold getAttr? getAttrBy? getAttrBy
 repeat (any_goals (first | assumption | exact hT _ | ((with_reducible show wpAny _ _ (call (Value.builtin "zip.__getattribute__") _ _) _ _ _); refine call_meets F.slot_zip_getattribute (hT _) FD.entry_zip_ga (F.args_zip_getattribute_2 _ _) (ga_miss_zip z vs _) ⟨hx, hA, fun h' tk' e hx' => ?_⟩) | wp_step))
 obtain ⟨t', u', he⟩ := hx'.there
 show wpAny _ _ (getattributeRaised _ _ _ _ _ _ _) _ _ _
 unfold getattributeRaised
 repeat (any_goals (first | assumption | wp_step))
 exact h _ _ hx'.keeps
theorem keys_none_list {a : Addr} {xs : Array Value} {k : Nat} {Q : Option Value → Shared → Prop} (hx : s.heap.get? a = some { cls := .type "list", data := .seq xs k }) (hA : A.handled = none)
  (h : ∀ h' tk, (∀ b o, s.heap.get? b = some o → h'.get? b = some o) → Q none { s with heap := h', toks := tk }) : wpAny (model prog w) A (getAttr? (.ref a) "keys") Q E s := by
 obtain ⟨hp, g, d, tk, os⟩ := s
 have hT : ∀ tk', (⟨hp, g, d, tk', os⟩ : Shared).TypeIs (.ref a) "list" := fun _ => ⟨_, hx, rfl⟩
 have f1 := sub_AttributeError
 have f3 := F.slot_list_getattribute.lookup
 have f4 := F.slot_list_getattribute.bind (.ref a)
 have f5 := am_list_getattr_none
 unfold getAttr? getAttrBy? getAttrBy
 repeat (any_goals (first | assumption | exact hT _ | ((with_reducible show wpAny _ _ (call (Value.builtin "list.__getattribute__") _ _) _ _ _); refine call_meets F.slot_list_getattribute (hT _) am_entry_list_getattribute (F.args_list_getattribute_2 _ _) (meets_getattribute_miss_list a xs k #[] _ _ FD.list_no_keys FD.keys_name FD.keys_len) ⟨hx, hA, fun h' tk' e hx' => ?_⟩) | wp_step))
 obtain ⟨t', u', he⟩ := hx'.there
 show wpAny _ _ (getattributeRaised _ _ _ _ _ _ _) _ _ _
 unfold getattributeRaised
 repeat (any_goals (first | assumption | wp_step))
 exact h _ _ hx'.keeps

theorem nextOf_tuple {it t : Addr} {i : Nat} {items : Array Value} {x : Value} {Q : Value → Shared → Prop} (hit : s.heap.IsTupleIter it t i) (ht : s.heap.IsTuple t items) (hx : items[i]? = some x)
  (hQ : ∀ h', h'.IsTupleIter it t (i + 1) → Heap.SameBut it s.heap h' → Q x { s with heap := h' }) : wpAny (model prog w) A (Builtin.SmallTypes.nextOf (.ref it)) Q E s := by
 obtain ⟨o, ho, hc, hd⟩ := id hit
 obtain ⟨ol, hol, _, nl, hdl⟩ := ht
 unfold Builtin.SmallTypes.nextOf
 refine wpAny_bind (wpAny_callSpecial?_slot (name := Str.ofString "__next__") hit.typeIs F.slot_tuple_iterator_next (wpAny_call_entry F.slot_tuple_iterator_next hit.typeIs F.entry_tuple_iterator_next ?_ (F.args_tuple_iterator_next_1 _)))
 refine wpAny_bind (m := field (.ref it) 0) (wpAny_field ho hd (x := .ref t) rfl ?_)
 show wpAny _ _ (if (Value.ref t == Value.none) = true then _ else _) _ _ s; rw [if_neg (show ¬ ((Value.ref t == Value.none) = true) from Bool.false_ne_true)]
 refine wpAny_bind (m := field (.ref it) 1) (wpAny_field ho hd (x := .int i 0) rfl ?_)
 refine wpAny_bind (m := seqItems? (.ref t)) (wpAny_seqItems hol hdl ?_)
 simp only [Int.toNat_natCast, hx]
 refine wpAny_bind (wpAny_setField ho hd (by simp) (wpAny_pure ⟨x, rfl, wpAny_pure (hQ _ ?_ (Heap.SameBut.update ..))⟩))
 exact ⟨_, Heap.get?_update_self _ ho (Obj.isFreed_of_fields (Obj.data_mapFields hd _)), (Obj.cls_mapFields ..).trans hc, by rw [Obj.data_mapFields hd]; simp [rawInt]⟩

noncomputable abbrev ZipAt (h : Heap) (z TI TO : Addr) (f0 f1 : Value) : Prop := h.get? z = some { cls := .type "zip", dict := none, data := .fields #[f0, f1, .bool false, .ref TI, .ref TO], slots := #[] }
noncomputable abbrev zH1 (h : Heap) (l : Addr) : Heap := h.push { cls := .type "list_iterator", data := .fields #[.ref l, .int 0 0] }
noncomputable abbrev zH2 (h : Heap) (l t : Addr) : Heap := (zH1 h l).push { cls := .type "tuple_iterator", data := .fields #[.ref t, .int 0 0] }
noncomputable abbrev zH3 (h : Heap) (l t : Addr) : Heap := (zH2 h l t).push { cls := .type "tuple", data := .seq #[.ref h.objs.size, .ref (zH1 h l).objs.size] }
noncomputable abbrev zH4 (h : Heap) (l t : Addr) : Heap := (zH3 h l t).push { cls := .type "tuple", data := .seq #[.none, .none] }
noncomputable abbrev zH5 (h : Heap) (l t : Addr) : Heap := (zH4 h l t).push { cls := .type "zip", data := .fields #[.none, .bool false, .bool false, .ref (zH2 h l t).objs.size, .ref (zH3 h l t).objs.size] }
theorem meets_zip_lt (l t : Addr) (xs ys : Array Value) :
  Meets (Builtin.«zip.__new__» ⟨[.type "zip", .ref l, .ref t], []⟩) (fun _ R s => s.heap.IsList l xs ∧ s.heap.IsTuple t ys ∧ R (.ok (.ret (.ref (zH4 s.heap l t).objs.size))) { s with heap := zH5 s.heap l t }) :=
 .of_wp fun prog w A R s h => by
  obtain ⟨hp, g, d, tk, os⟩ := s; obtain ⟨hl, ht, h⟩ := h
  have hsub := sub_zip
  have hL1 : Heap.IsList (Shared.heap ⟨hp, g, d, tk, os⟩) l xs := hl
  have hL2 : Heap.IsTuple (Shared.heap ⟨hp.push { cls := .type "list_iterator", data := .fields #[.ref l, .int 0 0] }, g, d, tk, os⟩) t ys := by
   obtain ⟨o, ho, r⟩ := ht
   exact ⟨o, Heap.get?_push_of_some _ ho, r⟩
  wp_walk using wpAny_pyIter_list hL1, wpAny_pyIter_tuple hL2
  exact ⟨_, rfl, h⟩
structure ZipSt (h : Heap) (z TI TO i1 i2 l t : Addr) (k : Nat) : Prop where
 zip : ZipAt h z TI TO .none (.bool false) ∨ ∃ (T : Addr) (f : Bool), ZipAt h z TI TO (rawInt T) (.bool f) ∧ (∃ o, h.get? T = some o) ∧ T ≠ z ∧ T ≠ TO ∧ T ≠ i1 ∧ T ≠ i2
 its : IsPair h TI (.ref i1) (.ref i2)
 own : ∃ a b, IsPair h TO a b
 one : h.IsListIter i1 l k
 two : h.IsTupleIter i2 t k
structure ZApart (z TI TO i1 i2 : Addr) : Prop where
 TIz : TI ≠ z
 TOz : TO ≠ z
 i1z : i1 ≠ z
 i2z : i2 ≠ z
 TITO : TI ≠ TO
 TIi1 : TI ≠ i1
 TIi2 : TI ≠ i2
 TOi1 : TO ≠ i1
 TOi2 : TO ≠ i2
 i12 : i1 ≠ i2
theorem call_zip_lt {l t : Addr} {xs ys : Array Value} {Q : Value → Shared → Prop} (hl : s.heap.IsList l xs) (ht : s.heap.IsTuple t ys)
  (h : ∀ h' z TI TO i1 i2, ZApart z TI TO i1 i2 → ZipSt h' z TI TO i1 i2 l t 0 → s.heap.objs.size ≤ z → s.heap.objs.size ≤ TI → s.heap.objs.size ≤ TO → s.heap.objs.size ≤ i1 → s.heap.objs.size ≤ i2 →
   (∀ c o, s.heap.get? c = some o → h'.get? c = some o) → Q (.ref z) { s with heap := h' }) :
  wpAny (model prog w) A (call (.type "zip") [.ref l, .ref t]) Q E s := by
 refine callType_new F.called_zip (by decide) (F.typeCall_zip_2 _ _) (F.newCall_zip_2 _ _) (fun obj => F.args_object_init_3 obj _ _) F.entry_zip_new (meets_zip_lt l t xs ys) ⟨hl, ht, ?_⟩
 have z1 : (zH1 s.heap l).objs.size = s.heap.objs.size + 1 := Heap.size_push ..
 have z2 : (zH2 s.heap l t).objs.size = s.heap.objs.size + 2 := by rw [Heap.size_push, z1]
 have z3 : (zH3 s.heap l t).objs.size = s.heap.objs.size + 3 := by rw [Heap.size_push, z2]
 have z4 : (zH4 s.heap l t).objs.size = s.heap.objs.size + 4 := by rw [Heap.size_push, z3]
 have g5 : (zH5 s.heap l t).get? (zH4 s.heap l t).objs.size = some _ := Heap.get?_push_size _ rfl
 have g4 : (zH5 s.heap l t).get? (zH3 s.heap l t).objs.size = some _ := Heap.get?_push_of_some _ (Heap.get?_push_size _ rfl)
 have g3 : (zH5 s.heap l t).get? (zH2 s.heap l t).objs.size = some _ := Heap.get?_push_of_some _ (Heap.get?_push_of_some _ (Heap.get?_push_size _ rfl))
 have g2 : (zH5 s.heap l t).get? (zH1 s.heap l).objs.size = some _ := Heap.get?_push_of_some _ (Heap.get?_push_of_some _ (Heap.get?_push_of_some _ (Heap.get?_push_size _ rfl)))
 have g1 : (zH5 s.heap l t).get? s.heap.objs.size = some _ := Heap.get?_push_of_some _ (Heap.get?_push_of_some _ (Heap.get?_push_of_some _ (Heap.get?_push_of_some _ (Heap.get?_push_size _ rfl))))
 refine ⟨⟨_, g5, rfl⟩, h _ _ (zH2 s.heap l t).objs.size (zH3 s.heap l t).objs.size s.heap.objs.size (zH1 s.heap l).objs.size ?_ ⟨.inl g5, g3, ⟨_, _, g4⟩, ⟨_, g1, rfl, rfl⟩, ⟨_, g2, rfl, rfl⟩⟩ (by omega) (by omega) (by omega) (Nat.le_refl _) (by omega) ?_⟩
 ·constructor <;> (intro e; have e' : @Eq Nat _ _ := e; omega)
 ·exact fun c o e => Heap.get?_push_of_some _ (Heap.get?_push_of_some _ (Heap.get?_push_of_some _ (Heap.get?_push_of_some _ (Heap.get?_push_of_some _ e))))
end
end PySem

namespace PySem
section
variable {prog : Program} {w : World} {A : Around} {E : Value → Shared → Prop} {s : Shared}
theorem zip_next_pair {z TI TO i1 i2 l t : Addr} {k : Nat} {xs ys : Array Value} {x y : Value} {Q : Value → Shared → Prop} (D : ZApart z TI TO i1 i2) (S : ZipSt s.heap z TI TO i1 i2 l t k)
  (hl : s.heap.IsList l xs) (ht : s.heap.IsTuple t ys) (nl : l ≠ z ∧ l ≠ TO ∧ l ≠ i1 ∧ l ≠ i2) (nt : t ≠ z ∧ t ≠ TO ∧ t ≠ i1 ∧ t ≠ i2) (hx : xs[k]? = some x) (hy : ys[k]? = some y)
  (hQ : ∀ h' T, ZipSt h' z TI TO i1 i2 l t (k + 1) → IsPair h' T x y → (∀ c o, c ≠ z → c ≠ TO → c ≠ i1 → c ≠ i2 → s.heap.get? c = some o → h'.get? c = some o) → Q (.ref T) { s with heap := h' }) :
  wpAny (model prog w) A (Builtin.«zip.__next__» ⟨[.ref z], []⟩) (fun fin s' => ∃ v, fin = .done (.ret v) ∧ Q v s') E s := by
 obtain ⟨hz, hTI, ⟨a, b, hTO⟩, h1, h2⟩ := S
 rcases hz with hz | ⟨T, f, hz, ⟨oT, hT⟩, n1, n2, n3, n4⟩
 ·refine wpAny_bind (m := field (.ref z) 2) (wpAny_field hz rfl (x := .bool false) rfl ?_)
  refine wpAny_bind (m := field (.ref z) 3) (wpAny_field hz rfl (x := .ref TI) rfl ?_)
  refine wpAny_bind (wpAny_seqItems hTI rfl ?_)
  refine wpAny_bind (m := Builtin.SmallTypes.ownedTupleIsFree (.ref z)) ?_
  unfold Builtin.SmallTypes.ownedTupleIsFree
  refine wpAny_bind (wpAny_field hz rfl (x := .none) rfl (wpAny_pure ?_))
  simp only [if_true]
  refine wpAny_bind (wpAny_rule (wpAny_bind (wpAny_field hz rfl (x := .ref TO) rfl (wpAny_bind (wpAny_setField_rec hz (by simp) fun h₁ hz₁ hs₁ => ?_)))))
  replace hz₁ : ZipAt h₁ z TI TO .ellipsis (.bool false) := hz₁
  refine wpAny_bind ?_
  simp only [List.zipIdx_cons, List.zipIdx_nil, List.forIn_cons, List.forIn_nil]
  refine wpAny_bind (wpAny_bind (wpAny_onRaise ?_))
  refine wpAny_bind (m := Builtin.SmallTypes.nextOf (.ref i1)) (wpAny_nextOf_list_item (h1.extBut hs₁.extBut D.i1z) (hl.extBut hs₁.extBut nl.1) hx fun h₂ h1₂ hs₂ => wpAny_pure ?_)
  have hTO₂ : IsPair h₂ TO a b := hs₂.extBut _ _ D.TOi1 (hs₁.extBut _ _ D.TOz hTO)
  refine wpAny_bind (wpAny_seqItems hTO₂ rfl (wpAny_bind (wpAny_updateSeq_pair hTO₂ fun h₃ hTO₃ hs₃ => ?_)))
  replace hTO₃ : IsPair h₃ TO x b := hTO₃
  refine wpAny_bind (wpAny_letGo (wpAny_pure ?_))
  refine wpAny_bind (wpAny_bind (wpAny_onRaise ?_))
  have ht₃ : h₃.IsTuple t ys := by
   obtain ⟨o, ho, r⟩ := ht
   exact ⟨o, hs₃.extBut _ _ nt.2.1 (hs₂.extBut _ _ nt.2.2.1 (hs₁.extBut _ _ nt.1 ho)), r⟩
  have h2₃ : h₃.IsTupleIter i2 t k := h2.at fun o e => hs₃.extBut _ _ (Ne.symm D.TOi2) (hs₂.extBut _ _ (Ne.symm D.i12) (hs₁.extBut _ _ D.i2z e))
  refine wpAny_bind (m := Builtin.SmallTypes.nextOf (.ref i2)) (nextOf_tuple h2₃ ht₃ hy fun h₄ h2₄ hs₄ => wpAny_pure ?_)
  have hTO₄ : IsPair h₄ TO x b := hs₄.extBut _ _ D.TOi2 hTO₃
  refine wpAny_bind (wpAny_seqItems hTO₄ rfl (wpAny_bind (wpAny_updateSeq_pair hTO₄ fun h₅ hTO₅ hs₅ => ?_)))
  replace hTO₅ : IsPair h₅ TO x y := hTO₅
  refine wpAny_bind (wpAny_letGo (wpAny_pure (wpAny_pure (wpAny_bind (wpAny_seqItems hTO₅ rfl (wpAny_bind (wpAny_newTuple ?_)))))))
  have hz₅ : ZipAt h₅ z TI TO .ellipsis (.bool false) := hs₅.extBut _ _ D.TOz.symm (hs₄.extBut _ _ D.i2z.symm (hs₃.extBut _ _ D.TOz.symm (hs₂.extBut _ _ D.i1z.symm hz₁)))
  have hk₅ : ∀ c o, c ≠ z → c ≠ TO → c ≠ i1 → c ≠ i2 → s.heap.get? c = some o → h₅.get? c = some o := fun c o c1 c2 c3 c4 e => hs₅.extBut _ _ c2 (hs₄.extBut _ _ c4 (hs₃.extBut _ _ c2 (hs₂.extBut _ _ c3 (hs₁.extBut _ _ c1 e))))
  have h1₅ : h₅.IsListIter i1 l (k + 1) := h1₂.at fun o e => hs₅.extBut _ _ (Ne.symm D.TOi1) (hs₄.extBut _ _ D.i12 (hs₃.extBut _ _ (Ne.symm D.TOi1) e))
  have h2₅ : h₅.IsTupleIter i2 t (k + 1) := h2₄.at fun o e => hs₅.extBut _ _ (Ne.symm D.TOi2) e
  refine wpAny_bind (m := Builtin.SmallTypes.ownedTupleHandOut (.ref z) (.ref h₅.objs.size)) ?_
  unfold Builtin.SmallTypes.ownedTupleHandOut
  have hz₆ : ZipAt (h₅.push { cls := .type "tuple", data := .seq #[x, y] }) z TI TO .ellipsis (.bool false) := Heap.get?_push_of_some _ hz₅
  refine wpAny_bind (wpAny_setField_rec hz₆ (by simp) fun h₇ hz₇ hs₇ => ?_)
  replace hz₇ : ZipAt h₇ z TI TO (rawInt h₅.objs.size) (.bool false) := hz₇
  refine wpAny_setField_rec hz₇ (by simp) fun h₈ hz₈ hs₈ => ?_
  replace hz₈ : ZipAt h₈ z TI TO (rawInt h₅.objs.size) (.bool false) := hz₈
  have up : ∀ c o, c ≠ z → h₅.get? c = some o → h₈.get? c = some o := fun c o c1 e => hs₈.extBut _ _ c1 (hs₇.extBut _ _ c1 (Heap.get?_push_of_some _ e))
  have hzlt : z < h₅.objs.size := Heap.lt_size hz₅
  have hT₈ : IsPair h₈ h₅.objs.size x y := hs₈.extBut _ _ (Nat.ne_of_gt hzlt) (hs₇.extBut _ _ (Nat.ne_of_gt hzlt) (Heap.get?_push_size _ rfl))
  have lt1 : i1 < h₅.objs.size := by obtain ⟨_, e, _⟩ := h1₅; exact Heap.lt_size e
  have lt2 : i2 < h₅.objs.size := by obtain ⟨_, e, _⟩ := h2₅; exact Heap.lt_size e
  refine wpAny_pure ⟨_, rfl, hQ h₈ _ ⟨.inr ⟨_, _, hz₈, ⟨_, hT₈⟩, Nat.ne_of_gt hzlt, Nat.ne_of_gt (Heap.lt_size hTO₅), Nat.ne_of_gt lt1, Nat.ne_of_gt lt2⟩, up _ _ D.TIz (hk₅ _ _ D.TIz D.TITO D.TIi1 D.TIi2 hTI), ⟨_, _, up _ _ D.TOz hTO₅⟩, h1₅.at fun o e => up _ o D.i1z e, h2₅.at fun o e => up _ o D.i2z e⟩ hT₈ fun c o c1 c2 c3 c4 e => up c o c1 (hk₅ c o c1 c2 c3 c4 e)⟩
 ·refine wpAny_bind (m := field (.ref z) 2) (wpAny_field hz rfl (x := .bool false) rfl ?_)
  refine wpAny_bind (m := field (.ref z) 3) (wpAny_field hz rfl (x := .ref TI) rfl ?_)
  refine wpAny_bind (wpAny_seqItems hTI rfl ?_)
  refine wpAny_bind (m := Builtin.SmallTypes.ownedTupleIsFree (.ref z)) ?_
  have step : ∀ {α : Type} (N : Bool → Sem α) (QQ : α → Shared → Prop), (∀ h₁, ZipAt h₁ z TI TO (rawInt T) (.bool true) → Heap.SameBut z s.heap h₁ → wpAny (model prog w) A (N false) QQ E { s with heap := h₁ }) →
    wpAny (model prog w) A (Builtin.SmallTypes.ownedTupleIsFree (.ref z)) (fun b s' => wpAny (model prog w) A (N b) QQ E s') E s := fun N QQ hN => by
   unfold Builtin.SmallTypes.ownedTupleIsFree
   refine wpAny_bind (wpAny_field hz rfl (x := rawInt T) rfl ?_)
   show wpAny _ _ (loadIfAlive ((T : Int).toNat) >>= _) _ _ _
   rw [Int.toNat_natCast]
   refine wpAny_bind (W.kdx_alive hT ?_)
   simp only [Option.isNone_some, Bool.false_eq_true, if_false]
   refine wpAny_bind (wpAny_field hz rfl (x := .bool f) rfl ?_)
   cases f with
   | true => rw [if_neg (show ¬ ((Value.bool true != Value.bool true) = true) from Bool.false_ne_true)]; exact wpAny_pure (hN _ hz (.refl ..))
   | false => rw [if_pos (show (Value.bool false != Value.bool true) = true from rfl)]; exact wpAny_bind (wpAny_setField_rec hz (by simp) fun h₁ hz₁ hs₁ => wpAny_pure (hN h₁ hz₁ hs₁))
  refine step _ _ fun h₁ hz₁ hs₁ => ?_
  simp only [Bool.false_eq_true, if_false]
  refine wpAny_bind ?_
  rw [← Array.forIn_toList]
  simp only [List.forIn_cons, List.forIn_nil]
  refine wpAny_bind (wpAny_bind (wpAny_holding ?_))
  refine wpAny_bind (m := Builtin.SmallTypes.nextOf (.ref i1)) (wpAny_nextOf_list_item (h1.extBut hs₁.extBut D.i1z) (hl.extBut hs₁.extBut nl.1) hx fun h₂ h1₂ hs₂ => wpAny_pure (wpAny_pure ?_))
  refine wpAny_bind (wpAny_bind (wpAny_holding ?_))
  have ht₂ : h₂.IsTuple t ys := by
   obtain ⟨o, ho, r⟩ := ht
   exact ⟨o, hs₂.extBut _ _ nt.2.2.1 (hs₁.extBut _ _ nt.1 ho), r⟩
  have h2₂ : h₂.IsTupleIter i2 t k := h2.at fun o e => hs₂.extBut _ _ (Ne.symm D.i12) (hs₁.extBut _ _ D.i2z e)
  refine wpAny_bind (m := Builtin.SmallTypes.nextOf (.ref i2)) (nextOf_tuple h2₂ ht₂ hy fun h₃ h2₃ hs₃ => wpAny_pure (wpAny_pure (wpAny_pure ?_)))
  refine wpAny_bind (wpAny_newTuple ?_ (show 2 ≤ sizeLine by decide))
  have k₃ : ∀ c o, c ≠ z → c ≠ i1 → c ≠ i2 → s.heap.get? c = some o → h₃.get? c = some o := fun c o c1 c2 c3 e => hs₃.extBut _ _ c3 (hs₂.extBut _ _ c2 (hs₁.extBut _ _ c1 e))
  have hz₃ : ZipAt h₃ z TI TO (rawInt T) (.bool true) := hs₃.extBut _ _ (Ne.symm D.i2z) (hs₂.extBut _ _ (Ne.symm D.i1z) hz₁)
  refine wpAny_pure ⟨_, rfl, hQ _ _ ⟨.inr ⟨T, true, Heap.get?_push_of_some _ hz₃, ⟨_, Heap.get?_push_of_some _ (k₃ _ _ n1 n3 n4 hT)⟩, n1, n2, n3, n4⟩, Heap.get?_push_of_some _ (k₃ _ _ D.TIz D.TIi1 D.TIi2 hTI), ⟨_, _, Heap.get?_push_of_some _ (k₃ _ _ D.TOz D.TOi1 D.TOi2 hTO)⟩, h1₂.at fun o e => Heap.get?_push_of_some _ (hs₃.extBut _ _ D.i12 e), h2₃.at fun o e => Heap.get?_push_of_some _ e⟩ (Heap.get?_push_size _ rfl) fun c o c1 _ c3 c4 e => Heap.get?_push_of_some _ (k₃ c o c1 c3 c4 e)⟩
theorem zip_next_stop {z TI TO i1 i2 l t : Addr} {k : Nat} {xs : Array Value} {Q : Fin → Shared → Prop} (hh : A.handled = none) (D : ZApart z TI TO i1 i2) (S : ZipSt s.heap z TI TO i1 i2 l t k)
  (hl : s.heap.IsList l xs) (nl : l ≠ z ∧ l ≠ TO ∧ l ≠ i1 ∧ l ≠ i2) (hx : xs[k]? = none)
  (hE : ∀ h' e, (∀ c o, c ≠ z → c ≠ TO → c ≠ i1 → c ≠ i2 → s.heap.get? c = some o → h'.get? c = some o) → (∃ o, h'.get? e = some o ∧ o.cls = .type "StopIteration") → E (.ref e) { s with heap := h' }) :
  wpAny (model prog w) A (Builtin.«zip.__next__» ⟨[.ref z], []⟩) Q E s := by
 obtain ⟨hz, hTI, ⟨a, b, hTO⟩, h1, h2⟩ := S
 rcases hz with hz | ⟨T, f, hz, ⟨oT, hT⟩, n1, n2, n3, n4⟩
 ·refine wpAny_bind (m := field (.ref z) 2) (wpAny_field hz rfl (x := .bool false) rfl ?_)
  refine wpAny_bind (m := field (.ref z) 3) (wpAny_field hz rfl (x := .ref TI) rfl ?_)
  refine wpAny_bind (wpAny_seqItems hTI rfl ?_)
  refine wpAny_bind (m := Builtin.SmallTypes.ownedTupleIsFree (.ref z)) ?_
  unfold Builtin.SmallTypes.ownedTupleIsFree
  refine wpAny_bind (wpAny_field hz rfl (x := .none) rfl (wpAny_pure ?_))
  simp only [if_true]
  refine wpAny_bind (wpAny_rule (wpAny_bind (wpAny_field hz rfl (x := .ref TO) rfl (wpAny_bind (wpAny_setField_rec hz (by simp) fun h₁ hz₁ hs₁ => ?_)))))
  replace hz₁ : ZipAt h₁ z TI TO .ellipsis (.bool false) := hz₁
  refine wpAny_bind ?_
  simp only [List.zipIdx_cons, List.zipIdx_nil, List.forIn_cons, List.forIn_nil]
  refine wpAny_bind (wpAny_bind (wpAny_onRaise ?_))
  refine wpAny_bind (m := Builtin.SmallTypes.nextOf (.ref i1)) (wpAny_nextOf_list_end hh (h1.extBut hs₁.extBut D.i1z) (hl.extBut hs₁.extBut nl.1) hx fun h₂ e hs₂ he => ?_)
  obtain ⟨oe, hoe, hce⟩ := he
  have hz₂ : ZipAt h₂ z TI TO .ellipsis (.bool false) := hs₂ _ _ D.i1z.symm hz₁
  have hez : e ≠ z := fun x => by subst x; rw [hz₂] at hoe; cases hoe; simp at hce
  exact wpAny_setField_rec hz₂ (by simp) fun h₃ _ hs₃ => hE h₃ e (fun c o c1 _ c3 _ x => hs₃.extBut _ _ c1 (hs₂ _ _ c3 (hs₁.extBut _ _ c1 x))) ⟨oe, hs₃.extBut _ _ hez hoe, hce⟩
 ·refine wpAny_bind (m := field (.ref z) 2) (wpAny_field hz rfl (x := .bool false) rfl ?_)
  refine wpAny_bind (m := field (.ref z) 3) (wpAny_field hz rfl (x := .ref TI) rfl ?_)
  refine wpAny_bind (wpAny_seqItems hTI rfl ?_)
  refine wpAny_bind (m := Builtin.SmallTypes.ownedTupleIsFree (.ref z)) ?_
  have step : ∀ {α : Type} (N : Bool → Sem α) (QQ : α → Shared → Prop), (∀ h₁, ZipAt h₁ z TI TO (rawInt T) (.bool true) → Heap.SameBut z s.heap h₁ → wpAny (model prog w) A (N false) QQ E { s with heap := h₁ }) →
    wpAny (model prog w) A (Builtin.SmallTypes.ownedTupleIsFree (.ref z)) (fun b s' => wpAny (model prog w) A (N b) QQ E s') E s := fun N QQ hN => by
   unfold Builtin.SmallTypes.ownedTupleIsFree
   refine wpAny_bind (wpAny_field hz rfl (x := rawInt T) rfl ?_)
   show wpAny _ _ (loadIfAlive ((T : Int).toNat) >>= _) _ _ _
   rw [Int.toNat_natCast]
   refine wpAny_bind (W.kdx_alive hT ?_)
   simp only [Option.isNone_some, Bool.false_eq_true, if_false]
   refine wpAny_bind (wpAny_field hz rfl (x := .bool f) rfl ?_)
   cases f with
   | true => rw [if_neg (show ¬ ((Value.bool true != Value.bool true) = true) from Bool.false_ne_true)]; exact wpAny_pure (hN _ hz (.refl ..))
   | false => rw [if_pos (show (Value.bool false != Value.bool true) = true from rfl)]; exact wpAny_bind (wpAny_setField_rec hz (by simp) fun h₁ hz₁ hs₁ => wpAny_pure (hN h₁ hz₁ hs₁))
  refine step _ _ fun h₁ hz₁ hs₁ => ?_
  simp only [Bool.false_eq_true, if_false]
  refine wpAny_bind ?_
  rw [← Array.forIn_toList]
  simp only [List.forIn_cons, List.forIn_nil]
  refine wpAny_bind (wpAny_bind (wpAny_holding ?_))
  refine wpAny_bind (m := Builtin.SmallTypes.nextOf (.ref i1)) (wpAny_nextOf_list_end hh (h1.extBut hs₁.extBut D.i1z) (hl.extBut hs₁.extBut nl.1) hx fun h₂ e hs₂ he => hE h₂ e (fun c o c1 _ c3 _ x => hs₂ _ _ c3 (hs₁.extBut _ _ c1 x)) he)
theorem pyNext_zip {z TI TO i1 i2 l t : Addr} {k : Nat} {xs ys : Array Value} {x y : Value} {Q : Option Value → Shared → Prop} (D : ZApart z TI TO i1 i2) (S : ZipSt s.heap z TI TO i1 i2 l t k)
  (hl : s.heap.IsList l xs) (ht : s.heap.IsTuple t ys) (nl : l ≠ z ∧ l ≠ TO ∧ l ≠ i1 ∧ l ≠ i2) (nt : t ≠ z ∧ t ≠ TO ∧ t ≠ i1 ∧ t ≠ i2) (hx : xs[k]? = some x) (hy : ys[k]? = some y)
  (hQ : ∀ h' T, ZipSt h' z TI TO i1 i2 l t (k + 1) → IsPair h' T x y → (∀ c o, c ≠ z → c ≠ TO → c ≠ i1 → c ≠ i2 → s.heap.get? c = some o → h'.get? c = some o) → Q (some (.ref T)) { s with heap := h' }) :
  wpAny (model prog w) A (pyNext (.ref z)) Q E s := by
 have hT : s.TypeIs (.ref z) "zip" := by
  rcases S.zip with h | ⟨_, _, h, _⟩ <;> exact ⟨_, h, rfl⟩
 unfold pyNext
 exact wpAny_bind (wpAny_attempt (wpAny_callSpecial?_slot (name := Str.ofString "__next__") hT F.slot_zip_next (wpAny_call_entry F.slot_zip_next hT F.entry_zip_next
   (zip_next_pair D S hl ht nl nt hx hy fun h' T a1 a2 a3 => wpAny_pure (hQ h' T a1 a2 a3)) (F.args_zip_next_1 _))))
theorem pyNext_zip_stop {z TI TO i1 i2 l t : Addr} {k : Nat} {xs : Array Value} {Q : Option Value → Shared → Prop} (hh : A.handled = none) (D : ZApart z TI TO i1 i2) (S : ZipSt s.heap z TI TO i1 i2 l t k)
  (hl : s.heap.IsList l xs) (nl : l ≠ z ∧ l ≠ TO ∧ l ≠ i1 ∧ l ≠ i2) (hx : xs[k]? = none)
  (hQ : ∀ h', (∀ c o, c ≠ z → c ≠ TO → c ≠ i1 → c ≠ i2 → s.heap.get? c = some o → h'.get? c = some o) → Q none { s with heap := h' }) : wpAny (model prog w) A (pyNext (.ref z)) Q E s := by
 have hT : s.TypeIs (.ref z) "zip" := by
  rcases S.zip with h | ⟨_, _, h, _⟩ <;> exact ⟨_, h, rfl⟩
 unfold pyNext
 refine wpAny_bind (wpAny_attempt (wpAny_callSpecial?_slot (name := Str.ofString "__next__") hT F.slot_zip_next (wpAny_call_entry F.slot_zip_next hT F.entry_zip_next (zip_next_stop hh D S hl nl hx fun h' e hk he => ?_) (F.args_zip_next_1 _))))
 obtain ⟨o, ho, hc⟩ := he
 exact wpAny_bind (wpAny_isInstance (T := "StopIteration") (b := true) ⟨o, ho, hc⟩ isSubtype_stop (wpAny_pure (hQ _ hk)))
theorem pyIter_zip {z TI TO i1 i2 l t : Addr} {k : Nat} {Q : Value → Shared → Prop} (S : ZipSt s.heap z TI TO i1 i2 l t k) (h : Q (.ref z) s) : wpAny (model prog w) A (pyIter (.ref z)) Q E s := by
 have hT : s.TypeIs (.ref z) "zip" := by
  rcases S.zip with h | ⟨_, _, h, _⟩ <;> exact ⟨_, h, rfl⟩
 exact wpAny_pyIter_slot hT F.slot_zip_iter (wpAny_call_entry F.slot_zip_iter hT F.entry_zip_iter (wpAny_pure ⟨_, rfl, "zip", _, hT, F.slot_zip_next.lookup, h⟩) (F.args_zip_iter_1 _))
end
end PySem

namespace PySem
namespace FD
theorem entry_upd_loop : entryFor table "dict.update.loop" = some Builtin.«dict.update.loop» := entryFor_of_tree (by kernel_rfl)
theorem plain_upd_loop : plainId "dict.update.loop" = true := by decide +kernel
end FD
structure PairIt (prog : Program) (w : World) (A : Around) (d it : Addr) (fp : List Addr) (kvs : List (Value × Value)) (St : Nat → Heap → Prop) : Prop where
 frame : ∀ i h h', St i h → Heap.SameBut d h h' → (∃ o, h'.get? d = some o) → St i h'
 item : ∀ (i : Nat) (s : Shared) (Q : Option Value → Shared → Prop) (E : Value → Shared → Prop) (k v : Value), kvs[i]? = some (k, v) → St i s.heap →
  (∀ T h' tk n, St (i + 1) h' → (∃ o, h'.get? T = some o ∧ o.cls = .type "tuple" ∧ o.data = .seq #[k, v] n) → (∀ b o, b ∉ fp → s.heap.get? b = some o → h'.get? b = some o) → Q (some (.ref T)) { s with heap := h', toks := tk }) → wpAny (model prog w) A (pyNext (.ref it)) Q E s
 done : ∀ (s : Shared) (Q : Option Value → Shared → Prop) (E : Value → Shared → Prop), St kvs.length s.heap →
  (∀ h' tk, (∀ b o, b ∉ fp → s.heap.get? b = some o → h'.get? b = some o) → Q none { s with heap := h', toks := tk }) → wpAny (model prog w) A (pyNext (.ref it)) Q E s
section
variable {prog : Program} {w : World} {K : Type} [DecidableEq K] {knd : KeyKind prog w K} {A : Around}
noncomputable abbrev Keyed (knd : KeyKind prog w K) : List (K × Value) → List (Value × Value) → Prop := Paired fun p q => knd.is p.1 q.1 = true ∧ p.2 = q.2
theorem keyed_get {ks : List (K × Value)} {kvs : List (Value × Value)} (h : Keyed knd ks kvs) : ∀ {i : Nat} {p : K × Value}, ks[i]? = some p → ∃ q, kvs[i]? = some q ∧ knd.is p.1 q.1 = true ∧ p.2 = q.2 := by
 induction h with
 | nil => intro i p e; simp at e
 | cons f _ ih =>
  intro i p e
  cases i with
  | zero => simp at e; subst e; exact ⟨_, rfl, f⟩
  | succ i => exact ih (i := i) (by simpa using e)
theorem upd_loop {d it : Addr} {fp : List Addr} {kvs : List (Value × Value)} {ks : List (K × Value)} {St : Nat → Heap → Prop} (P : PairIt prog w A.in1 d it fp kvs St) (hk : Keyed knd ks kvs) (hd : d ∉ fp) (hz : ks.length ≤ 1000) {R : Result → Shared → Prop} {s₀ : Shared}
  (hR : ∀ h' tk, (∀ b o, b ∉ fp → b ≠ d → s₀.heap.get? b = some o → h'.get? b = some o) → h'.DictOf knd d (merged [] ks) → R (.ok (.ret .none)) { s₀ with heap := h', toks := tk }) :
  ∀ (m i : Nat) (h : Heap) (tk : Nat), ks.length - i = m → i ≤ ks.length → St i h → h.DictOf knd d (merged [] (ks.take i)) → (∀ b o, b ∉ fp → b ≠ d → s₀.heap.get? b = some o → h.get? b = some o) →
   codeAny (model prog w) A (.builtin "dict.update.loop" ⟨[.ref d, .ref it, rawInt i, .none], []⟩) R { s₀ with heap := h, toks := tk } := by
 intro m
 induction m with
 | zero =>
  intro i h tk hm hi st hD keep
  have e : i = ks.length := by omega
  subst e
  refine codeAny_builtin FD.entry_upd_loop ?_
  rw [Around.under_plainId FD.plain_upd_loop _]
  rw [hk.length] at st
  refine wpAny_bind (m := pyNext (.ref it)) (P.done { s₀ with heap := h, toks := tk } _ _ st fun h' tk' kp => ?_)
  rw [List.take_length] at hD
  refine wpAny_bind (m := Builtin.Dict.addKeywords d []) (wpAny_pure (wpAny_pure ?_))
  refine hR h' tk' (fun b o b1 b2 e => kp b o b1 (keep b o b1 b2 e)) ?_
  obtain ⟨o, es, ep, ho, r⟩ := hD
  exact ⟨o, es, ep, kp _ _ hd ho, r⟩
 | succ m ih =>
  intro i h tk hm hi st hD keep
  have hlt : i < ks.length := by omega
  obtain ⟨p, ep⟩ : ∃ p, ks[i]? = some p := ⟨_, List.getElem?_eq_getElem hlt⟩
  obtain ⟨⟨kv, vv⟩, eq, hkey, hval⟩ := keyed_get hk ep
  have hval : p.2 = vv := hval
  refine codeAny_builtin FD.entry_upd_loop ?_
  rw [Around.under_plainId FD.plain_upd_loop _]
  refine wpAny_bind (m := pyNext (.ref it)) (P.item i { s₀ with heap := h, toks := tk } _ _ kv vv eq st fun T h' tk' n st' hT kp => ?_)
  obtain ⟨oT, hT, hTc, hTd⟩ := hT
  have hTy : Shared.TypeIs { s₀ with heap := h', toks := tk' } (.ref T) "tuple" := ⟨_, hT, hTc⟩
  have hD' : h'.DictOf knd d (merged [] (ks.take i)) := by
   obtain ⟨o, es, ep, ho, r⟩ := hD
   exact ⟨o, es, ep, kp _ _ hd ho, r⟩
  refine wpAny_bind (wpAny_holding ?_)
  refine wpAny_bind (wpAny_tryCatch ?_)
  unfold Builtin.Dict.pairItems
  refine wpAny_bind (wpAny_typeOf hTy ?_)
  rw [if_pos (by decide)]
  refine wpAny_bind (wpAny_seqItems hT hTd (wpAny_pure ?_))
  refine wpAny_holding (wpAny_dictSet_pairs hkey hD' (fun h'' hD'' sb => ?_) ?_)
  ·refine wpAny_pure ⟨plainId_quiet FD.plain_upd_loop _, ?_⟩
   have e1 : merged [] (ks.take (i + 1)) = stored (merged [] (ks.take i)) p.1 p.2 := merged_take_succ [] ks i p ep
   rw [← hval] at hD''
   have := ih (i + 1) h'' (tk' + 1) (by omega) hlt (P.frame _ _ _ st' sb (by obtain ⟨o, _, _, ho, _⟩ := hD''; exact ⟨o, ho⟩)) (by rw [e1]; exact hD'') fun b o b1 b2 e => (sb.2 b b2).trans (kp b o b1 (keep b o b1 b2 e))
   exact this
  ·have := merged_length_le ([] : List (K × Value)) (ks.take i)
   rw [List.length_take, List.length_nil] at this
   have e : sizeLine = 16777216 := by decide
   omega

theorem call_dict_arg {E : Value → Shared → Prop} {s : Shared} {a : Addr} {T : String} {Q : Value → Shared → Prop} (hT : s.TypeIs (.ref a) T) (hne : (Value.type T != Value.type "dict") = true)
  (h : ∀ E' : Value → Shared → Prop, wpAny (model prog w) A.in1.in1 (getAttr? (.ref a) "keys") (fun r s2 => r = none ∧ wpAny (model prog w) A.in1.in1 (pyIter (.ref a)) (fun it s3 => codeAny (model prog w) A.in1 (.builtin "dict.update.loop" ⟨[.ref s.heap.objs.size, it, rawInt 0, .none], []⟩)
   (wants (fun r s₂ => r = .none ∧ Q (.ref s.heap.objs.size) s₂) E) s3) E' s2) E' { s with heap := s.heap.push { cls := .type "dict", data := .dict #[] } }) :
  wpAny (model prog w) A (call (.type "dict") [.ref a]) Q E s := by
 refine callType_codes (Q₁ := fun obj s₁ => obj = .ref s.heap.objs.size ∧ s₁ = { s with heap := s.heap.push { cls := .type "dict", data := .dict #[] } }) F.kt_called_dict (F.kt_typeCall_dict_1 _) F.entry_dict_init (kt_code_dict_new _ ⟨rfl, rfl⟩) ?_
 rintro obj s₁ ⟨rfl, rfl⟩
 have gd : (s.heap.push { cls := .type "dict", data := .dict #[] }).get? s.heap.objs.size = some { cls := .type "dict", data := .dict #[] } := Heap.get?_push_size _ rfl
 have hnew : Shared.TypeIs { s with heap := s.heap.push { cls := .type "dict", data := .dict #[] } } (.ref s.heap.objs.size) "dict" := ⟨_, gd, rfl⟩
 have hT' : Shared.TypeIs { s with heap := s.heap.push { cls := .type "dict", data := .dict #[] } } (.ref a) T := by
  obtain ⟨o, ho, hc⟩ := hT
  exact ⟨o, Heap.get?_push_of_some _ ho, hc⟩
 refine ⟨hnew, F.args_dict_init_2 _ _, ?_⟩
 unfold Builtin.«dict.__init__»
 refine wpAny_bind ?_
 unfold Builtin.Dict.selfAndRest
 refine wpAny_bind (wpAny_notOrdered_dict hnew ?_)
 show wpAny _ _ (pure (s.heap.objs.size, [Value.ref a])) _ _ _
 refine wpAny_pure ?_
 show wpAny _ _ (Builtin.Dict.updateFrom "dict.__init__" s.heap.objs.size (.ref a) [] .none) _ _ _
 unfold Builtin.Dict.updateFrom
 refine wpAny_bind (wpAny_typeOf hT' ?_)
 rw [if_pos hne]
 refine wpAny_bind (wpAny_mono (h _) (fun r s2 hr => ?_) fun _ _ x => x)
 obtain ⟨rfl, hr⟩ := hr
 simp only [Option.isNone_none, if_true]
 refine wpAny_bind (wpAny_rule (wpAny_bind (wpAny_mono hr (fun it s3 hc => ?_) fun _ _ x => x)))
 exact wpAny_pure ⟨plainId_quiet FD.plain_upd_loop _, hc⟩
end
section
variable {prog : Program} {w : World} {K : Type} [DecidableEq K] {knd : KeyKind prog w K} {A : Around} {E : Value → Shared → Prop} {s : Shared}
theorem new_dict_of (h : Heap) : (h.push { cls := .type "dict", data := .dict #[] }).DictOf knd h.objs.size [] := Heap.DictOf.new h
theorem call_dict_zip {l t : Addr} {xs ys : Array Value} {ks : List (K × Value)} {Q : Value → Shared → Prop} (hh : A.handled = none) (hl : s.heap.IsList l xs) (ht : s.heap.IsTuple t ys) (hsz : xs.size = ys.size) (hk : Keyed knd ks (xs.toList.zip ys.toList)) (hz : ks.length ≤ 1000)
  (hQ : ∀ p h' tk, s.heap.objs.size ≤ p → (∀ b o, s.heap.get? b = some o → h'.get? b = some o) → h'.DictOf knd p (merged [] ks) → Q (.ref p) { s with heap := h', toks := tk }) :
  wpAny (model prog w) A (call (.type "zip") [.ref l, .ref t]) (fun z s1 => wpAny (model prog w) A (call (.type "dict") [z]) Q E s1) E s := by
 refine call_zip_lt hl ht fun h1 z TI TO i1 i2 D S z1 z2 z3 z4 z5 keep1 => ?_
 have hT : Shared.TypeIs { s with heap := h1 } (.ref z) "zip" := by
  rcases S.zip with h | ⟨_, _, h, _⟩ <;> exact ⟨_, h, rfl⟩
 have llt : l < s.heap.objs.size := by obtain ⟨o, e, _⟩ := hl; exact Heap.lt_size e
 have tlt : t < s.heap.objs.size := by obtain ⟨o, e, _⟩ := ht; exact Heap.lt_size e
 have zlt : ∀ x, x = z ∨ x = TI ∨ x = TO ∨ x = i1 ∨ x = i2 → x < h1.objs.size := fun x hx => by
  rcases hx with rfl | rfl | rfl | rfl | rfl
  ·rcases S.zip with h | ⟨_, _, h, _⟩ <;> exact Heap.lt_size h
  ·exact Heap.lt_size S.its
  ·obtain ⟨_, _, h⟩ := S.own; exact Heap.lt_size h
  ·obtain ⟨_, h, _⟩ := S.one; exact Heap.lt_size h
  ·obtain ⟨_, h, _⟩ := S.two; exact Heap.lt_size h
 refine call_dict_arg hT (by decide) fun E' => ?_
 have S2 : ZipSt (h1.push { cls := .type "dict", data := .dict #[] }) z TI TO i1 i2 l t 0 := by
  refine ⟨?_, Heap.get?_push_of_some _ S.its, ?_, S.one.at fun o e => Heap.get?_push_of_some _ e, S.two.at fun o e => Heap.get?_push_of_some _ e⟩
  ·rcases S.zip with h | ⟨T, f, h, ⟨o, e⟩, r⟩
   ·exact .inl (Heap.get?_push_of_some _ h)
   ·exact .inr ⟨T, f, Heap.get?_push_of_some _ h, ⟨o, Heap.get?_push_of_some _ e⟩, r⟩
  ·obtain ⟨a, b, e⟩ := S.own
   exact ⟨a, b, Heap.get?_push_of_some _ e⟩
 have dz : ∀ x, x = z ∨ x = TI ∨ x = TO ∨ x = i1 ∨ x = i2 → h1.objs.size ≠ x := fun x hx => Nat.ne_of_gt (zlt x hx)
 have old : s.heap.objs.size ≤ h1.objs.size := Nat.le_of_lt (Nat.lt_of_le_of_lt z1 (zlt z (.inl rfl)))
 obtain ⟨vs, hzip⟩ : ∃ vs, (h1.push { cls := .type "dict", data := .dict #[] }).get? z = some { cls := .type "zip", dict := none, data := .fields vs, slots := #[] } := by
  rcases S2.zip with h | ⟨_, _, h, _⟩ <;> exact ⟨_, h⟩
 refine keys_none_zip hzip hh fun h2 tk2 kp2 => ⟨rfl, ?_⟩
 have S3 : ZipSt h2 z TI TO i1 i2 l t 0 := by
  refine ⟨?_, kp2 _ _ S2.its, ?_, S2.one.at fun o e => kp2 _ _ e, S2.two.at fun o e => kp2 _ _ e⟩
  ·rcases S2.zip with h | ⟨T, f, h, ⟨o, e⟩, r⟩
   ·exact .inl (kp2 _ _ h)
   ·exact .inr ⟨T, f, kp2 _ _ h, ⟨o, kp2 _ _ e⟩, r⟩
  ·obtain ⟨a, b, e⟩ := S2.own
   exact ⟨a, b, kp2 _ _ e⟩
 refine pyIter_zip S3 ?_
 have hlen : (xs.toList.zip ys.toList).length = xs.size := by rw [List.length_zip]; simp [hsz]
 have ndl : l ≠ z ∧ l ≠ TO ∧ l ≠ i1 ∧ l ≠ i2 := ⟨Nat.ne_of_lt (Nat.lt_of_lt_of_le llt z1), Nat.ne_of_lt (Nat.lt_of_lt_of_le llt z3), Nat.ne_of_lt (Nat.lt_of_lt_of_le llt z4), Nat.ne_of_lt (Nat.lt_of_lt_of_le llt z5)⟩
 have ndt : t ≠ z ∧ t ≠ TO ∧ t ≠ i1 ∧ t ≠ i2 := ⟨Nat.ne_of_lt (Nat.lt_of_lt_of_le tlt z1), Nat.ne_of_lt (Nat.lt_of_lt_of_le tlt z3), Nat.ne_of_lt (Nat.lt_of_lt_of_le tlt z4), Nat.ne_of_lt (Nat.lt_of_lt_of_le tlt z5)⟩
 have nl5 : l ≠ h1.objs.size := Nat.ne_of_lt (Nat.lt_of_lt_of_le llt old)
 have nt5 : t ≠ h1.objs.size := Nat.ne_of_lt (Nat.lt_of_lt_of_le tlt old)
 have P : PairIt prog w A.in1.in1 h1.objs.size z [z, TO, i1, i2] (xs.toList.zip ys.toList) (fun i h => ZipSt h z TI TO i1 i2 l t i ∧ h.IsList l xs ∧ h.IsTuple t ys) :=
  {frame := fun i h h' ⟨S, hl, ht⟩ sb ⟨od, hod⟩ => by
    have k : ∀ b o, b ≠ h1.objs.size → h.get? b = some o → h'.get? b = some o := fun b o hb e => (sb.2 b hb).trans e
    refine ⟨⟨?_, k _ _ (dz TI (.inr (.inl rfl))).symm S.its, ?_, S.one.at fun o e => k _ _ (dz i1 (by simp)).symm e, S.two.at fun o e => k _ _ (dz i2 (by simp)).symm e⟩, ?_, ?_⟩
    ·rcases S.zip with h | ⟨T, f, h, ⟨o, e⟩, r⟩
     ·exact .inl (k _ _ (dz z (.inl rfl)).symm h)
     ·refine .inr ⟨T, f, k _ _ (dz z (.inl rfl)).symm h, ?_, r⟩
      by_cases hTd : T = h1.objs.size
      ·exact ⟨od, by rw [hTd]; exact hod⟩
      ·exact ⟨o, k _ _ hTd e⟩
    ·obtain ⟨a, b, e⟩ := S.own
     exact ⟨a, b, k _ _ (dz TO (by simp)).symm e⟩
    ·obtain ⟨o, ho, r⟩ := hl; exact ⟨o, k _ _ nl5 ho, r⟩
    ·obtain ⟨o, ho, r⟩ := ht; exact ⟨o, k _ _ nt5 ho, r⟩
   item := fun i s Q E k v e ⟨S, hl, ht⟩ hQ => by
    obtain ⟨e1, e2⟩ := List.getElem?_zip_eq_some.mp e
    refine pyNext_zip D S hl ht ndl ndt (x := k) (y := v) (by simpa using e1) (by simpa using e2) fun h' T S' hT kp => ?_
    refine hQ T h' s.toks 0 ⟨S', ?_, ?_⟩ ⟨_, hT, rfl, rfl⟩ fun b o hb e => kp b o (fun z => hb (by simp [z])) (fun z => hb (by simp [z])) (fun z => hb (by simp [z])) (fun z => hb (by simp [z])) e
    ·obtain ⟨o, ho, r⟩ := hl; exact ⟨o, kp _ _ ndl.1 ndl.2.1 ndl.2.2.1 ndl.2.2.2 ho, r⟩
    ·obtain ⟨o, ho, r⟩ := ht; exact ⟨o, kp _ _ ndt.1 ndt.2.1 ndt.2.2.1 ndt.2.2.2 ho, r⟩
   done := fun s Q E ⟨S, hl, ht⟩ hQ => by
    refine pyNext_zip_stop (A := A.in1.in1) hh D S hl ndl (by rw [hlen]; simp) fun h' kp => ?_
    exact hQ h' s.toks fun b o hb e => kp b o (fun z => hb (by simp [z])) (fun z => hb (by simp [z])) (fun z => hb (by simp [z])) (fun z => hb (by simp [z])) e }
 have kl : ∀ b o, s.heap.get? b = some o → h2.get? b = some o := fun b o e => kp2 _ _ (Heap.get?_push_of_some _ (keep1 _ _ e))
 have hd0 : h2.DictOf knd h1.objs.size (merged [] (ks.take 0)) := by
  obtain ⟨o, es, ep, ho, r⟩ := new_dict_of (knd := knd) h1
  exact ⟨o, es, ep, kp2 _ _ ho, r⟩
 refine upd_loop (A := A.in1) (s₀ := { s with heap := h2, toks := tk2 }) P hk (by simp [dz z, dz TO, dz i1, dz i2]) hz (fun h' tk kp hD => ⟨rfl, ?fin⟩) ks.length 0 h2 tk2 (by simp) (Nat.zero_le _) ⟨S3, ?sl, ?st⟩ hd0 (fun _ _ _ _ e => e)
 case fin =>
  refine hQ _ h' tk old (fun b o e => kp b o ?_ ?_ (kl b o e)) hD
  ·have bl := Heap.lt_size e
   intro hb
   simp only [List.mem_cons, List.not_mem_nil, or_false] at hb
   rcases hb with rfl | rfl | rfl | rfl
   ·exact absurd (Nat.lt_of_lt_of_le bl z1) (Nat.lt_irrefl _)
   ·exact absurd (Nat.lt_of_lt_of_le bl z3) (Nat.lt_irrefl _)
   ·exact absurd (Nat.lt_of_lt_of_le bl z4) (Nat.lt_irrefl _)
   ·exact absurd (Nat.lt_of_lt_of_le bl z5) (Nat.lt_irrefl _)
  ·exact Nat.ne_of_lt (Nat.lt_of_lt_of_le (Heap.lt_size e) old)
 case sl => obtain ⟨o, ho, r⟩ := hl; exact ⟨o, kl _ _ ho, r⟩
 case st => obtain ⟨o, ho, r⟩ := ht; exact ⟨o, kl _ _ ho, r⟩
theorem call_dict_list {l : Addr} {xs : Array Value} {n : Nat} {kvs : List (Value × Value)} {ks : List (K × Value)} {Q : Value → Shared → Prop} (hh : A.handled = none) (hl : s.heap.get? l = some { cls := .type "list", data := .seq xs n })
  (hp : ∀ (i : Nat) p, kvs[i]? = some p → ∃ T o m, xs[i]? = some (.ref T) ∧ s.heap.get? T = some o ∧ o.cls = .type "tuple" ∧ o.data = .seq #[p.1, p.2] m) (hlen : kvs.length = xs.size) (hk : Keyed knd ks kvs) (hz : ks.length ≤ 1000)
  (hQ : ∀ p h' tk, s.heap.objs.size ≤ p → (∀ b o, s.heap.get? b = some o → h'.get? b = some o) → h'.DictOf knd p (merged [] ks) → Q (.ref p) { s with heap := h', toks := tk }) :
  wpAny (model prog w) A (call (.type "dict") [.ref l]) Q E s := by
 refine call_dict_arg (T := "list") ⟨_, hl, rfl⟩ (by decide) fun E' => ?_
 have kd : ∀ b o, s.heap.get? b = some o → (s.heap.push { cls := .type "dict", data := .dict #[] }).get? b = some o := fun b o e => Heap.get?_push_of_some _ e
 refine keys_none_list (kd _ _ hl) hh fun h2 tk2 kp2 => ⟨rfl, ?_⟩
 have kl : ∀ b o, s.heap.get? b = some o → h2.get? b = some o := fun b o e => kp2 _ _ (kd _ _ e)
 have L2 : h2.IsList l xs := ⟨_, kl _ _ hl, rfl, n, rfl⟩
 refine wpAny_pyIter_list (s := { s with heap := h2, toks := tk2 }) L2 ?_
 have k3 : ∀ b o, h2.get? b = some o → (h2.push { cls := .type "list_iterator", data := .fields #[.ref l, .int 0 0] }).get? b = some o := fun b o e => Heap.get?_push_of_some _ e
 have dlt : s.heap.objs.size < h2.objs.size := Heap.lt_size (kp2 _ _ (Heap.get?_push_size _ rfl))
 have P : PairIt prog w A.in1.in1 s.heap.objs.size h2.objs.size [h2.objs.size] kvs (fun i h => h.IsListIter h2.objs.size l i ∧ ∀ b o, s.heap.get? b = some o → h.get? b = some o) :=
  {frame := fun i h h' ⟨S, kp⟩ sb _ => ⟨S.at fun o e => (sb.2 _ (Nat.ne_of_gt dlt)).trans e, fun b o e => (sb.2 b (Nat.ne_of_lt (Heap.lt_size e))).trans (kp b o e)⟩
   item := fun i s' Q E k v e ⟨S, kp⟩ hQ => by
    obtain ⟨T, o, m, ex, ho, hc, hd⟩ := hp i (k, v) e
    refine wpAny_pyNext_list_item S ⟨_, kp _ _ hl, rfl, n, rfl⟩ ex fun h' S' sb => ?_
    have nb : ∀ b o, s.heap.get? b = some o → b ≠ h2.objs.size := fun b o e => Nat.ne_of_lt (Nat.lt_trans (Heap.lt_size e) dlt)
    exact hQ T h' s'.toks m ⟨S', fun b o e => (sb.2 b (nb b o e)).trans (kp b o e)⟩ ⟨o, (sb.2 T (nb T o ho)).trans (kp _ _ ho), hc, hd⟩ fun b o hb e => (sb.2 b (fun z => hb (by simp [z]))).trans e
   done := fun s' Q E ⟨S, kp⟩ hQ => by
    refine wpAny_pyNext_list_end (A := A.in1.in1) hh S ⟨_, kp _ _ hl, rfl, n, rfl⟩ (by rw [hlen]; simp) fun h' eb => ?_
    exact hQ h' s'.toks fun b o hb e => eb b o (fun z => hb (by simp [z])) e }
 have hd0 : (h2.push { cls := .type "list_iterator", data := .fields #[.ref l, .int 0 0] }).DictOf knd s.heap.objs.size (merged [] (ks.take 0)) := by
  obtain ⟨o, es, ep, ho, r⟩ := new_dict_of (knd := knd) s.heap
  exact ⟨o, es, ep, k3 _ _ (kp2 _ _ ho), r⟩
 refine upd_loop (A := A.in1) (s₀ := { s with heap := h2.push { cls := .type "list_iterator", data := .fields #[.ref l, .int 0 0] }, toks := tk2 }) P hk (by simp; exact Nat.ne_of_lt dlt) hz (fun h' tk kp hD => ⟨rfl, ?_⟩) ks.length 0 _ tk2 (by simp) (Nat.zero_le _) ⟨⟨_, Heap.get?_push_size _ rfl, rfl, rfl⟩, fun b o e => k3 _ _ (kl _ _ e)⟩ hd0 (fun _ _ _ _ e => e)
 refine hQ _ h' tk (Nat.le_refl _) (fun b o e => kp b o ?_ (Nat.ne_of_lt (Heap.lt_size e)) (k3 _ _ (kl b o e))) hD
 simp only [List.mem_singleton]
 exact Nat.ne_of_lt (Nat.lt_trans (Heap.lt_size e) dlt)
end
end PySem

namespace L2
open PySem PySem.Spec PyProof.Rows
theorem bt_zip : bootBuiltins "zip" = some (.type "zip") := by decide +kernel
noncomputable def zipK (ns : List Str) (xs : List V) : List (Key × V) := (ns.zip xs).map fun p => (Sum.inr p.1, p.2)
noncomputable def pairK (kvs : List (Str × V)) : List (Key × V) := kvs.map fun p => (Sum.inr p.1, p.2)
theorem zip_keyed {P : Program} {w : World} : ∀ {ns : List Str} {xs : List V} {us vs : List Value}, Vals (ns.map V.str) us → Vals xs vs → ns.length = xs.length → ∃ ks : List (Key × Value), Keyed (mixKind P w) ks (us.zip vs) ∧ KV (zipK ns xs) ks ∧ ks.length = ns.length
 | [], [], _, _, .nil, .nil, _ => ⟨[], .nil, .nil, rfl⟩
 | n :: ns, x :: xs, _, _, .cons r1 t1, .cons (b := v) r2 t2, hl => by
  obtain ⟨ks, h1, h2, h3⟩ := zip_keyed (P := P) (w := w) t1 t2 (by simpa using hl)
  obtain ⟨t, rfl⟩ := r1
  exact ⟨(Sum.inr n, v) :: ks, .cons ⟨mixKind_str P w n t, rfl⟩ h1, .cons ⟨rfl, r2⟩ h2, by simp [h3]⟩
 | [], _ :: _, _, _, _, _, hl => by simp at hl
 | _ :: _, [], _, _, _, _, hl => by simp at hl
section
variable {X : Cx} {pins : List (Addr × Obj)} {σ : St} {H : Hp} {s : Shared}
theorem Inv.newDict {Q : VK} {p : Addr} {h' : Heap} {tk : Nat} {kvs : List (Key × V)} {ks : List (Key × Value)} (I : Inv X pins σ H s) (hp : s.heap.objs.size ≤ p) (keep : ∀ b o, s.heap.get? b = some o → h'.get? b = some o)
  (rel : KV kvs ks) (hk : ks.length ≤ 1000) (hD : h'.DictOf (mixKind X.prog X.w) p (merged [] ks)) (q : Q (.ref p) (upd H p (.dK (mergeK [] kvs)))) : EP X pins σ Q (.ref p) { s with heap := h', toks := tk } := by
 refine ⟨.ref p, upd H p (.dK (mergeK [] kvs)), I.laid (o := .dK (mergeK [] kvs)) keep hp ⟨?_, ?_, merged [] ks, KV.merge rel .nil, hD⟩, rfl, q⟩
 ·have l1 := length_mergeK kvs []
  have l2 := rel.length
  have e : sizeLine = 16777216 := by decide
  rw [List.length_nil] at l1
  omega
 ·have := I.big
  have ne : p ≠ sysModules := Nat.ne_of_gt (Nat.lt_of_lt_of_le this hp)
  exact beq_eq_false_iff_ne.mpr ne
noncomputable def tDictZip (K : PySem.W.Frag) (ta : TA) : TE := fun σ H Q => ta σ H fun vs H1 => ∃ l t ns xs, vs = [.ref l, .ref t] ∧ SqL K H1 l (ns.map V.str) ∧ SqT K H1 t xs ∧ ns.length = xs.length ∧ ns.length ≤ 1000 ∧
 ∀ p, H1 p = none → Q (.ref p) (upd H1 p (.dK (mergeK [] (zipK ns xs))))
theorem pe_dict_zip {a b : Expr} {ta : TA} {p p2 pos pos2 : Pos} (hc : X.calm = true) (hg : Gl X "dict") (hm : X.mg "dict" = none) (hg2 : Gl X "zip") (hm2 : X.mg "zip" = none) (ha : PA X [a, b] ta)
  (he : starEach [.Call (.Name "zip" p2) [a, b] [] pos2] X.env = [(false, eval (.Call (.Name "zip" p2) [a, b] [] pos2) X.env)] := by rfl)
  (he2 : starEach [a, b] X.env = [(false, eval a X.env), (false, eval b X.env)] := by rfl) (he3 : starEach [b] X.env = [(false, eval b X.env)] := by rfl) :
  PE X (.Call (.Name "dict" p) [.Call (.Name "zip" p2) [a, b] [] pos2] [] pos) (tDictZip X.K ta) := by
 intro pins s σ H Q I h
 refine Call_ (ld_blt I hg hm bt_dict (PyProof.Rows.callWith_type1 ?_ he rfl))
 rw [he]
 refine Calls.spliced_cons (Call_ (ld_blt I hg2 hm2 bt_zip (PyProof.Rows.callWith_type1 (thn (ha pos2 pins s σ H _ I h) fun us s1 ⟨vs, H1, I1, r1, q1⟩ => ?_) (by rw [he2, he3]) (by rw [he3]; rfl))))
 obtain ⟨l, t, ns, xs, rfl, hl, ht, hlen, h1000, q⟩ := q1
 obtain ⟨u, v, rfl, ru, rv⟩ := vals2 r1
 cases ru; cases rv
 obtain ⟨its, r2, p2', _⟩ := I1.list hl
 obtain ⟨its2, r3, p3, _⟩ := I1.tuple ht
 obtain ⟨ks, k1, k2, k3⟩ := zip_keyed (P := X.prog) (w := X.w) r2 r3 hlen
 have e1 := r2.length
 have e2 := r3.length
 rw [List.length_map] at e1
 refine thn (call_dict_zip (knd := mixKind X.prog X.w) (ks := ks) (I1.ok.hd hc) p2'.isList (show s1.heap.IsTuple t its2.toArray from p3) (by simp only [List.size_toArray]; omega) (by simpa using k1) (by omega) fun p' h' tk hp keep hD => ?_) fun z s2 hz => Calls.spliced_nil hz
 exact I1.newDict hp keep k2 (by omega) hD (q p' (I1.hok.fresh hp))
noncomputable def PairIn (H : Hp) (kv : Str × V) (u : V) : Prop := ∃ a, u = .ref a ∧ H a = some (.tup [.str kv.1, kv.2])
theorem pairs_keyed (I : Inv X pins σ H s) : ∀ {kvs : List (Str × V)} {us : List V} {its : List Value}, Paired (PairIn H) kvs us → Vals us its → ∃ (vv : List (Value × Value)) (ks : List (Key × Value)),
  (∀ (i : Nat) p, vv[i]? = some p → ∃ T o m, its[i]? = some (.ref T) ∧ s.heap.get? T = some o ∧ o.cls = .type "tuple" ∧ o.data = .seq #[p.1, p.2] m) ∧ vv.length = its.length ∧ Keyed (mixKind X.prog X.w) ks vv ∧ KV (pairK kvs) ks ∧ ks.length = kvs.length := by
 intro kvs us its hp
 induction hp generalizing its with
 | nil =>
  intro hv
  cases hv
  exact ⟨[], [], fun i p e => by simp at e, rfl, .nil, .nil, rfl⟩
 | @cons kv _ _ _ f t ih =>
  intro hv
  cases hv with
  | cons r t2 =>
  obtain ⟨n, x⟩ := kv
  obtain ⟨vv, ks, h1, h2, h3, h4, h5⟩ := ih t2
  obtain ⟨a, rfl, ha⟩ := f
  cases r
  obtain ⟨z, its, rv, o, ho, hc, m, hd, _⟩ := I.hok a _ ha
  obtain ⟨u, v, rfl, ru, rv'⟩ := vals2 rv
  obtain ⟨tk, rfl⟩ := ru
  refine ⟨(.str n tk, v) :: vv, (Sum.inr n, v) :: ks, fun i p e => ?_, by simp [h2], .cons ⟨mixKind_str _ _ n tk, rfl⟩ h3, .cons ⟨rfl, rv'⟩ h4, by simp [h5]⟩
  cases i with
  | zero =>
   simp at e
   subst e
   exact ⟨a, o, m, rfl, ho, hc, hd⟩
  | succ i => exact h1 i p (by simpa using e)
theorem call_dict_of (hc : X.calm = true) : CallR X (.type "dict") (fun vs H Q => ∃ l us kvs, vs = [.ref l] ∧ H l = some (.lst us) ∧ Paired (PairIn H) kvs us ∧ kvs.length ≤ 1000 ∧ ∀ p, H p = none → Q (.ref p) (upd H p (.dK (mergeK [] (pairK kvs))))) := by
 intro pins s σ H vs us Q I r h
 obtain ⟨l, xs, kvs, rfl, hl, hp, h1000, q⟩ := h
 obtain ⟨u, rfl, ru⟩ := vals1 r
 cases ru
 obtain ⟨z, its, n, rv, hlen, e⟩ := I.lstM hl
 obtain ⟨vv, ks, k1, k2, k3, k4, k5⟩ := pairs_keyed I hp rv
 refine call_dict_list (knd := mixKind X.prog X.w) (ks := ks) (kvs := vv) (I.ok.hd hc) e (fun i p ep => ?_) (by simp [k2]) k3 (by omega) fun p h' tk hp' keep hD => I.newDict hp' keep k4 (by omega) hD (q p (I.hok.fresh hp'))
 obtain ⟨T, o, m, a1, a2⟩ := k1 i p ep
 exact ⟨T, o, m, by simpa using a1, a2⟩
end
end L2

namespace FP
open PySem L2

inductive Th where
 | num (n : Int) | box (x : Str) | nul (k : Str) | un (k : Str) (a : Th) | bin (k : Str) (a b : Th)
namespace Th
noncomputable def Op (k : Str) : Prop := k ≠ "box" ∧ k ≠ "number"
noncomputable def Ok : Th → Prop
 | num _ => True
 | box _ => True
 | nul k => Op k
 | un k a => Op k ∧ a.Ok
 | bin k a b => Op k ∧ a.Ok ∧ b.Ok
noncomputable def dep : Th → Nat
 | num _ => 1
 | box _ => 1
 | nul _ => 1
 | un _ a => a.dep + 1
 | bin _ a b => max a.dep b.dep + 1
noncomputable def cnt : Th → Nat
 | num _ => 1
 | box _ => 1
 | nul _ => 1
 | un _ a => a.cnt + 1
 | bin _ a b => a.cnt + b.cnt + 1
noncomputable def names : Th → List Str
 | num _ => []
 | box x => [x]
 | nul _ => []
 | un _ a => a.names
 | bin _ a b => a.names ++ b.names
theorem cnt_pos : ∀ t : Th, 1 ≤ t.cnt
 | num _ => Nat.le_refl _
 | box _ => Nat.le_refl _
 | nul _ => Nat.le_refl _
 | un _ a => by show 1 ≤ a.cnt + 1; omega
 | bin _ a b => by show 1 ≤ a.cnt + b.cnt + 1; omega
theorem names_le : ∀ t : Th, t.names.length ≤ t.cnt
 | num _ => Nat.zero_le _
 | box _ => Nat.le_refl _
 | nul _ => Nat.zero_le _
 | un _ a => by have := names_le a; show a.names.length ≤ a.cnt + 1; omega
 | bin _ a b => by
  have := names_le a
  have := names_le b
  show (a.names ++ b.names).length ≤ a.cnt + b.cnt + 1
  rw [List.length_append]; omega
theorem cnt_le : ∀ t : Th, t.cnt + 1 ≤ 2 ^ t.dep
 | num _ => by show 1 + 1 ≤ 2 ^ 1; decide
 | box _ => by show 1 + 1 ≤ 2 ^ 1; decide
 | nul _ => by show 1 + 1 ≤ 2 ^ 1; decide
 | un _ a => by
  have := cnt_le a
  have := cnt_pos a
  show a.cnt + 1 + 1 ≤ 2 ^ (a.dep + 1)
  rw [Nat.pow_succ]; omega
 | bin _ a b => by
  have ha := cnt_le a
  have hb := cnt_le b
  show a.cnt + b.cnt + 1 + 1 ≤ 2 ^ (max a.dep b.dep + 1)
  have h1 : 2 ^ a.dep ≤ 2 ^ (max a.dep b.dep) := Nat.pow_le_pow_right (by decide) (Nat.le_max_left _ _)
  have h2 : 2 ^ b.dep ≤ 2 ^ (max a.dep b.dep) := Nat.pow_le_pow_right (by decide) (Nat.le_max_right _ _)
  rw [Nat.pow_succ]; omega
theorem cnt_small {t : Th} (h : t.dep ≤ 12) : t.cnt ≤ 4096 := by
 have h1 := cnt_le t
 have h2 : 2 ^ t.dep ≤ 2 ^ 12 := Nat.pow_le_pow_right (by decide) h
 have e : 2 ^ 12 = 4096 := by decide
 omega
theorem dep_pos : ∀ t : Th, 1 ≤ t.dep
 | num _ => Nat.le_refl _
 | box _ => Nat.le_refl _
 | nul _ => Nat.le_refl _
 | un _ a => by show 1 ≤ a.dep + 1; omega
 | bin _ a b => by show 1 ≤ max a.dep b.dep + 1; omega
noncomputable def At (H : Hp) : Th → V → Prop
 | num n, v => ∃ a, v = .ref a ∧ H a = some (.tup [.str "number", .int n])
 | box x, v => ∃ a, v = .ref a ∧ H a = some (.tup [.str "box", .str x])
 | nul k, v => ∃ a, v = .ref a ∧ H a = some (.tup [.str k])
 | un k t, v => ∃ a u, v = .ref a ∧ H a = some (.tup [.str k, u]) ∧ t.At H u
 | bin k t r, v => ∃ a u w, v = .ref a ∧ H a = some (.tup [.str k, u, w]) ∧ t.At H u ∧ r.At H w
noncomputable def _root_.FP.Tups (H H' : Hp) : Prop := ∀ b xs, H b = some (.tup xs) → H' b = some (.tup xs)
theorem At.mono {H H' : Hp} (h : Tups H H') : ∀ {t : Th} {v : V}, t.At H v → t.At H' v
 | num _, _, ⟨a, e, q⟩ => ⟨a, e, h _ _ q⟩
 | box _, _, ⟨a, e, q⟩ => ⟨a, e, h _ _ q⟩
 | nul _, _, ⟨a, e, q⟩ => ⟨a, e, h _ _ q⟩
 | un _ t, _, ⟨a, u, e, q, r⟩ => ⟨a, u, e, h _ _ q, At.mono h r⟩
 | bin _ t r, _, ⟨a, u, w, e, q, r1, r2⟩ => ⟨a, u, w, e, h _ _ q, At.mono h r1, At.mono h r2⟩
end Th
theorem qC {H H' : Hp} (s : Same H H') : Tups H H' := fun b xs h => s b _ h
theorem tups_but {d : Addr} {H H' : Hp} {xs : List V} (s : But d H H') (h : H d = some (.lst xs)) : Tups H H' := fun b ys q => s b _ (ne_of q h (by intro z; cases z)) q
theorem Tups.trans {H H1 H2 : Hp} (a : Tups H H1) (b : Tups H1 H2) : Tups H H2 := fun c xs h => b c xs (a c xs h)

inductive View (H : Hp) (t : Th) (v : V) : Prop
 | box (a : Addr) (x : Str) : t = .box x → v = .ref a → H a = some (.tup [.str "box", .str x]) → View H t v
 | num (a : Addr) (n : Int) : t = .num n → v = .ref a → H a = some (.tup [.str "number", .int n]) → View H t v
 | op (a : Addr) (k : Str) (us : List V) (ts : List Th) : v = .ref a → H a = some (.tup (.str k :: us)) → Th.Op k → us.length = ts.length → us.length ≤ 2 →
   (∀ (i : Nat) u r, us[i]? = some u → ts[i]? = some r → r.At H u ∧ r.Ok ∧ r.dep + 1 ≤ t.dep) → t.names = ts.flatMap Th.names → (ts.map Th.cnt).sum + 1 = t.cnt → View H t v
theorem view {H : Hp} : ∀ {t : Th} {v : V}, t.At H v → t.Ok → View H t v
 | .num n, _, ⟨a, e, q⟩, _ => .num a n rfl e q
 | .box x, _, ⟨a, e, q⟩, _ => .box a x rfl e q
 | .nul k, _, ⟨a, e, q⟩, ok => .op a k [] [] e q ok rfl (by decide) (fun i u r h => by simp at h) rfl rfl
 | .un k t, _, ⟨a, u, e, q, r⟩, ok => by
  refine .op a k [u] [t] e q ok.1 rfl (by show 1 ≤ 2; decide) (fun i u' r' h1 h2 => ?_) (by simp [Th.names]) (by simp [Th.cnt])
  match i, h1, h2 with
  | 0, h1, h2 =>
   cases h1; cases h2
   exact ⟨r, ok.2, Nat.le_refl _⟩
  | i + 1, h1, _ => simp at h1
 | .bin k t s, _, ⟨a, u, w, e, q, r1, r2⟩, ok => by
  refine .op a k [u, w] [t, s] e q ok.1 rfl (by show 2 ≤ 2; decide) (fun i u' r' h1 h2 => ?_) (by simp [Th.names]) (by simp [Th.cnt])
  match i, h1, h2 with
  | 0, h1, h2 =>
   cases h1; cases h2
   exact ⟨r1, ok.2.1, by show t.dep + 1 ≤ max t.dep s.dep + 1; omega⟩
  | 1, h1, h2 =>
   cases h1; cases h2
   exact ⟨r2, ok.2.2, by show s.dep + 1 ≤ max t.dep s.dep + 1; omega⟩
  | i + 2, h1, _ => simp at h1
theorem take_flat {ts : List Th} {i : Nat} {t : Th} (h : ts[i]? = some t) : (ts.take (i + 1)).flatMap Th.names = (ts.take i).flatMap Th.names ++ t.names := by
 rw [List.take_add_one, h, List.flatMap_append]
 simp
theorem take_len {ts : List Th} (i : Nat) : ((ts.take i).flatMap Th.names).length ≤ (ts.flatMap Th.names).length := by
 have e : ts.flatMap Th.names = (ts.take i).flatMap Th.names ++ (ts.drop i).flatMap Th.names := by rw [← List.flatMap_append, List.take_append_drop]
 rw [e, List.length_append]; omega
theorem cut1 (k : V) (us : List V) : cutV (k :: us) (some 1) none = us := by
 unfold cutV
 have e1 : HT.sIx (k :: us).length 0 (some (1 : Int)) = 1 := by
  have := HT.sIx_nat (k :: us).length 0 1
  rw [List.length_cons] at this ⊢
  have e : min 1 (us.length + 1) = 1 := by omega
  rw [e] at this
  exact this
 rw [e1, HT.sIx_none, List.drop_one, List.tail_cons, List.length_cons, Nat.add_sub_cancel, List.take_length]
theorem notwhole (k : V) (us : List V) : ¬ (HT.sIx (k :: us).length 0 (some 1) = 0 ∧ HT.sIx (k :: us).length (k :: us).length none = (k :: us).length) := by
 intro z
 have := HT.sIx_nat (k :: us).length 0 1
 rw [List.length_cons] at this
 have e : min 1 (us.length + 1) = 1 := by omega
 rw [e] at this
 have z1 := z.1
 rw [List.length_cons] at z1
 exact absurd (this.symm.trans z1) (by decide)
theorem small {n : Nat} (h : n ≤ 10000) : n < sizeLine := Nat.lt_of_le_of_lt h (by decide)
theorem smallE {n : Nat} (h : n ≤ 10000) : n ≤ sizeLine := Nat.le_of_lt (small h)
theorem ne_nb : ("number" : Str) ≠ "box" := by decide +kernel
theorem xW {a b : Str} (h : a ≠ b) : decide (V.str a = V.str b) = false := decide_eq_false (by intro z; cases z; exact h rfl)
theorem dec_str_eq (a : Str) : decide (V.str a = V.str a) = true := decide_eq_true rfl

noncomputable abbrev strsV (ws : List Str) : List V := ws.map V.str
theorem xA (ws : List Str) : (strsV ws).length = ws.length := List.length_map _

theorem strsV_app (a b : List Str) : strsV (a ++ b) = strsV a ++ strsV b := List.map_append
theorem strsV_snoc (a : List Str) (x : Str) : strsV (a ++ [x]) = strsV a ++ [.str x] := List.map_append
noncomputable abbrev intsV (ns : List Int) : List V := ns.map V.int
theorem intsV_snoc (a : List Int) (x : Int) : intsV (a ++ [x]) = intsV a ++ [.int x] := List.map_append
theorem intsV_len (ws : List Int) : (intsV ws).length = ws.length := List.length_map _

end FP

namespace L2
open PySem PySem.Spec PyProof.Rows

section
variable {X : Cx} {K : PySem.W.Frag}
theorem qU (hK : X.K = K := by rfl) : IxR X (rIxL K) := by subst hK; exact ix_list
theorem qT (hK : X.K = K := by rfl) : IxR X (rIxT K) := by subst hK; exact ix_tup
theorem sl_listK (hK : X.K = K := by rfl) : SlR X (rSlL K) := by subst hK; exact sl_list
theorem sl_tupK (hK : X.K = K := by rfl) : SlR X (rSlT K) := by subst hK; exact sl_tup
noncomputable def rLen (K : PySem.W.Frag) : List V → Hp → VK → Prop := fun xs H Q => ∃ p ys, xs = [.ref p] ∧ (SqL K H p ys ∨ SqT K H p ys) ∧ Q (.int ys.length) H
theorem call_lenK (hK : X.K = K := by rfl) : CallR X (.builtin "len") (rLen K) := by subst hK; exact call_len_seq
noncomputable def rListOf (K : PySem.W.Frag) : List V → Hp → VK → Prop := fun xs H Q => ∃ p ys, xs = [.ref p] ∧ (SqL K H p ys ∨ SqT K H p ys) ∧ ∀ l, H l = none → Q (.ref l) (upd H l (.lst ys))
theorem call_listK (hK : X.K = K := by rfl) : CallR X (.type "list") (rListOf K) := by subst hK; exact call_list_of
noncomputable def rTupOf (K : PySem.W.Frag) : List V → Hp → VK → Prop := fun xs H Q => ∃ p ys, xs = [.ref p] ∧ SqL K H p ys ∧ ∀ l, H l = none → Q (.ref l) (upd H l (.tup ys))
theorem call_tupleK (hK : X.K = K := by rfl) : CallR X (.type "tuple") (rTupOf K) := by
 subst hK
 intro pins s σ H xs us Q I r h
 obtain ⟨p, ys, e, hs, q⟩ := h
 exact call_tuple_of pins s σ H xs us Q I r ⟨p, ys, e, .inl ⟨hs, q⟩⟩
noncomputable def rIsIn (K : PySem.W.Frag) : List V → Hp → VK → Prop := fun xs H Q => ∃ x T t b, xs = [x, .ty T] ∧ TyOf K H x t ∧ PySem.W.kitOne K t (.type T) = some b ∧ Q (.bl b) H
theorem call_isinstK (hK : X.K = K := by rfl) : CallR X (.builtin "isinstance") (rIsIn K) := by subst hK; exact call_isinst
theorem op_inK (hK : X.K = K := by rfl) : OpR X (compareOp .In) (rIn K false) := by subst hK; exact op_in_seq
theorem op_notInK (hK : X.K = K := by rfl) : OpR X (compareOp .NotIn) (rIn K true) := by subst hK; exact op_notIn_seq
noncomputable def rNeE (K : PySem.W.Frag) : R2 := fun x y H Q => ∃ a b xs, x = .ref a ∧ y = .ref b ∧ SqL K H a xs ∧ SqL K H b [] ∧ Q (.bl (!xs.isEmpty)) H
theorem op_neEK (hu : X.A.units + 64 < cLine) (hK : X.K = K := by rfl) : OpR X (compareOp .NotEq) (rNeE K) := by subst hK; exact op_neE hu
noncomputable def rEqE (K : PySem.W.Frag) : R2 := fun x y H Q => ∃ a b xs, x = .ref a ∧ y = .ref b ∧ SqL K H a xs ∧ SqL K H b [] ∧ Q (.bl xs.isEmpty) H
theorem op_eqEK (hu : X.A.units + 64 < cLine) (hK : X.K = K := by rfl) : OpR X (compareOp .Eq) (rEqE K) := by
 subst hK
 intro pins s σ H x y v u Q I rx ry h
 obtain ⟨a, b, xs, rfl, rfl, ha, hb, q⟩ := h
 cases xs with
 | nil => exact op_eqL hu pins s σ H _ _ v u Q I rx ry ⟨0, a, b, [], [], by omega, rfl, rfl, ha, hb, rfl, fun j x y e => by simp at e, q⟩
 | cons z zs =>
  cases rx; cases ry
  obtain ⟨its, r1, p1, _⟩ := I.list ha
  obtain ⟨its2, r2, p2, _⟩ := I.list hb
  have l1 := r1.length
  have l2 := r2.length
  refine SeqAt.RcAt.lists_lengths p1.isList p2.isList ?_ (by omega) _ _ _ _ ⟨.bl false, H, I, rfl, q⟩
  simp only [List.length_cons, List.length_nil] at l1 l2
  rw [bne_iff_ne, List.size_toArray, List.size_toArray]
  omega
noncomputable def rEqT (K : PySem.W.Frag) : R2 := fun x y H Q => ∃ n a b xs ys, n ≤ 60 ∧ x = .ref a ∧ y = .ref b ∧ SqT K H a xs ∧ SqT K H b ys ∧ xs.length = ys.length ∧ (∀ (j : Nat) x y, xs[j]? = some x → ys[j]? = some y → DEq K H n x y) ∧ Q (.bl true) H
theorem op_eqTK (hu : X.A.units + 64 < cLine) (hK : X.K = K := by rfl) : OpR X (compareOp .Eq) (rEqT K) := by subst hK; exact op_eqT hu
variable {tg l o e : Expr} {es : List Expr} {tl to : TE} {t : TA} {name : Str} {pos apos cpos : Pos} {T id : String} {r : V → List V → Hp → VK → Prop}
theorem xQ (hl : PE X l tl) (hK : X.K = K := by rfl) : PI X tg l (iList K tl) := by subst hK; exact pi_list hl
theorem pi_tupK (hl : PE X l tl) (hK : X.K = K := by rfl) : PI X tg l (iTup K tl) := by subst hK; exact pi_tup hl
theorem pg_tupK {es : List Expr} {k : Nat} {t : TGs} {n : Nat} (hc : X.calm = true) (h : PGs X es t)
  (hn : (assignEach es X.env).length = n := by rfl) (hst : (assignEach es X.env).findIdx? (·.1) = none := by rfl) (hK : X.K = K := by rfl) : PG X (.Tuple es k pos) (gTup K n t) := by subst hK; exact pg_tup hc h hn hst
theorem pe_bm0K (pa : PlainAttrs T) (slot : Slot T name id) (hty : typeOf (.builtin id) = pure (.type "method_descriptor")) (hm : MtR X id r) (ho : PE X o to)
  (hbase : attributeBase o name X.env (eval o X.env) = eval o X.env := by rfl) (hline : (apos.endLine == cpos.line) = true := by rfl) (hK : X.K = K := by rfl) : PE X (.Call (.Attribute o name apos) [] [] cpos) (tBM0 K T r to) := by
 subst hK; exact pe_bm0 pa slot hty hm ho hbase hline
theorem pe_bmK (pa : PlainAttrs T) (slot : Slot T name id) (hty : typeOf (.builtin id) = pure (.type "method_descriptor")) (hm : MtR X id r) (ho : PE X o to) (ha : PA X (e :: es) t)
  (hbase : attributeBase o name X.env (eval o X.env) = eval o X.env := by rfl)
  (hfew : ((backTo cpos (starEach (e :: es) X.env)).all (fun x => !x.1) && (backToKw cpos (keywordEach [] X.env)).all (fun x => x.1.isSome)
   && decide ((e :: es).length + ([] : List Keyword).length + (if ([] : List Keyword).isEmpty then 0 else 1) < 30)) = true := by rfl)
  (hline : (apos.endLine == cpos.line) = true := by rfl) (hs : starEach (e :: es) X.env = (false, eval e X.env) :: starEach es X.env := by rfl) (hplain : (backTo cpos (starEach es X.env)).any (·.1) = false := by rfl) (hK : X.K = K := by rfl) :
  PE X (.Call (.Attribute o name apos) (e :: es) [] cpos) (tBM K T r to t) := by
 subst hK; exact pe_bm pa slot hty hm ho ha hbase hfew hline hs hplain
end

structure Dn (P : Program) (w : World) (K : PySem.W.Frag) (mg : Str → Option Value) (base : Heap) (x : Str) (k : Nat) (ps : List Str) (sp : Sp) : Prop where
 ex : ∃ f fd, FnOk P w K mg base CX0 k f fd ps sp ∧ mg x = some (.ref f) ∧ PySem.W.keepIn K (.ref f) = true ∧ Binds K fd ps []
section
variable {P : Program} {w : World} {K : PySem.W.Frag} {mg : Str → Option Value} {base : Heap} {x : Str} {j k : Nat} {ps : List Str} {sp sp' : Sp}
end
section
variable {X : Cx} {P : Program} {w : World} {K : PySem.W.Frag} {mg : Str → Option Value} {base : Heap} {j k : Nat} {ps : List Str} {sp : Sp} {x : Str} {p pos : Pos} {e : Expr} {es : List Expr} {t : TA}
theorem qD (D : Dn P w K mg base x j ps sp) (hr : Room k X.A) (ha : PA X (e :: es) t) (hjk : j ≤ k := by first | decide | omega) (hg : Gl X x := by rfl)
  (h1 : X.prog = P := by rfl) (h2 : X.w = w := by rfl) (h3 : X.K = K := by rfl) (h4 : X.mg = mg := by rfl) (h5 : X.base = base := by rfl)
  (hdb : (x == ("__debug__" : Str)) = false := by decide) (he : starEach (e :: es) X.env = (false, eval e X.env) :: starEach es X.env := by rfl) (hpl : (backTo pos (starEach es X.env)).any (·.1) = false := by rfl) :
  PE X (.Call (.Name x p) (e :: es) [] pos) (tCall sp [] E0 t) := by
 subst h1 h2 h3 h4 h5
 obtain ⟨f, fd, F, a, b, c⟩ := D.ex
 exact pe_call (F.mono hjk) hr hg a b c .nil pass0 ha hdb he hpl
end

noncomputable def kidsE : Expr → List Expr
 | .BoolOp _ vs _ => vs
 | .BinOp l _ r _ => [l, r]
 | .UnaryOp _ a _ => [a]
 | .IfExp a b c _ => [a, b, c]
 | .ListComp e gs _ _ => e :: gs.flatMap fun g => g.iter :: g.ifs
 | .Compare l _ cs _ => l :: cs
 | .Call f as _ _ => f :: as
 | .Attribute v _ _ => [v]
 | .Subscript a b _ => [a, b]
 | .List es _ => es
 | .Tuple es _ _ => es
 | .Slice a b c _ => a.toList ++ b.toList ++ c.toList
 | _ => []
noncomputable def downE (e : Expr) : List Nat → Expr
 | [] => e
 | i :: p => downE ((kidsE e).getD i (.Constant .none 0 ⟨0, 0, 0, 0⟩)) p
noncomputable def exprS : Stmt → Expr
 | .Assign _ v _ => v
 | .Return (some v) _ => v
 | .Expr v _ => v
 | .If t _ _ _ => t
 | .While t _ _ _ => t
 | .For _ it _ _ _ => it
 | _ => .Constant .none 0 ⟨0, 0, 0, 0⟩
noncomputable def blockS : Stmt → List Stmt
 | .If _ a b _ => a ++ b
 | .For _ _ b _ _ => b
 | .While _ b _ _ => b
 | _ => []
noncomputable def stmtAt (body : List Stmt) : List Nat → Stmt
 | [] => .Pass ⟨0, 0, 0, 0⟩
 | [i] => body.getD i (.Pass ⟨0, 0, 0, 0⟩)
 | i :: j :: p => stmtAt (blockS (body.getD i (.Pass ⟨0, 0, 0, 0⟩))) (j :: p)
noncomputable abbrev scAt (body : List Stmt) (p q : List Nat) : Scope := scopeOf (downE (exprS (stmtAt body p)) q)
noncomputable def tCut (t u : TS) : TS := fun D σ H => ∃ Pv : St → Hp → Prop, t { D with nx := Pv } σ H ∧ ∀ σ' H', Pv σ' H' → u D σ' H'
theorem qK {X : Cx} {st : Stmt} {rest : List Stmt} {t u : TS} (h1 : PS X st t) (h2 : PSs X rest u) : PSs X (st :: rest) (tCut t u) := by
 intro pins s σ H D I h
 obtain ⟨Pv, q1, q2⟩ := h
 refine wpAny_execs_cons (thn (h1 pins s σ H { D with nx := Pv } I q1) fun f s1 q => ?_)
 cases f with
 | next =>
  obtain ⟨σ', H', I', q⟩ := q
  exact h2 pins s1 σ' H' D I' (q2 σ' H' q)
 | ret v => exact q
 | brk => exact q
 | cont => exact q

section
variable {σ : St} {H : Hp} {Q : VK} {R : Bool → Hp → Prop} {S : St → Hp → Prop} {L : List V → Hp → Prop} {O : Option Int → Hp → Prop} {D : Ends} {ta tb tc : TE} {t u : TT} {a b : TS} {x y v : V} {i j : Int} {c : Bool} {K : PySem.W.Frag}
theorem w_var {k : Nat} (h : σ[k]? = some (some v)) (q : Q v H) : tVar k σ H Q := ⟨v, h, q⟩
theorem w_c (q : Q v H) : tC v σ H Q := q
theorem w_op {r : R2} (q : ta σ H fun x H1 => tb σ H1 fun y H2 => r x y H2 Q) : tOp r ta tb σ H Q := q
theorem w_un {r : V → Hp → VK → Prop} (q : ta σ H fun x H1 => r x H1 Q) : tUn r ta σ H Q := q
theorem w_I0 {g : Int → Int → V} (q : Q (g i j) H) : rI0 g (.int i) (.int j) H Q := ⟨i, j, rfl, rfl, q⟩
theorem w_I {C : Int → Int → Prop} {g : Int → Int → V} (h : C i j) (q : Q (g i j) H) : rI C g (.int i) (.int j) H Q := ⟨i, j, rfl, rfl, h, q⟩
theorem w_U {g : Int → V} (q : Q (g i) H) : rU g (.int i) H Q := ⟨i, rfl, q⟩
theorem w_eq (h : scal x y = true) (q : Q (.bl (decide (x = y))) H) : rEq x y H Q := ⟨h, q⟩
theorem w_ne (h : scal x y = true) (q : Q (.bl (!decide (x = y))) H) : rNe x y H Q := ⟨h, q⟩
theorem w_ixL {p : Addr} {xs : List V} (h : SqL K H p xs) (e : atI xs i = some v) (q : Q v H) : rIxL K (.ref p) (.int i) H Q := ⟨p, xs, i, v, rfl, rfl, h, e, q⟩
theorem w_ixT {p : Addr} {xs : List V} (h : SqT K H p xs) (e : atI xs i = some v) (q : Q v H) : rIxT K (.ref p) (.int i) H Q := ⟨p, xs, i, v, rfl, rfl, h, e, q⟩
theorem w_test (q : ta σ H fun x H' => ∃ k, x = .bl k ∧ R k H') : tTest ta σ H R := q
theorem w_B (q : ta σ H fun x H' => ∃ k, x = .bl k ∧ R k H') : tB ta σ H R := q
theorem w_bl {F : Bool → Prop} (q : F c) : ∃ k, V.bl c = .bl k ∧ F k := ⟨c, rfl, q⟩
theorem w_not (q : t σ H fun c H1 => R (!c) H1) : tNot t σ H R := q
theorem w_and (q : t σ H fun c H1 => if c = true then u σ H1 R else R false H1) : tAnd t u σ H R := q
theorem w_or (q : t σ H fun c H1 => if c = true then R true H1 else u σ H1 R) : tOr t u σ H R := q
theorem w_andV (q : ta σ H fun x H1 => ∃ c, x = .bl c ∧ if c = true then tb σ H1 Q else Q (.bl false) H1) : tAndV ta tb σ H Q := q
theorem w_notV (q : ta σ H fun x H1 => ∃ c, x = .bl c ∧ Q (.bl (!c)) H1) : tNotV ta σ H Q := q
theorem w_if (q : t σ H fun c H1 => if c = true then ta σ H1 Q else tb σ H1 Q) : tIf t ta tb σ H Q := q
theorem w_next (q : D.nx σ H) : tNext D σ H := q
theorem w_seq (q : a { D with nx := b D } σ H) : tSeq a b D σ H := q
theorem w_drop (q : ta σ H fun _ H1 => D.nx σ H1) : tDrop ta D σ H := q
theorem w_ret (q : ta σ H D.rt) : tRet ta D σ H := q
theorem w_ifS (q : t σ H fun c H1 => if c = true then a D σ H1 else b D σ H1) : tIfS t a b D σ H := q
theorem w_asg {g : TG} (q : ta σ H fun x H1 => g x σ H1 D.nx) : tAsg ta g D σ H := q
theorem w_name {k : Nat} (q : S (σ.set k (some v)) H) : gName k v σ H S := q
theorem w_gnil (q : S σ H) : gNil [] σ H S := ⟨rfl, q⟩
theorem w_gcons {g : TG} {gs : TGs} {vs : List V} (q : g v σ H fun σ' H' => gs vs σ' H' S) : gCons g gs (v :: vs) σ H S := ⟨v, vs, rfl, q⟩
theorem w_gtup {n : Nat} {gs : TGs} {p : Addr} {xs : List V} (h : SqT K H p xs) (e : xs.length = n) (q : gs xs σ H S) : gTup K n gs (.ref p) σ H S := ⟨p, xs, rfl, h, e, q⟩
theorem w_nil (q : L [] H) : tNil σ H L := q
theorem w_cons {ts : TA} (q : ta σ H fun x H1 => ts σ H1 fun xs H2 => L (x :: xs) H2) : tCons ta ts σ H L := q
theorem w_tup {ts : TA} (q : ts σ H fun xs H1 => xs.length ≤ sizeLine ∧ ∀ p, H1 p = none → Q (.ref p) (upd H1 p (.tup xs))) : tTup ts σ H Q := q
theorem w_lst {ts : TA} (q : ts σ H fun xs H1 => xs.length ≤ sizeLine ∧ ∀ p, H1 p = none → Q (.ref p) (upd H1 p (.lst xs))) : tLst ts σ H Q := q
theorem w_call {sp : Sp} {dvs : List V} {E : XK} {ts : TA} (q : ts σ H fun vs H1 => sp (vs ++ dvs) H1 Q E) : tCall sp dvs E ts σ H Q := q
theorem w_cb {r : List V → Hp → VK → Prop} {ts : TA} (q : ts σ H fun vs H1 => r vs H1 Q) : tCB r ts σ H Q := q
theorem w_bm {T : String} {r : V → List V → Hp → VK → Prop} {ts : TA} (q : ta σ H fun x H1 => tyV K T x H1 ∧ ts σ H1 fun xs H2 => r x xs H2 Q) : tBM K T r ta ts σ H Q := q
theorem w_noPart (q : O none H) : tNoPart σ H O := q
theorem w_part (q : ta σ H fun x H1 => ∃ i, x = .int i ∧ O (some i) H1) : tPart ta σ H O := q
theorem w_exI {F : Int → Prop} (q : F i) : ∃ k, V.int i = .int k ∧ F k := ⟨i, rfl, q⟩
theorem w_sl {r : V → Option Int → Option Int → Hp → VK → Prop} {tl th : TO} (q : ta σ H fun x H1 => tl σ H1 fun l H2 => th σ H2 fun u H3 => r x l u H3 Q) : tSl r ta tl th σ H Q := q
theorem w_len {p : Addr} {xs : List V} (h : SqL K H p xs ∨ SqT K H p xs) (q : Q (.int xs.length) H) : rLen K [.ref p] H Q := ⟨p, xs, rfl, h, q⟩
theorem w_dget {td ty : TE} (q : td σ H fun x H1 => ty σ H1 fun y H2 => ∃ a v, x = .ref a ∧ DGet H2 a y (some v) ∧ Q v H2) : tDGet td ty σ H Q := q
theorem w_dput {td ty tv : TE} (q : tv σ H fun v H1 => td σ H1 fun x H2 => ty σ H2 fun y H3 => ∃ a H4, x = .ref a ∧ DPut H3 a y v H4 ∧ D.nx σ H4) : sDPut td ty tv D σ H := q
theorem w_iList {W : It → Hp → Prop} (q : ta σ H fun x H1 => ∃ a, x = .ref a ∧ (∃ xs, SqL K H1 a xs) ∧ W (Itl K a) H1) : iList K ta σ H W := q
theorem w_rng1 {W : It → Hp → Prop} {ts : TA} (q : ts σ H fun vs H1 => ∃ j : Int, vs = [.int j] ∧ -(2 ^ 62) ≤ j ∧ j < 2 ^ 62 ∧ W (Itr 0 j.toNat) H1) : iRng1 ts σ H W := q
theorem w_true {A B : Prop} (h : c = true) (q : A) : if c = true then A else B := by rw [if_pos h]; exact q
theorem w_false {A B : Prop} (h : c = false) (q : B) : if c = true then A else B := by rw [h]; exact iteF q
noncomputable def forK (g : TG) (tb : TS) (D : Ends) (σ : St) : It → Hp → Prop := fun J H1 => ∃ W : Nat → Nat → St → Hp → Prop, (∃ m, W 0 m σ H1) ∧ ∀ i m σ H, W i m σ H →
 (J.stop i H ∧ D.nx σ H) ∨ (J.go i H ∧ ∃ N : St → Hp → Prop, (∀ σ' H', N σ' H' → ∃ m', m' < m ∧ W (i + 1) m' σ' H') ∧ ∀ x H', J.yld i H x H' → g x σ H' fun σ2 H2 => tb { D with nx := N, ct := N, bk := D.nx } σ2 H2)
theorem w_for {wi : TI} {g : TG} (q : wi σ H (forK g a D σ)) : tFor wi g a D σ H := q
theorem w_comp {k : Nat} {js : List Nat} {wi : TI} {g : TG} (q : wi σ H fun J H1 => rdC k js g t ta J σ H1 Q) : tComp k js wi g t ta σ H Q := q
theorem iteNT {A B : Prop} (q : B) : if (!true) = true then A else B := iteF q
theorem kit_of {T : String} : PySem.W.kitOne K (.type T) (.type T) = some true := by simp [PySem.W.kitOne]
end
theorem Same.tup {K : PySem.W.Frag} {H H' : Hp} {a : Addr} {xs : List V} (e : Same H H') (h : SqT K H a xs) : SqT K H' a xs := by
 rcases h with (h | ⟨o, h⟩) | h
 ·exact .inl (.inl (e _ _ h))
 ·exact .inl (.inr ⟨o, e _ _ h⟩)
 ·exact .inr h

noncomputable def eqAll (xs ys : List V) : Bool := xs.length == ys.length && (List.range xs.length).all fun j => eqV (xs.getD j .non) (ys.getD j .non)
noncomputable def rEqF (K : PySem.W.Frag) (neg : Bool) : R2 := fun x y H Q => ∃ a b xs ys, x = .ref a ∧ y = .ref b ∧ SqL K H a xs ∧ SqL K H b ys ∧ xs.all flatV = true ∧ ys.all flatV = true ∧ xs.length = ys.length ∧ Q (.bl (if neg then !eqAll xs ys else eqAll xs ys)) H
section
variable {X : Cx} {K : PySem.W.Frag}
theorem op_eqFK (hu : X.A.units + 64 < cLine) (hK : X.K = K := by rfl) : OpR X (compareOp .Eq) (rEqF K false) := by
 subst hK
 intro pins s σ H x y v u Q I rx ry h
 obtain ⟨a, b, xs, ys, rfl, rfl, ha, hb, fx, fy, hl, q⟩ := h
 cases rx; cases ry
 obtain ⟨its, r1, p1, _⟩ := I.list ha
 obtain ⟨its2, r2, p2, _⟩ := I.list hb
 have l1 := r1.length
 have l2 := r2.length
 have sz : its.toArray.size = its2.toArray.size := by rw [List.size_toArray, List.size_toArray, ← l1, ← l2, hl]
 refine SeqAt.RcAt.lists (e := fun j => eqV (xs.getD j .non) (ys.getD j .non)) p1.isList p2.isList sz (by omega) (fun j h1 h2 => ?_) _ _ _ _ ?_
 ·have h1' : j < xs.length := by rw [l1]; simpa using h1
  have h2' : j < ys.length := by rw [← hl]; exact h1'
  obtain ⟨u1, e1, q1⟩ := r1.get (List.getElem?_eq_getElem h1')
  obtain ⟨u2, e2, q2⟩ := r2.get (List.getElem?_eq_getElem h2')
  have g1 : its.toArray[j] = u1 := by
   have : its[j]? = some its.toArray[j] := by simp
   exact Option.some.inj (this.symm.trans e1)
  have g2 : its2.toArray[j] = u2 := by
   have : its2[j]? = some its2.toArray[j] := by simp
   exact Option.some.inj (this.symm.trans e2)
  have d1 : xs.getD j .non = xs[j] := by rw [List.getD_eq_getElem?_getD, List.getElem?_eq_getElem h1']; rfl
  have d2 : ys.getD j .non = ys[j] := by rw [List.getD_eq_getElem?_getD, List.getElem?_eq_getElem h2']; rfl
  rw [g1, g2]
  show SeqAt.EqAt _ _ _ _ (eqV (xs.getD j .non) (ys.getD j .non))
  rw [d1, d2]
  exact eqAt_V q1 q2 (List.all_eq_true.mp fx _ (List.getElem_mem h1')) (List.all_eq_true.mp fy _ (List.getElem_mem h2'))
 ·have e : eqAll xs ys = (List.range its.toArray.size).all fun j => eqV (xs.getD j .non) (ys.getD j .non) := by
   unfold eqAll
   rw [hl, beq_self_eq_true, Bool.true_and, List.size_toArray, ← l1, hl]
  rw [← e]
  exact ⟨.bl _, H, I, rfl, q⟩
end

structure Fd (K : PySem.W.Frag) (mg : Str → Option Value) (x : Str) (st : Stmt) (ps : List Str) : Prop where
 ex : ∃ f fd, Fun K x x st f fd ∧ mg x = some (.ref f) ∧ PySem.W.keepIn K (.ref f) = true ∧ Binds K fd ps []
section
variable {P : Program} {w : World} {K : PySem.W.Frag} {mg : Str → Option Value} {base : Heap} {x : Str} {st : Stmt} {k : Nat} {N ps : List Str} {sp : Sp}
theorem Fd.ok (F : Fd K mg x st ps) (S : FnScope N ps (xB st)) (len : ∀ vs H Q E, sp vs H Q E → vs.length = ps.length)
  (hbody : ∀ (f : Addr) (cdv : Value) (A : Around) (outer : List Env) (s : Shared) (H : Hp) (vs : List V) (Q : VK) (E : XK), Room k (A.deeper (envOfC x (xB st) s.heap.objs.size f cdv)) → sp vs H Q E →
   ∃ t, PSs (cxOf CX0 P w K mg base N x (xB st) f cdv A outer s H E).nox (xC st) t ∧ t { nx := fun _ H' => Q .non H', rt := Q } (start N vs) H) : Dn P w K mg base x (k + 1) ps sp :=
 let ⟨f, fd, F, a, b, c⟩ := F.ex
 ⟨f, fd, F.ok S len (hbody f), a, b, c⟩
theorem Fd.never (F : Fd K mg x st ps) (no : ∀ vs H Q E, ¬ sp vs H Q E) : Dn P w K mg base x k ps sp :=
 let ⟨f, fd, F, a, b, c⟩ := F.ex
 ⟨f, fd, ⟨fun vs H Q E h => absurd h (no vs H Q E), fun A outer s H args us vs Q E _ _ _ _ h => absurd h (no vs H Q E)⟩, a, b, c⟩
end
end L2

namespace PySem
section
variable {prog : Program} {w : World} {κ : Type} [DecidableEq κ] {knd : KeyKind prog w κ}
theorem setOf_by {h : Heap} {a : Addr} {S S' : κ → Bool} {n n' : Nat} (x : h.SetOf knd a S n) (e : ∀ k, S k = S' k) (en : n = n') : h.SetOf knd a S' n' := by
 obtain rfl : S = S' := funext e
 subst en
 exact x
noncomputable def metBy (key : Nat → κ) (i : Nat) (x : κ) : Bool := (List.range i).any fun j => decide (key j = x)
theorem metBy_succ (key : Nat → κ) (i : Nat) (x : κ) : metBy key (i + 1) x = (metBy key i x || decide (x = key i)) := by
 unfold metBy
 rw [List.range_succ, List.any_append]
 congr 1
 simp only [List.any_cons, List.any_nil, Bool.or_false]
 exact decide_eq_decide.mpr ⟨Eq.symm, Eq.symm⟩
theorem metBy_new {key : Nat → κ} {n i : Nat} (hd : ∀ a b, a < n → b < n → key a = key b → a = b) (hi : i < n) : metBy key i (key i) = false := by
 unfold metBy
 refine Bool.eq_false_iff.mpr fun z => ?_
 obtain ⟨j, hj, e⟩ := List.any_eq_true.mp z
 have hj' := List.mem_range.mp hj
 have := hd j i (by omega) hi (of_decide_eq_true e)
 omega
variable {A : Around} {R : Result → Shared → Prop} {I : Addr} {fp wr : List Addr} {G : Array GenState → Array GenState → Prop} {n : Nat} {P : Nat → Value → Prop} {St : Nat → Shared → Prop}
theorem set_fill (W : WalksS prog w A.in1 I fp wr G n P St) (T : Addr) (hT : T ∉ fp) (key : Nat → κ) (hkey : ∀ i v, P i v → knd.is (key i) v = true ∧ v.scannable = true) (hd : ∀ a b, a < n → b < n → key a = key b → a = b) (hb : n + 1 < scanBound) :
  ∀ (k i : Nat) (s : Shared), n - i = k → i ≤ n → St i s → s.heap.SetOf knd T (metBy key i) i → (∀ s', Moved (T :: wr) G s s' → s'.heap.SetOf knd T (metBy key n) n → R (.ok (.ret .none)) s') →
   codeAny (model prog w) A (.builtin "set.update.loop" ⟨[.ref T, .ref I], []⟩) R s := by
 have hTw : T ∉ wr := fun z => hT (W.sub _ z)
 have up : ∀ b ∈ wr, b ∈ T :: wr := fun b z => List.mem_cons_of_mem _ z
 have carry : ∀ {s s' : Shared} {S : κ → Bool} {m : Nat}, Moved wr G s s' → s.heap.SetOf knd T S m → s'.heap.SetOf knd T S m := fun mv ⟨o, es, ep, t, e, r⟩ => ⟨o, es, ep, t, mv.heap T _ hTw e, r⟩
 intro k
 induction k with
 | zero =>
  intro i s hk hi st hS hR
  obtain rfl : i = n := by omega
  refine codeAny_builtin PyProof.Rows.F.entry_set_update_loop ?_
  rw [Around.under_plainId PyProof.Rows.F.plain_set_update_loop _]
  refine wpAny_bind (m := pyNext (.ref I)) (W.done s _ _ st fun s' mv => ?_)
  exact wpAny_pure (hR s' (mv.mono up) (carry mv hS))
 | succ k ih =>
  intro i s hk hi st hS hR
  have lt : i < n := by omega
  refine codeAny_builtin PyProof.Rows.F.entry_set_update_loop ?_
  rw [Around.under_plainId PyProof.Rows.F.plain_set_update_loop _]
  refine wpAny_bind (m := pyNext (.ref I)) (W.item i s _ _ lt st fun v s' hP st' mv => ?_)
  obtain ⟨hv, sc⟩ := hkey i v hP
  have hS1 := carry mv hS
  refine wpAny_bind (m := holding [v] (setAdd T v)) (wpAny_holding ?_)
  unfold setAdd
  refine wpAny_holding (wpAny_bind (knd.pyHash (k := key i) hv ?_))
  refine wpAny_setAddHashed_of (knd := knd) (s := { s' with toks := s'.toks + 1 }) hv sc hS1 (by omega) fun h' sb hS2 => ?_
  have hS3 : h'.SetOf knd T (metBy key (i + 1)) (i + 1) := by
   refine setOf_by hS2 (fun x => (metBy_succ key i x).symm) ?_
   rw [metBy_new hd lt]
   rfl
  refine wpAny_pure ⟨plainId_quiet PyProof.Rows.F.plain_set_update_loop _, ih (i + 1) _ (by omega) lt (W.frame _ s' _ _ st' (Nat.le_succ _) fun b hb' o e => ?_) hS3 fun s'' mv2 hS4 => ?_⟩
  ·rw [sb.2 b (fun z => hT (z ▸ hb'))]; exact e
  ·refine hR s'' (Moved.trans W.gtrans ((mv.mono up).then_heap (Nat.le_succ _) fun b o hb' e => ?_) mv2) hS4
   rw [sb.2 b (fun z => hb' (z ▸ List.mem_cons_self))]; exact e
end
section
variable {prog : Program} {w : World} {κ : Type} [DecidableEq κ] {knd : KeyKind prog w κ} {A : Around} {E : Value → Shared → Prop} {s : Shared}
noncomputable abbrev setObj (led : Bool) : Obj := { cls := .type "set", dict := none, data := .set #[] 0 (.fresh 0 0 led) }
theorem call_set_keys {l : Addr} {items : Array Value} {key : Nat → κ} {Q : Value → Shared → Prop} (hh : A.handled = none) (hl : s.heap.IsList l items) (hkey : ∀ (i : Nat) v, items[i]? = some v → knd.is (key i) v = true ∧ v.scannable = true)
  (hd : ∀ a b, a < items.size → b < items.size → key a = key b → a = b) (hb : items.size + 1 < scanBound)
  (fin : ∀ (h' : Heap) (tk : Nat), h'.SetOf knd s.heap.objs.size (metBy key items.size) items.size → (∀ b o, s.heap.get? b = some o → h'.get? b = some o) → Q (.ref s.heap.objs.size) { s with heap := h', toks := tk }) :
  wpAny (model prog w) A (call (.type "set") [.ref l]) Q E s := by
 obtain ⟨c0, tl0, m0⟩ := F.called_set.mro
 have m1 := F.called_set.made
 have m2 := F.called_set.sub
 refine wpAny_call (codeAny_of_tree ?_)
 show wpAny _ _ (callAny (.type "set") _) _ _ _
 refine wpAny_pure ⟨Code.quiet_builtin _ (by decide +kernel), codeAny_builtin F.entry_type_call ?_⟩
 rw [Around.under_plain (weight_type_call_type "set" [.ref l] []) rfl]
 have m3 := F.called_set.notType
 have m4 := F.called_set.canCreate
 have m5 := F.typeCall_set_1 (.ref l)
 repeat (any_goals (first | assumption | wp_step))
 refine codeAny_mono (code_set_new_1 (.ref l) (E := E) (Q₁ := fun obj s₁ => ∃ led : Bool, obj = .ref s.heap.objs.size ∧ s₁ = { s with heap := s.heap.push (setObj led) }) fun led => ⟨led, rfl, rfl⟩) fun r s₁ hr => ?_
 cases r with
 | error e => exact hr
 | ok fl =>
 cases fl with
 | ret obj =>
  obtain ⟨led, rfl, rfl⟩ := hr
  have at0 : (s.heap.push (setObj led)).get? s.heap.objs.size = some (setObj led) := Heap.get?_push_size _ rfl
  have ty0 : Shared.TypeIs { s with heap := s.heap.push (setObj led) } (.ref s.heap.objs.size) "set" := ⟨_, at0, rfl⟩
  have m6 := F.called_set.init.lookup
  have m7 := F.called_set.init.bind (.ref s.heap.objs.size)
  repeat (any_goals (first | assumption | wp_step))
  refine codeAny_mono (codeAny_call_builtin (R := wants (fun r s₂ => r = .none ∧ ∃ h' tk, s₂ = { s with heap := h', toks := tk } ∧ h'.SetOf knd s.heap.objs.size (metBy key items.size) items.size ∧ (∀ b o, s.heap.get? b = some o → h'.get? b = some o)) E)
   F.called_set.init.plain F.entry_set_init (check_set_init_1 ty0 ?_)) fun r₂ s₂ hr₂ => ?_
  ·obtain ⟨⟨oc, od, oda, osl⟩, g, kc, nl, kd⟩ := hl
   simp only at kc kd
   subst kc kd
   have g1 : (s.heap.push (setObj led)).get? l = some { cls := .type "list", dict := od, data := .seq items nl, slots := osl } := Heap.get?_push_of_some _ g
   have n1 := F.sub_list_set
   have n2 := F.sub_list_frozenset
   have n3 : (Value.type "list" == Value.type "dict") = false := by decide
   have l1 : (s.heap.push (setObj led)).IsList l items := ⟨_, g1, rfl, nl, rfl⟩
   unfold Builtin.«set.__init__» noKeywords Builtin.Frozenset.updateFrom
   generalize hPI : pyIter = PI
   wp_walk
   subst hPI
   refine wpAny_pyIter_list l1 (wpAny_bind (wpAny_runValue ?_))
   have lt : l < s.heap.objs.size := Heap.lt_size g
   have sz : (s.heap.push (setObj led)).objs.size = s.heap.objs.size + 1 := Heap.size_push _ _
   have ne1 : l ≠ (s.heap.push (setObj led)).objs.size := by rw [sz]; exact Nat.ne_of_lt (Nat.lt_succ_of_lt lt)
   have out : s.heap.objs.size ∉ [(s.heap.push (setObj led)).objs.size, l] := by
    rw [sz]
    intro z
    simp only [List.mem_cons, List.not_mem_nil, or_false] at z
    rcases z with z | z
    ·exact absurd z (Nat.ne_of_lt (Nat.lt_succ_self _))
    ·exact absurd z (Nat.ne_of_gt lt)
   refine set_fill ((Walks.list (by simp [hh]) _ l ne1 items).toS) s.heap.objs.size out key hkey hd hb (items.size - 0) 0 _ (by omega) (Nat.zero_le _) ⟨⟨_, Heap.get?_push_size _ rfl, rfl, rfl⟩, (l1.push _)⟩ ?start ?done
   case start =>
    refine setOf_by ((PyProof.Rows.setObjOf_fresh (knd := knd) led).setOf (Heap.get?_push_of_some _ at0) (by unfold scanBound; omega)) (fun _ => rfl) rfl
   case done =>
    intro s' mv hS'
    obtain ⟨h', g', d', tk', os'⟩ := s'
    obtain rfl : g' = s.gens := mv.gens
    obtain rfl : d' = s.drawn := mv.drawn
    obtain rfl : os' = s.os := mv.os
    refine wpAny_pure ?_
    refine wpAny_pure ⟨rfl, h', tk', rfl, hS', fun b o e => ?_⟩
    have lb := Heap.lt_size e
    refine mv.heap b o (fun z => ?_) (Heap.get?_push_of_some _ (Heap.get?_push_of_some _ e))
    simp only [List.mem_cons, List.not_mem_nil, or_false] at z
    rcases z with z | z
    ·exact absurd z (Nat.ne_of_lt lb)
    ·exact absurd z (by rw [sz]; exact Nat.ne_of_lt (Nat.lt_succ_of_lt lb))
  ·cases r₂ with
   | error e => exact hr₂
   | ok fl₂ =>
   cases fl₂ with
   | ret r =>
    obtain ⟨rfl, h', tk, rfl, hS', keep⟩ := hr₂
    repeat (any_goals (first | assumption | wp_step))
    exact fin _ _ hS' keep
   | _ => exact hr₂.elim
 | _ => exact hr.elim
end
end PySem

namespace L2
open PySem PySem.Spec PyProof.Rows

noncomputable def rCatN (K : PySem.W.Frag) : R2 := fun x y H Q => ∃ a b xs ys, x = .ref a ∧ y = .ref b ∧ SqT K H a xs ∧ SqT K H b ys ∧ ys ≠ [] ∧ xs.length + ys.length ≤ sizeLine ∧
 (xs = [] → Q (.ref b) H) ∧ (xs ≠ [] → ∀ p, H p = none → Q (.ref p) (upd H p (.tup (xs ++ ys))))
section
variable {X : Cx} {K : PySem.W.Frag}
theorem op_catTK (hK : X.K = K := by rfl) : OpR X (binaryOp .Add) (rCatN K) := by
 subst hK
 intro pins s σ H x y v u Q I rx ry h
 obtain ⟨a, b, xs, ys, rfl, rfl, ha, hb, hy, hz, q0, q1⟩ := h
 by_cases hx : xs = []
 ·subst hx
  cases rx; cases ry
  obtain ⟨i1, r1, ⟨⟨c1, d1, t1, l1⟩, g1, k1, n1, e1⟩, _⟩ := I.tuple ha
  obtain ⟨i2, r2, ⟨⟨c2, d2, t2, l2⟩, g2, k2, n2, e2⟩, _⟩ := I.tuple hb
  cases r1
  simp only at k1 e1 k2 e2
  subst k1 e1 k2 e2
  exact concat_meets ⟨_, g1, rfl⟩ ⟨_, g2, rfl⟩ noFill_tuple_add seq_tuple_add PySem.F.slot_tuple_add PySem.F.entry_tuple_add (PySem.F.args_tuple_add_2 _ _) (tuple_addW0 a b _ _ n1 n2 d1 d2 l1 l2 (by simp)) ⟨g1, g2, ⟨.ref b, H, I, rfl, q0 rfl⟩⟩
 ·exact op_catT pins s σ H _ _ v u Q I rx ry ⟨a, b, xs, ys, rfl, rfl, ha, hb, hx, hz, fun z => absurd z hy, fun _ => q1 hx⟩
end

noncomputable def SetN (P : Program) (w : World) (a : Addr) (n : Nat) : HO := .ext fun h => ∃ S, h.SetOf (mixKind P w) a S n
noncomputable def rSetOf (P : Program) (w : World) (K : PySem.W.Frag) : List V → Hp → VK → Prop := fun xs H Q => ∃ (l : Addr) (ws : List Str), xs = [.ref l] ∧ SqL K H l (ws.map V.str) ∧ ws.Nodup ∧ ws.length ≤ 1000 ∧ ∀ p, H p = none → Q (.ref p) (upd H p (SetN P w p ws.length))
noncomputable def rLenS (P : Program) (w : World) : List V → Hp → VK → Prop := fun xs H Q => ∃ p n, xs = [.ref p] ∧ H p = some (SetN P w p n) ∧ n ≤ 1000 ∧ Q (.int n) H
theorem bt_set : bootBuiltins "set" = some (.type "set") := by decide +kernel
section
variable {X : Cx} {P : Program} {w : World} {K : PySem.W.Frag}
theorem call_setK (hc : X.calm = true) (hP : X.prog = P := by rfl) (hw : X.w = w := by rfl) (hK : X.K = K := by rfl) : CallR X (.type "set") (rSetOf P w K) := by
 subst hK hP hw
 intro pins s σ H xs us Q I r h
 obtain ⟨l, ws, rfl, hl, nd, hz, q⟩ := h
 obtain ⟨u, rfl, ru⟩ := vals1 r
 cases ru
 obtain ⟨its, r1, p1, _⟩ := I.list hl
 have len := r1.length
 rw [List.length_map] at len
 have l1 : its.toArray.size = ws.length := by simp [len]
 have sc : scanBound = 4096 := rfl
 refine call_set_keys (knd := mixKind X.prog X.w) (key := fun i => Sum.inr (ws.getD i "")) (I.ok.hd hc) p1.isList (fun i v e => ?_) (fun a b ha hb e => ?_) (by omega) fun h' tk hS keep => ?_
 ·have hi : i < ws.length := by
   have := (Array.getElem?_eq_some_iff.mp e).1
   omega
  have e0 : (ws.map V.str)[i]? = some (.str ws[i]) := by rw [List.getElem?_map, List.getElem?_eq_getElem hi]; rfl
  obtain ⟨u, e1, q1⟩ := r1.get e0
  have : its.toArray[i]? = some u := by simpa using e1
  rw [this] at e
  cases e
  obtain ⟨t, rfl⟩ := q1
  have d : ws.getD i "" = ws[i] := by rw [List.getD_eq_getElem?_getD, List.getElem?_eq_getElem hi]; rfl
  rw [d]
  exact ⟨mixKind_str _ _ _ t, rfl⟩
 ·have ha : a < ws.length := by omega
  have hb : b < ws.length := by omega
  have e' := Sum.inr.inj e
  rw [List.getD_eq_getElem?_getD, List.getD_eq_getElem?_getD, List.getElem?_eq_getElem ha, List.getElem?_eq_getElem hb] at e'
  exact (List.getElem_inj nd).mp e'
 ·rw [l1] at hS
  refine ⟨.ref s.heap.objs.size, _, I.laid (t' := tk) (o := SetN X.prog X.w s.heap.objs.size ws.length) keep (Nat.le_refl _) ⟨⟨_, hS⟩, ?_, ?_⟩, rfl, q _ (I.hok.fresh (Nat.le_refl _))⟩
  ·obtain ⟨o, _, _, _, e, _⟩ := hS
   exact ⟨o, e⟩
  ·rintro h1 h2 ⟨S, o, es, ep, t, e, r⟩ k
   exact ⟨S, o, es, ep, t, k o e, r⟩
theorem call_lenS (hP : X.prog = P := by rfl) (hw : X.w = w := by rfl) : CallR X (.builtin "len") (rLenS P w) := by
 subst hP hw
 intro pins s σ H xs us Q I r h
 obtain ⟨p, n, rfl, hp, hn, q⟩ := h
 obtain ⟨u, rfl, ru⟩ := vals1 r
 cases ru
 obtain ⟨⟨S, o, es, ep, t, e, ex, ed, _, _, _, ef, en⟩, _⟩ := I.hok p _ hp
 subst en
 exact call_len_set e ex ed ef (by omega) ⟨.int _, H, I.tok _, ⟨_, rfl⟩, q⟩
end

structure Gi (mg : Str → Option Value) (x : Str) (i : Int) : Prop where
 ex : ∃ t, mg x = some (.int i t)
structure Gs (K : PySem.W.Frag) (mg : Str → Option Value) (x : Str) (ws : List Str) : Prop where
 ex : ∃ p, mg x = some (.ref p) ∧ ∀ H, SqT K H p (ws.map V.str)
section
variable {X : Cx} {mg : Str → Option Value} {K : PySem.W.Frag} {x : Str} {i : Int} {ws : List Str} {pos : Pos}
theorem pe_gi (g : Gi mg x i) (hg : Gl X x := by rfl) (hm : X.mg = mg := by rfl) (hd : (x == ("__debug__" : Str)) = false := by decide) : PE X (.Name x pos) (tC (.int i)) := by
 subst hm
 obtain ⟨t, e⟩ := g.ex
 exact pe_glob hg e ⟨t, rfl⟩ hd
noncomputable def tGs (K : PySem.W.Frag) (ws : List Str) : TE := fun _ H Q => ∀ p, SqT K H p (ws.map V.str) → Q (.ref p) H
theorem pe_gs (g : Gs K mg x ws) (hg : Gl X x := by rfl) (hm : X.mg = mg := by rfl) (hd : (x == ("__debug__" : Str)) = false := by decide) : PE X (.Name x pos) (tGs K ws) := by
 subst hm
 obtain ⟨p, e, sq⟩ := g.ex
 intro pins s σ H Q I h
 exact pe_glob (v := .ref p) hg e rfl hd pins s σ H Q I (h p (sq H))
end
end L2

namespace L2
open PySem PySem.Spec PyProof.Rows
noncomputable def rDictCopy : List V → Hp → VK → Prop := fun xs H Q => ∃ (d : Addr) (kvs : List (Key × V)), xs = [.ref d] ∧ H d = some (.dK kvs) ∧ ∀ p, H p = none → Q (.ref p) (upd H p (.dK kvs))
section
variable {X : Cx} {K : PySem.W.Frag}
theorem call_dict_copy : CallR X (.type "dict") rDictCopy := by
 intro pins s σ H xs us Q I r h
 obtain ⟨d, kvs, rfl, hd, q⟩ := h
 obtain ⟨u, rfl, ru⟩ := vals1 r
 cases ru
 exact d_copyOf I (.inl hd) fun p s' hp I' => ⟨.ref p, _, I', rfl, q p hp⟩
end
section
variable {α : Type}
theorem look_no {x : Str} : ∀ {l : List (Str × α)}, x ∉ l.map (·.1) → l.lookup x = none
 | [], _ => rfl
 | (n, v) :: l, h => by
  have h1 : x ≠ n := fun z => h (z ▸ List.mem_cons_self)
  rw [look_next _ _ (by simpa using h1)]
  exact look_no fun z => h (List.mem_cons_of_mem _ z)
theorem look_at {x : Str} {v : α} : ∀ {l : List (Str × α)} {i : Nat}, (l.map (·.1)).Nodup → l[i]? = some (x, v) → l.lookup x = some v
 | (n, u) :: l, 0, _, e => by
  cases e
  exact look_self _ _ _
 | (n, u) :: l, i + 1, nd, e => by
  have e : l[i]? = some (x, v) := e
  have nd' := List.nodup_cons.mp nd
  have h1 : x ≠ n := fun z => nd'.1 (z ▸ List.mem_map.mpr ⟨_, List.mem_of_getElem? e, rfl⟩)
  rw [look_next _ _ (by simpa using h1)]
  exact look_at nd'.2 e
end
theorem merge_val {x : Str} : ∀ (kvs : List (Str × V)) (acc : List (Key × V)), (kvs.map (·.1)).Nodup → valV (mergeK acc (pairK kvs)) (Sum.inr x) = (match kvs.lookup x with | some v => some v | none => valV acc (Sum.inr x))
 | [], acc, _ => rfl
 | (n, v) :: kvs, acc, nd => by
  have nd' := List.nodup_cons.mp nd
  show valV (mergeK (putK acc (Sum.inr n) v) (pairK kvs)) (Sum.inr x) = _
  rw [merge_val kvs _ nd'.2]
  by_cases e : x = n
  ·subst e
   rw [look_no nd'.1, look_self]
   show valV (putK acc (Sum.inr x) v) (Sum.inr x) = some v
   rw [valV_put, if_pos rfl]
  ·rw [look_next v kvs (by simpa using e)]
   cases kvs.lookup x with
   | some u => rfl
   | none =>
    show valV (putK acc (Sum.inr n) v) (Sum.inr x) = valV acc (Sum.inr x)
    rw [valV_put, if_neg (fun z => e (Sum.inr.inj z))]
end L2

namespace L2
open PySem PySem.Spec PyProof.Rows
noncomputable def without (h : Heap) (S : List Addr) : Heap := ⟨h.objs.mapIdx fun i o => if i ∈ S then { o with data := .freed } else o, h.life⟩
theorem without_in {h : Heap} {S : List Addr} {b : Addr} (hb : b ∈ S) : (without h S).get? b = none := by
 unfold without Heap.get?
 rw [Array.getElem?_mapIdx]
 cases e : h.objs[b]? with
 | none => rfl
 | some o =>
  show (match some (if b ∈ S then { o with data := .freed } else o) with | some ⟨_, _, .freed, _⟩ => none | o => o) = none
  rw [if_pos hb]
theorem without_out {h : Heap} {S : List Addr} {b : Addr} (hb : b ∉ S) : (without h S).get? b = h.get? b := by
 unfold without Heap.get?
 rw [Array.getElem?_mapIdx]
 cases e : h.objs[b]? with
 | none => rfl
 | some o =>
  show (match some (if b ∈ S then { o with data := .freed } else o) with | some ⟨_, _, .freed, _⟩ => none | o => o) = _
  rw [if_neg hb]
  rfl
theorem without_stays (h : Heap) (S : List Addr) : (without h S).StaysIn h := fun b o e => by
 by_cases hb : b ∈ S
 ·rw [without_in hb] at e; cases e
 ·rw [without_out hb] at e; exact e
theorem funframes_without {h base : Heap} {S : List Addr} {l : List Env} (hl : h.FunFrames base l) (hS : ∀ b ∈ frs l, b ∈ S) : h.FunFrames (without h S) l := by
 induction l with
 | nil => trivial
 | cons env rest ih =>
  obtain ⟨hk, ⟨L, o, hf, _, ho, hd⟩, hr⟩ := hl
  have hm : ∀ b, env.frame = some b → b ∈ frs (env :: rest) := fun b e => by
   unfold frs
   rw [List.filterMap_cons, e]
   exact List.mem_cons_self
  refine ⟨hk, ⟨L, o, hf, without_in (hS _ (hm L hf)), ho, hd⟩, ih hr fun b hb => hS b ?_⟩
  unfold frs at hb ⊢
  rw [List.filterMap_cons, hf]
  exact List.mem_cons_of_mem _ hb
noncomputable def Fly (h : Heap) (x T : Addr) (cls : Value) : Prop :=
 ∃ oe vs oT ts, h.get? x = some oe ∧ oe.cls = cls ∧ oe.data = .fields vs ∧ vs[1]? = some (.ref T) ∧ T ≠ x ∧ h.get? T = some oT ∧ oT.data = .fields ts ∧ ts[3]? = some .none
noncomputable def CX1 (P : Program) (w : World) : CXT := fun outer H s E e s' => ∃ x T cls H', e = .ref x ∧ s'.os = s.os ∧ AllBare s'.gens ∧ Un (frs outer) [] H H' s.heap s'.heap ∧ HOk P w H' s'.heap ∧
 s.heap.get? x = none ∧ s.heap.get? T = none ∧ H' x = none ∧ H' T = none ∧ Fly s'.heap x T cls ∧ E cls none H'
section
variable {M : Model} {A : Around} {E : Value → Shared → Prop} {s : Shared}
theorem leave_end {h h' : Heap} {l : List Env} {S : List Addr} {x : Addr} {cls : Value} (left : Heap.Left (without h S) l x cls h h') (hl : h.FunFrames (without h S) l) :
  ∃ T', Fly h' x T' cls ∧ T' ∉ frs l ∧ (T' ∈ S ∨ h.get? T' = none) ∧ (∀ b o, b ∉ S → h.get? b = some o → h'.get? b = some o) ∧ ∀ b o, b ∈ frs l → h.get? b = some o → ∃ sl, h'.get? b = some { o with slots := sl } := by
 obtain ⟨k1, k2, k3, k4⟩ := left
 obtain ⟨oe', vs', T', oT', ts', f1, f2, f3, f4, f5, f6, f7, f8, f9⟩ := k3
 refine ⟨T', ⟨oe', vs', oT', ts', f1, f2, f3, f4, f6, f7, f8, f9⟩, fun hb => ?_, ?_, fun b o hb e => k1 b o (by rw [without_out hb]; exact e), fun b o hb e => ?_⟩
 ·obtain ⟨_, o, ho, hd⟩ := k2.mem hb
  rw [f7] at ho
  cases ho
  exact hd _ f8
 ·by_cases hT : T' ∈ S
  ·exact .inl hT
  ·rw [without_out hT] at f5
   exact .inr f5
 ·obtain ⟨_, o', ho', hd⟩ := hl.mem hb
  rw [e] at ho'
  cases ho'
  exact k4 b o e hd
theorem leaving_on {base : Heap} {env : Env} {outer : List Env} {L x T : Addr} {cls : Value} {Q : Unit → Shared → Prop} (hfr : A.frames = some (env :: outer)) (hl : s.heap.FunFrames base (env :: outer)) (hf : env.frame = some L) (fl : Fly s.heap x T cls)
  (h : ∀ h' T', Fly h' x T' cls → T' ∉ frs (env :: outer) → (T' = x ∨ T' = T ∨ s.heap.get? T' = none) → (∀ b o, b ∉ frs (env :: outer) → b ≠ x → b ≠ T → s.heap.get? b = some o → h'.get? b = some o) →
   (∀ b o, b ∈ frs (env :: outer) → s.heap.get? b = some o → ∃ sl, h'.get? b = some { o with slots := sl }) → Q () { s with heap := h' }) :
  wpAny M A (leaving env (.ref x)) Q E s := by
 obtain ⟨oe, vs, oT, ts, e1, e2, e3, e4, e5, e6, e7, e8⟩ := fl
 have S1 : ∀ b ∈ frs (env :: outer), b ∈ x :: T :: frs (env :: outer) := fun b hb => List.mem_cons_of_mem _ (List.mem_cons_of_mem _ hb)
 have hl' := funframes_without hl S1
 refine wpAny_leaving_next (base := without s.heap (x :: T :: frs (env :: outer))) hfr hl' hf ⟨oe, vs, T, oT, ts, e1, e2, e3, e4, without_in (by simp), e5, e6, e7, e8⟩ (without_stays _ _) (without_in (by simp)) fun h' left => ?_
 obtain ⟨T', fl', nT, wT, k, ks⟩ := leave_end left hl'
 refine h h' T' fl' nT ?_ (fun b o n1 n2 n3 e => k b o (by simp [n1, n2, n3]) e) ks
 rcases wT with z | z
 ·simp only [List.mem_cons] at z
  rcases z with z | z | z
  ·exact .inl z
  ·exact .inr (.inl z)
  ·exact absurd z nT
 ·exact .inr (.inr z)
theorem leaving_new {base : Heap} {env : Env} {outer : List Env} {L x : Addr} {oe : Obj} {vs : Array Value} {Q : Unit → Shared → Prop} (hfr : A.frames = some (env :: outer)) (hl : s.heap.FunFrames base (env :: outer)) (hf : env.frame = some L)
  (e1 : s.heap.get? x = some oe) (e3 : oe.data = .fields vs) (e4 : vs[1]? = some .none)
  (h : ∀ h' T', Fly h' x T' oe.cls → T' ∉ frs (env :: outer) → (T' = x ∨ s.heap.get? T' = none) → (∀ b o, b ∉ frs (env :: outer) → b ≠ x → s.heap.get? b = some o → h'.get? b = some o) →
   (∀ b o, b ∈ frs (env :: outer) → s.heap.get? b = some o → ∃ sl, h'.get? b = some { o with slots := sl }) → Q () { s with heap := h' }) :
  wpAny M A (leaving env (.ref x)) Q E s := by
 have S1 : ∀ b ∈ frs (env :: outer), b ∈ x :: frs (env :: outer) := fun b hb => List.mem_cons_of_mem _ hb
 have hl' := funframes_without hl S1
 refine wpAny_leaving_first (base := without s.heap (x :: frs (env :: outer))) hfr hl' hf e1 (without_stays _ _) (without_in (by simp)) e3 e4 fun h' left => ?_
 obtain ⟨T', fl', nT, wT, k, ks⟩ := leave_end left hl'
 refine h h' T' fl' nT ?_ (fun b o n1 n2 e => k b o (by simp [n1, n2]) e) ks
 rcases wT with z | z
 ·rcases List.mem_cons.mp z with z | z
  ·exact .inl z
  ·exact absurd z nT
 ·exact .inr z
end
end L2

namespace L2
open PySem PySem.Spec PyProof.Rows
theorem ObjOk.there {P : Program} {w : World} {H : Hp} {h : Heap} {a : Addr} {o : HO} (x : ObjOk P w H h a o) : ∃ u, h.get? a = some u := by
 cases o with
 | lst xs => obtain ⟨_, _, _, _, e⟩ := x; exact ⟨_, e⟩
 | tup xs => obtain ⟨_, _, _, _, e, _⟩ := x; exact ⟨_, e⟩
 | dK kvs => obtain ⟨_, _, _, _, o, _, _, e, _⟩ := x; exact ⟨_, e⟩
 | dT kvs => obtain ⟨_, _, _, _, o, _, _, e, _⟩ := x; exact ⟨_, e⟩
 | set S n => obtain ⟨o, _, _, _, e, _⟩ := x; exact ⟨_, e⟩
 | ins C dx fs => obtain ⟨_, _, _, e, _⟩ := x; exact ⟨_, e⟩
 | own y => obtain ⟨_, e⟩ := x; exact ⟨_, e⟩
 | xd fs => obtain ⟨_, ⟨_, _, _, e, _⟩, _⟩ := x; exact ⟨_, e⟩
 | rng lo hi => obtain ⟨_, _, _, e⟩ := x; exact ⟨_, e⟩
 | frz ob u => obtain ⟨e, _⟩ := x; exact ⟨_, e⟩
 | tbl ps => exact ⟨_, (show h.get? a = some _ from x)⟩
 | met f y => exact ⟨_, (show h.get? a = some _ from x)⟩
 | ext φ => obtain ⟨_, ⟨_, e⟩, _⟩ := x; exact ⟨_, e⟩
theorem HOk.gone {P : Program} {w : World} {H : Hp} {h : Heap} {a : Addr} (x : HOk P w H h) (e : h.get? a = none) : H a = none := by
 cases q : H a with
 | none => rfl
 | some o =>
  obtain ⟨u, r⟩ := (x a o q).there
  rw [e] at r
  cases r
section
variable {P : Program} {w : World} {K : PySem.W.Frag} {mg : Str → Option Value} {base : Heap} {N : List Str} {qual : Str} {scope : Scope} {f : Addr} {cd : Value} {A : Around} {outer : List Env} {s₀ : Shared} {H₀ : Hp} {E : XK}
theorem left_cx {pins : List (Addr × Obj)} {σ : St} {H' : Hp} {s' : Shared} {x T T' : Addr} {cls : Value} {h' : Heap} (J : Inv (cxOf (CX1 P w) P w K mg base N qual scope f cd A outer s₀ H₀ E) pins σ H' s')
  (nx : s₀.heap.get? x = none) (nT : s₀.heap.get? T = none) (hx : H' x = none) (hT : H' T = none) (q : E cls none H') (fl' : Fly h' x T' cls)
  (wT : T' = x ∨ T' = T ∨ s'.heap.get? T' = none)
  (k : ∀ b o, b ∉ frs (envOfC qual scope s₀.heap.objs.size f cd :: outer) → b ≠ x → b ≠ T → s'.heap.get? b = some o → h'.get? b = some o)
  (ks : ∀ b o, b ∈ frs (envOfC qual scope s₀.heap.objs.size f cd :: outer) → s'.heap.get? b = some o → ∃ sl, h'.get? b = some { o with slots := sl }) : CX1 P w outer H₀ s₀ E (.ref x) { s' with heap := h' } := by
 have B : Un (frs outer) [] H₀ H' s₀.heap s'.heap := J.base
 have mem : ∀ b o, s₀.heap.get? b = some o → b ∉ frs outer → b ∉ frs (envOfC qual scope s₀.heap.objs.size f cd :: outer) := fun b o e hb z => by
  rcases List.mem_cons.mp (J.stkSub b z) with y | y
  ·exact absurd y (Nat.ne_of_lt (Heap.lt_size e))
  ·exact hb y
 have neX : ∀ b o, s₀.heap.get? b = some o → b ≠ x := fun b o e z => by rw [z, nx] at e; cases e
 have neT : ∀ b o, s₀.heap.get? b = some o → b ≠ T := fun b o e z => by rw [z, nT] at e; cases e
 have gone : s'.heap.get? T' = none → s₀.heap.get? T' = none := fun e => by
  cases c : s₀.heap.get? T' with
  | none => rfl
  | some o =>
   obtain ⟨o', r⟩ := B.there T' o c (by simp)
   rw [e] at r
   cases r
 refine ⟨x, T', cls, H', rfl, J.os, J.bare, ⟨fun b o e n hb hx => ?_, fun b o e n hb hx => ?_, B.free, fun b o e hx => ?_, B.tups, B.frzs, B.tbls⟩, fun a o e => ?_, nx, ?_, hx, ?_, fl', q⟩
 ·exact k b o (mem b o e hb) (neX b o e) (neT b o e) (B.keep b o e n hb hx)
 ·obtain ⟨sl, r⟩ := B.slot b o e n hb hx
  obtain ⟨sl', r'⟩ := ks b _ (by
   unfold frs at hb ⊢
   rw [List.filterMap_cons]
   split
   ·exact hb
   ·exact List.mem_cons_of_mem _ hb) r
  exact ⟨sl', r'⟩
 ·obtain ⟨o', r⟩ := B.there b o e hx
  by_cases hb : b ∈ frs (envOfC qual scope s₀.heap.objs.size f cd :: outer)
  ·obtain ⟨sl, r'⟩ := ks b _ hb r
   exact ⟨_, r'⟩
  ·exact ⟨o', k b o' hb (neX b o e) (neT b o e) r⟩
 ·refine (J.hok a o e).stay (fun b u hb r => ?_) (fun _ z => z) fun _ _ z => z
  have tr : H' b ≠ none := by
   rcases hb with z | z
   ·rw [z, e]; exact fun z => nomatch z
   ·rw [z]; exact fun z => nomatch z
  exact k b u (fun z => tr (J.stkFree b z)) (fun z => tr (by rw [z]; exact hx)) (fun z => tr (by rw [z]; exact hT)) r
 ·rcases wT with z | z | z
  ·rw [z]; exact nx
  ·rw [z]; exact nT
  ·exact gone z
 ·rcases wT with z | z | z
  ·rw [z]; exact hx
  ·rw [z]; exact hT
  ·exact J.hok.gone z
theorem pass1 : Passes (CX1 P w) (cxOf (CX1 P w) P w K mg base N qual scope f cd A outer s₀ H₀ E) E := by
 intro pins σ H s e s' I ⟨x, T, cls, H', he, os, bare, un, hok, gx, gT, hx, hT, fl, q⟩
 subst he
 obtain ⟨hh, g, d, t, os'⟩ := s'
 obtain rfl : os' = s.os := os
 have J := I.call (h' := hh) (g' := g) (d' := d) (t' := t) (ch := []) un hok bare (fun b z => absurd z (by simp))
 have B : Un (frs outer) [] H₀ H s₀.heap s.heap := I.base
 have gone : ∀ b, s.heap.get? b = none → s₀.heap.get? b = none := fun b e => by
  cases c : s₀.heap.get? b with
  | none => rfl
  | some o =>
   obtain ⟨o', r⟩ := B.there b o c (by simp)
   rw [e] at r
   cases r
 show wpAny _ _ (leaving _ (.ref x)) _ _ _
 refine leaving_on J.ok.frames J.stack rfl fl fun h' T' fl' nT wT k ks => ?_
 exact left_cx J (gone x gx) (gone T gT) hx hT q fl' wT k ks
noncomputable def Throws (X : Cx) (E : XK) : Prop := ∀ (pins : List (Addr × Obj)) (σ : St) (H : Hp) (s : Shared) (x : Addr) (cls : Value) (us : List Value) (h' : Heap), Inv X pins σ H s → Heap.MadeExcOf s.heap h' x cls us → E cls none H → X.xe (.ref x) { s with heap := h' }
theorem throws1 : Throws (cxOf (CX1 P w) P w K mg base N qual scope f cd A outer s₀ H₀ E) E := by
 intro pins σ H s x cls us h1 I md q
 have J := I.un (t' := s.toks) (Un.kept md.keeps) (I.hok.kept md.keeps)
 have B : Un (frs outer) [] H₀ H s₀.heap s.heap := I.base
 have nx : s₀.heap.get? x = none := by
  cases c : s₀.heap.get? x with
  | none => rfl
  | some o =>
   obtain ⟨o', r⟩ := B.there x o c (by simp)
   rw [md.new] at r
   cases r
 have hx : H x = none := I.hok.gone md.new
 obtain ⟨t, ht, _, _⟩ := md.there
 show wpAny _ _ (leaving _ (.ref x)) _ _ _
 refine leaving_new J.ok.frames J.stack rfl ht rfl rfl fun h' T' fl' nT wT k ks => ?_
 exact left_cx J nx nx hx hx q fl' (wT.elim .inl fun z => .inr (.inr z)) (fun b o z1 z2 _ z3 => k b o z1 z2 z3) ks
end
section
variable {X : Cx} {x : Str} {C : Addr} {B newId initId : String} {bm : List Value} {np cpos pos : Pos} {e₀ : Expr} {rest : List Expr} {t : TA} {E : XK}
noncomputable def tThrow (C : Addr) (t : TA) (E : XK) : TS := fun _ σ H => t σ H fun vs H1 => vs.length ≤ sizeLine ∧ E (.ref C) none H1
theorem ps_throw (O : OwnCls x C bm newId X.mg X.base) (FB : ExcBaseFacts B newId initId bm) (hg : Gl X x) (hc : X.calm = true) (hth : Throws X E) (ha : PA X (e₀ :: rest) t) (hdb : (x == ("__debug__" : Str)) = false := by decide)
  (he : starEach (e₀ :: rest) X.env = (false, eval e₀ X.env) :: starEach rest X.env := by rfl) (hpl : (backTo cpos (starEach rest X.env)).any (·.1) = false := by rfl) :
  PS X (.Raise (some (.Call (.Name x np) (e₀ :: rest) [] cpos)) none pos) (tThrow C t E) := by
 intro pins s σ H D I h
 obtain ⟨tl, N, nm, q, bs, hd', sn, su, ab, cl, dd, k0, k1, k2, k3, k5, mN, hC, hN, hni, T⟩ := O.obj
 have pl : (backTo cpos (starEach (e₀ :: rest) X.env)).any (·.1) = false := by
  rw [he]
  show (false || (backTo cpos (starEach rest X.env)).any (·.1)) = false
  rw [hpl]
  rfl
 refine @wpAny_Raise_call_subT _ _ _ _ _ _ nm q C N bs tl bm hd' sn su ab cl dd k0 k1 k2 k3 k5 _ _ _ FB _ _ _ _ _ _ _ (T.hasType FB.hasBase) (I.ok.hd hc) pl hni (ld_glob I hg O.bound ⟨rfl, ?_⟩ hdb)
 have h2 := ha cpos pins s σ H _ I h
 rw [he] at h2 ⊢
 exact Calls.evalArgs_plain (thn h2 fun us s2 ⟨vs, H1, I1, r, z, q⟩ => ⟨rfl, by rw [← r.length]; exact z, I1.bk _ _ hC, hN.keeps I1.bk, T.keeps I1.bk, fun h' e md => hth pins σ H1 s2 e _ _ h' I1 md q⟩)
end
section
variable {X : Cx} {pos : Pos} {e : Expr} {te : TE}
noncomputable def tFmt (te : TE) : TE := fun σ H Q => te σ H fun v H1 => ∃ y, v = .str y ∧ y.length ≤ sizeLine ∧ Q (.str y) H1
theorem pe_fmt (he : PE X e te) : PE X (.FormattedValue e (-1) none pos) (tFmt te) := by
 intro pins s σ H Q I h
 refine wpAny_FormattedValue_plain (thn (he pins s σ H _ I h) fun u s1 ⟨v, H1, I1, r, y, ev, hy, q⟩ => ?_)
 subst ev
 obtain ⟨t, rfl⟩ := r
 exact wpAny_formatField_str ⟨.str y, H1, I1, ⟨t, rfl⟩, q⟩ ⟨.str y, H1, I1.tok _, ⟨_, rfl⟩, q⟩ hy
noncomputable def tFmtR (te : TE) : TE := fun σ H Q => te σ H fun v H1 => ∃ y, v = .str y ∧ (reprText y).length ≤ sizeLine ∧ Q (.str (reprText y)) H1
theorem pe_fmtR (he : PE X e te) : PE X (.FormattedValue e 114 none pos) (tFmtR te) := by
 intro pins s σ H Q I h
 refine wpAny_FormattedValue_repr (thn (he pins s σ H _ I h) fun u s1 ⟨v, H1, I1, r, y, ev, hy, q⟩ => ?_)
 subst ev
 obtain ⟨t, rfl⟩ := r
 refine wpAny_pyReprObj_gives (T := "str") rfl PySem.F.slot_str_repr PySem.F.entry_str_repr (PySem.F.args_str_repr_1 _) (gives_str_repr y t) ?_ rfl hy
 exact wpAny_formatField_str ⟨.str (reprText y), H1, I1.tok _, ⟨_, rfl⟩, q⟩ ⟨.str (reprText y), H1, (I1.tok _).tok _, ⟨_, rfl⟩, q⟩ hy
noncomputable def tJoin : List TE → Str → TE
 | [], acc => fun _ H Q => acc.length ≤ sizeLine ∧ Q (.str acc) H
 | t :: ts, acc => fun σ H Q => t σ H fun v H1 => ∃ y, v = .str y ∧ (acc ++ y).length ≤ sizeLine ∧ tJoin ts (acc ++ y) σ H1 Q
theorem joins_of {es : List Expr} {ts : List TE} (h : Paired (PE X) es ts) : ∀ {acc : Str} {pins : List (Addr × Obj)} {s : Shared} {σ : St} {H : Hp} {Q : VK}, Inv X pins σ H s → tJoin ts acc σ H Q →
  Joins (model X.prog X.w) X.A X.xe (evalEach es X.env) acc (fun out s1 => out.length ≤ sizeLine ∧ EP X pins σ Q (.str out s1.toks) { s1 with toks := s1.toks + 1 }) s := by
 induction h with
 | nil => exact fun {acc _ _ _ _ _} I q => ⟨q.1, .str acc, _, I.tok _, ⟨_, rfl⟩, q.2⟩
 | cons h1 _ ih =>
  intro acc pins s σ H Q I q
  refine thn (h1 pins s σ H _ I q) fun u s1 ⟨v, H1, I1, r, y, ev, hy, q1⟩ => ?_
  subst ev
  obtain ⟨t, rfl⟩ := r
  exact ⟨y, t, rfl, hy, ih I1 q1⟩
theorem pe_joined {v1 v2 : Expr} {vs : List Expr} {ts : List TE} (h : Paired (PE X) (v1 :: v2 :: vs) ts) : PE X (.JoinedStr (v1 :: v2 :: vs) pos) (tJoin ts Str.empty) := by
 intro pins s σ H Q I q
 exact wpAny_JoinedStr (joins_of h I q)
end
section
variable {P : Program} {w : World} {K : PySem.W.Frag} {mg : Str → Option Value} {base : Heap} {qual x : Str} {st : Stmt} {f : Addr} {fd : FuncData} {N ps : List Str} {k : Nat} {sp : Sp}
theorem Fun.ok1 (F : Fun K x qual st f fd) (S : FnScope N ps (xB st)) (len : ∀ vs H Q E, sp vs H Q E → vs.length = ps.length)
  (hb : ∀ (cdv : Value) (A : Around) (outer : List Env) (s : Shared) (H : Hp) (vs : List V) (Q : VK) (E : XK), Room k (A.deeper (envOfC qual (xB st) s.heap.objs.size f cdv)) → sp vs H Q E →
   ∃ t, PSs (cxOf (CX1 P w) P w K mg base N qual (xB st) f cdv A outer s H E) (xC st) t ∧ t { nx := fun _ H' => Q .non H', rt := Q } (start N vs) H) : FnOk P w K mg base (CX1 P w) (k + 1) f fd ps sp := by
 obtain ⟨oc, od, kV, doc, pm, an, cdv, ct, osl, rfl, lk, hcd⟩ := F.ex
 exact fn_of lk hcd S len fun A outer s H vs Q E hr hsp => hb cdv A outer s H vs Q E hr hsp
end
end L2

namespace L2
open PySem PySem.Spec PyProof.Rows
section
variable {X : Cx} {pins : List (Addr × Obj)} {σ : St} {H H' : Hp} {s : Shared} {h' : Heap}
theorem Inv.hop {S : List Addr} (I : Inv X pins σ H s) (hS : ∀ b ∈ S, X.s₀.heap.get? b = none ∧ b ≠ X.env.locals ∧ (∀ x c, X.env.cells.lookup x = some c → c ≠ b) ∧ (∀ p ∈ X.pn ++ pins, p.1 ≠ b) ∧ H b = none)
  (k : ∀ b o, b ∉ frs X.stack → b ∉ S → s.heap.get? b = some o → h'.get? b = some o) (ks : ∀ b o, b ∈ frs X.stack → b ∉ S → s.heap.get? b = some o → ∃ sl, h'.get? b = some { o with slots := sl })
  (same : ∀ b, b ∉ S → H' b = H b) (hok : HOk X.prog X.w H' h') : Inv X pins σ H' { s with heap := h' } := by
 have any : ∀ b o, b ∉ S → s.heap.get? b = some o → ∃ sl, h'.get? b = some { o with slots := sl } := fun b o hb e => by
  by_cases z : b ∈ frs X.stack
  ·exact ks b o z hb e
  ·exact ⟨o.slots, k b o z hb e⟩
 have nS : ∀ b o, X.s₀.heap.get? b = some o → b ∉ S := fun b o e z => by rw [(hS b z).1] at e; cases e
 have tr : ∀ b u, H b = some u → b ∉ S := fun b u e z => by rw [(hS b z).2.2.2.2] at e; cases e
 have nL : X.env.locals ∉ S := fun z => (hS _ z).2.1 rfl
 have nC : ∀ x c, X.env.cells.lookup x = some c → c ∉ S := fun x c e z => (hS c z).2.2.1 x c e rfl
 have nP : ∀ p ∈ X.pn ++ pins, p.1 ∉ S := fun p hp z => (hS _ z).2.2.2.1 p hp rfl
 have out : ∀ b, b ∉ X.fs → b ≠ X.env.locals → b ∉ frs X.stack := fun b h1 h2 z => (List.mem_cons.mp (I.stkSub b z)).elim h2 h1
 have isC : ∀ x c, X.env.cells.lookup x = some c → ∀ v, s.heap.IsCell c v → h'.IsCell c v := fun x c e v ⟨o, ho, hd⟩ => by
  obtain ⟨sl, q⟩ := any c o (nC x c e) ho
  exact ⟨_, q, hd⟩
 have B := I.base
 constructor
 ·exact I.ok
 ·exact I.os
 ·exact I.bare
 ·constructor
  ·intro b o e n hb hx
   exact k b o (out b hb (Nat.ne_of_lt (Nat.lt_of_lt_of_le (Heap.lt_size e) I.ok.above))) (nS b o e) (B.keep b o e n hb hx)
  ·intro b o e n hb hx
   obtain ⟨sl, e1⟩ := B.slot b o e n hb hx
   obtain ⟨sl', e2⟩ := any b _ (nS b o e) e1
   exact ⟨sl', e2⟩
  ·intro b o e n hx
   rw [same b (nS b o e)]
   exact B.free b o e n hx
  ·intro b o e hx
   obtain ⟨o', e1⟩ := B.there b o e hx
   obtain ⟨sl, e2⟩ := any b o' (nS b o e) e1
   exact ⟨_, e2⟩
  ·intro b xs e
   have e1 := B.tups b xs e
   rw [same b (tr b _ e1)]
   exact e1
  ·intro b o u e
   have e1 := B.frzs b o u e
   rw [same b (tr b _ e1)]
   exact e1
  ·intro b ps e
   obtain ⟨m, e1⟩ := B.tbls b ps e
   exact ⟨m, by rw [same b (tr b _ e1)]; exact e1⟩
 ·obtain ⟨m, ⟨o, es, ep, ho, r⟩, hl⟩ := I.loc
  obtain ⟨sl, e⟩ := any _ o nL ho
  refine ⟨m, ⟨_, es, ep, e, r⟩, fun i x v e1 e2 e3 => ?_⟩
  obtain ⟨u, rv, l⟩ := hl i x v e1 e2 e3
  refine ⟨u, rv, l.imp id fun ⟨kd, c, ec, z⟩ => ⟨kd, c, ec, isC x c ec _ z⟩⟩
 ·intro x c e
  obtain ⟨v, z⟩ := I.cell x c e
  exact ⟨v, isC x c e v z⟩
 ·rw [same _ nL]
  exact I.free
 ·intro x c e
  rw [same _ (nC x c e)]
  exact I.freeC x c e
 ·intro p hp
  obtain ⟨e, n, ne, nf, d⟩ := I.pin p hp
  exact ⟨k p.1 p.2 (out _ nf ne) (nP p hp) e, by rw [same _ (nP p hp)]; exact n, ne, nf, d⟩
 ·exact hok
 ·exact I.len
noncomputable def IsExc (x T : Addr) (cls : Value) (h : Heap) : Prop := ∃ o vs, h.get? x = some o ∧ o.cls = cls ∧ o.data = .fields vs ∧ vs[1]? = some (.ref T)
noncomputable def IsEnt (T : Addr) (h : Heap) : Prop := ∃ o ts, h.get? T = some o ∧ o.data = .fields ts ∧ ts[3]? = some .none
noncomputable abbrev held (H : Hp) (x T : Addr) (cls : Value) : Hp := upd (upd H T (.ext (IsEnt T))) x (.ext (IsExc x T cls))
noncomputable def XP (X : Cx) (pins : List (Addr × Obj)) (Ex : St → Value → Hp → Prop) (e : Value) (s' : Shared) : Prop :=
 ∃ σ1 H1 s1, Inv X pins σ1 H1 s1 ∧ CX1 X.prog X.w X.stack H1 s1 (fun c _ H' => Ex σ1 c H') e s'
theorem XP.caught {Ex : St → Value → Hp → Prop} {e : Value} {Q : Unit → Shared → Prop} {E : Value → Shared → Prop} {outer : List Env} (hex : X.ex = []) (hst : X.stack = X.env :: outer) (hf : X.env.frame = some X.env.locals) (h : XP X pins Ex e s)
  (hq : ∀ x T cls σ1 H1 h', e = .ref x → H1 x = none → H1 T = none → T ≠ x → Ex σ1 cls H1 → Inv X pins σ1 (held H1 x T cls) { s with heap := h' } → Q () { s with heap := h' }) :
  wpAny (model X.prog X.w) X.A (leaving X.env e) Q E s := by
 obtain ⟨σ1, H1, s1, I, x, T, cls, H', he, os, bare, un, hok, gx, gT, hx, hT, fl, q⟩ := h
 subst he
 obtain ⟨hh, g, d, t, os'⟩ := s
 obtain rfl : os' = s1.os := os
 have J := I.call (h' := hh) (g' := g) (d' := d) (t' := t) (ch := []) un hok bare (fun b z => absurd z (by simp))
 have gone : ∀ b, s1.heap.get? b = none → X.s₀.heap.get? b = none := fun b e => by
  cases c : X.s₀.heap.get? b with
  | none => rfl
  | some o =>
   obtain ⟨o', r⟩ := I.base.there b o c (by rw [hex]; simp)
   rw [e] at r
   cases r
 have ours : ∀ b, s1.heap.get? b = none → H' b = none → X.s₀.heap.get? b = none ∧ b ≠ X.env.locals ∧ (∀ x c, X.env.cells.lookup x = some c → c ≠ b) ∧ (∀ p ∈ X.pn ++ pins, p.1 ≠ b) ∧ H' b = none := fun b e n => by
  refine ⟨gone b e, fun z => ?_, fun y c ec z => ?_, fun p hp z => ?_, n⟩
  ·obtain ⟨m, ⟨o, _, _, ho, _⟩, _⟩ := I.loc
   rw [← z, e] at ho
   cases ho
  ·obtain ⟨v, o, ho, _⟩ := I.cell y c ec
   rw [z, e] at ho
   cases ho
  ·have ho := (I.pin p hp).1
   rw [z, e] at ho
   cases ho
 have fr : X.A.frames = some (X.env :: outer) := by rw [← hst]; exact I.ok.frames
 have stk := J.stack
 rw [hst] at stk
 refine leaving_on fr stk hf fl fun h2 T' fl' nT wT k ks => ?_
 rw [← hst] at k ks
 have nfr : ∀ b, s1.heap.get? b = none → b ∉ frs X.stack := fun b e z => by
  obtain ⟨_, o, ho, _⟩ := I.stack.mem z
  rw [e] at ho
  cases ho
 have T1 : s1.heap.get? T' = none := by
  rcases wT with z | z | z
  ·rw [z]; exact gx
  ·rw [z]; exact gT
  ·cases c : s1.heap.get? T' with
   | none => rfl
   | some o =>
    obtain ⟨o', r⟩ := un.there T' o c (by simp)
    rw [show hh.get? T' = none from z] at r
    cases r
 have T2 : H' T' = none := by
  rcases wT with z | z | z
  ·rw [z]; exact hx
  ·rw [z]; exact hT
  ·exact hok.gone z
 obtain ⟨oe, vs, oT, ts, f1, f2, f3, f4, f5, f6, f7, f8⟩ := fl'
 refine hq x T' cls σ1 H' h2 rfl hx T2 f5 q (J.hop (S := [x, T, T']) (fun b hb => ?_) (fun b o n1 n2 e => k b o n1 (fun z => n2 (by simp [z])) (fun z => n2 (by simp [z])) e) (fun b o n1 _ e => ks b o n1 e)
  (fun b hb => by show upd (upd H' T' _) x _ b = _; rw [qA fun z => hb (by simp [z]), qA fun z => hb (by simp [z])]) fun a o e => ?_)
 ·simp only [List.mem_cons, List.mem_nil_iff, or_false] at hb
  rcases hb with z | z | z
  ·rw [z]; exact ours x gx hx
  ·rw [z]; exact ours T gT hT
  ·rw [z]; exact ours T' T1 T2
 ·replace e : upd (upd H' T' (.ext (IsEnt T'))) x (.ext (IsExc x T' cls)) a = some o := e
  show ObjOk X.prog X.w (upd (upd H' T' _) x _) h2 a o
  by_cases ha : a = x
  ·subst ha
   rw [qW] at e
   cases e
   exact ⟨⟨oe, vs, f1, f2, f3, f4⟩, ⟨oe, f1⟩, fun h1 h2 ⟨o, ws, e1, e2⟩ z => ⟨o, ws, z o e1, e2⟩⟩
  ·rw [qA ha] at e
   by_cases hb : a = T'
   ·subst hb
    rw [qW] at e
    cases e
    exact ⟨⟨oT, ts, f6, f7, f8⟩, ⟨oT, f6⟩, fun h1 h2 ⟨o, ws, e1, e2⟩ z => ⟨o, ws, z o e1, e2⟩⟩
   ·rw [qA hb] at e
    refine (hok a o e).stay (fun b u hb r => ?_) (fun b z => ?_) fun b xs z => ?_
    ·have tr : H' b ≠ none := by
      rcases hb with z | z
      ·rw [z, e]; exact fun z => nomatch z
      ·rw [z]; exact fun z => nomatch z
     exact k b u (fun z => tr (J.stkFree b z)) (fun z => tr (by rw [z]; exact hx)) (fun z => tr (by rw [z]; exact hT)) r
    ·rw [qA (qB z hx), qA (qB z T2)]; exact z
    ·rw [qA (qB z hx), qA (qB z T2)]; exact z
end
section
variable {M : Model} {A : Around} {E : Value → Shared → Prop} {s : Shared} {env : Env}
theorem try_rows {body orelse : Sem Flow} {h1 : ExceptHandler} {hs : List ExceptHandler} {Q : Flow → Shared → Prop}
  (h : wpAny M A body (fun f s1 => match f with | .next => wpAny M A orelse Q E s1 | f => Q f s1) (fun e s1 => wpAny M A (leaving env e) (fun _ s2 => wpAny M A (handleBy e env (h1 :: hs)) Q E s2) E s1) s) :
  wpAny M A (tryStmt false body (h1 :: hs) orelse [] env) Q E s := by
 unfold tryStmt
 simp
 refine wpAny_bind (wpAny_attempt (wpAny_mono h (fun f s1 h2 => ?_) fun e s1 h2 => ?_))
 ·cases f <;> first | exact h2 | exact wpAny_pure h2
 ·have h3 := wpAny_bind (f := fun _ => handleBy e env (h1 :: hs)) h2
  unfold leaving at h3
  simp only [bind_assoc] at h3
  exact h3
end
noncomputable abbrev XE := St → Value → Hp → Prop
noncomputable def PXE (X : Cx) (e : Expr) (t : XE → TE) : Prop := ∀ (pins : List (Addr × Obj)) (s : Shared) (σ : St) (H : Hp) (Q : VK) (Ex : XE), Inv X pins σ H s → t Ex σ H Q → wpAny (model X.prog X.w) X.A (eval e X.env) (EP X pins σ Q) (XP X pins Ex) s
noncomputable def PX (X : Cx) (st : Stmt) (t : XE → TS) : Prop := ∀ (pins : List (Addr × Obj)) (s : Shared) (σ : St) (H : Hp) (D : Ends) (Ex : XE), Inv X pins σ H s → t Ex D σ H → wpAny (model X.prog X.w) X.A (exec st X.env) (SP X pins D) (XP X pins Ex) s
noncomputable def PXs (X : Cx) (st : List Stmt) (t : XE → TS) : Prop := ∀ (pins : List (Addr × Obj)) (s : Shared) (σ : St) (H : Hp) (D : Ends) (Ex : XE), Inv X pins σ H s → t Ex D σ H → wpAny (model X.prog X.w) X.A (execs st X.env) (SP X pins D) (XP X pins Ex) s
section
variable {X : Cx} {k : Nat} {f : Addr} {fd : FuncData} {ps : List Str} {sp : Sp} {dvs : List V} {ds : List Value} {x : Str} {p pos pos' : Pos} {e : Expr} {es : List Expr} {t : TA}
theorem PA.nox (h : PA X.nox es t) {E : Value → Shared → Prop} {pos : Pos} {pins : List (Addr × Obj)} {s : Shared} {σ : St} {H : Hp} {Q : List V → Hp → Prop} (I : Inv X pins σ H s) (hw : t σ H Q) : wpAny (model X.prog X.w) X.A (spliced (backTo pos (starEach es X.env))) (AP X pins σ Q) E s :=
 wpAny_mono (h pos pins s σ H Q (I.wish _) hw) (fun _ _ ⟨vs, H', I', r, q⟩ => ⟨vs, H', I'.unwish, r, q⟩) fun _ _ z => False.elim z
theorem run_fnX {pins : List (Addr × Obj)} {σ : St} {H : Hp} {s : Shared} {Q : VK} {us : List Value} {vs : List V} {Ex : XE} (F : FnOk X.prog X.w X.K X.mg X.base (CX1 X.prog X.w) k f fd ps sp) (hr : Room k X.A) (hb : Binds X.K fd ps ds) (hd : Vals dvs ds)
  (I : Inv X pins σ H s) (r : Vals vs us) (h : sp (vs ++ dvs) H Q (fun c _ H' => Ex σ c H')) : wpAny (model X.prog X.w) X.A (call (.ref f) us) (EP X pins σ Q) (XP X pins Ex) s := by
 have r2 := r.append hd
 have hl := r2.length.symm.trans (F.len _ _ _ _ h)
 refine wpAny_call (codeAny_mono (F.run _ _ _ _ _ _ _ Q _ hr I.env0 (hb s us I.kIn hl) r2 h) fun a s' hq => ?_)
 match a, hq with
 | .error _, hq => exact ⟨σ, H, s, I, hq⟩
 | .ok (.ret _), hq => exact I.after hq
noncomputable def xCall (sp : Sp) (dvs : List V) (t : TA) : XE → TE := fun Ex σ H Q => t σ H fun vs H1 => sp (vs ++ dvs) H1 Q (fun c _ H' => Ex σ c H')
theorem pxe_call (F : FnOk X.prog X.w X.K X.mg X.base (CX1 X.prog X.w) k f fd ps sp) (hr : Room k X.A) (hg : Gl X x) (hm : X.mg x = some (.ref f)) (hk : PySem.W.keepIn X.K (.ref f) = true) (hb : Binds X.K fd ps ds) (hd : Vals dvs ds)
  (ha : PA X.nox (e :: es) t) (hdb : (x == ("__debug__" : Str)) = false := by decide) (he : starEach (e :: es) X.env = (false, eval e X.env) :: starEach es X.env := by rfl) (hpl : (backTo pos (starEach es X.env)).any (·.1) = false := by rfl) :
  PXE X (.Call (.Name x p) (e :: es) [] pos) (xCall sp dvs t) := by
 intro pins s σ H Q Ex I h
 refine wpAny_Call_Name_kw (ld_glob I hg hm (Q := _) ?_ hdb)
 exact PySem.W.callWith_K (h₀ := X.base) I.ok.mod.kin hk (thn (ha.nox I h) fun us s1 ⟨vs, H1, I1, r, q⟩ => ⟨I1.kIn, run_fnX F hr hb hd I1 r q⟩) he hpl
noncomputable def xDrop (te : XE → TE) : XE → TS := fun Ex D σ H => te Ex σ H fun _ H1 => D.nx σ H1
theorem px_expr {te : XE → TE} (he : PXE X e te) (hs : swapsWith e none pos.line X.env = pure false := by rfl) : PX X (.Expr e pos) (xDrop te) := fun pins s σ H D Ex I h =>
 wpAny_Expr_any (thn (he pins s σ H _ Ex I h) fun v s1 ⟨x, H1, I1, r1, q1⟩ => ⟨σ, H1, I1, q1⟩) I.quiet hs
noncomputable def xIf (c : TT) (t u : XE → TS) : XE → TS := fun Ex D σ H => c σ H fun b H1 => if b = true then t Ex D σ H1 else u Ex D σ H1
theorem px_if {c : Expr} {a b : List Stmt} {tc : TT} {t u : XE → TS} (hc : PT X.nox c tc) (ha : PXs X a t) (hb : PXs X b u) : PX X (.If c a b pos) (xIf tc t u) := by
 intro pins s σ H D Ex I h
 refine wpAny_If (wpAny_mono (hc pins s σ H _ (I.wish _) h) (fun d s1 ⟨H1, I1, q1⟩ => ?_) fun _ _ z => False.elim z)
 cases d with
 | true => exact ha pins s1 σ H1 D Ex I1.unwish q1
 | false => exact hb pins s1 σ H1 D Ex I1.unwish q1
theorem pxs_one {st : Stmt} {t : XE → TS} (h1 : PX X st t) : PXs X [st] t := by
 intro pins s σ H D Ex I h
 refine wpAny_execs_cons (thn (h1 pins s σ H D Ex I h) fun f s1 q => ?_)
 cases f with
 | next => exact wpAny_execs_nil q
 | _ => exact q
end
end L2

namespace L2
open PySem PySem.Spec PyProof.Rows
noncomputable def ExcAt (h : Heap) (C : Addr) (bm : List Value) : Prop := bm.contains (.type "BaseException") = true ∧ ∃ nm q N bs hd sn su ab cl dd k0 k1 k2 k3 k5 nid, h.get? C = some (excClassObj nm q C N bs bm hd sn su ab cl dd k0 k1 k2 k3 k5 nid)
theorem ExcAt.keeps {h h' : Heap} {C : Addr} {bm : List Value} (x : ExcAt h C bm) (k : ∀ b o, h.get? b = some o → h'.get? b = some o) : ExcAt h' C bm :=
 ⟨x.1, let ⟨nm, q, N, bs, hd, sn, su, ab, cl, dd, k0, k1, k2, k3, k5, nid, e⟩ := x.2; ⟨nm, q, N, bs, hd, sn, su, ab, cl, dd, k0, k1, k2, k3, k5, nid, k _ _ e⟩⟩
section
variable {M : Model} {A : Around} {E : Value → Shared → Prop}
theorem matches_own {s : Shared} {e C C0 : Addr} {bm bm0 : List Value} {oe : Obj} {Q : Bool → Shared → Prop} (x : ExcAt s.heap C bm) (y : ExcAt s.heap C0 bm0) (he : s.heap.get? e = some oe) (hc : oe.cls = .ref C) (hq : Q ((Value.ref C :: bm).contains (.ref C0)) s) :
  wpAny M A (excMatches (.ref e) (.ref C0)) Q E s := by
 obtain ⟨b1, nm, q, N, bs, hd, sn, su, ab, cl, dd, k0, k1, k2, k3, k5, nid, hC⟩ := x
 obtain ⟨b2, nm', q', N', bs', hd', sn', su', ab', cl', dd', k0', k1', k2', k3', k5', nid', hD⟩ := y
 obtain ⟨h, g, d, t, os⟩ := s
 have hcB : (Value.ref C0 :: bm0).contains (.type "BaseException") = true := by rw [List.contains_cons, b2, Bool.or_true]
 have f := tc_notTuple
 unfold excMatches
 generalize hb : (Value.ref C :: bm).contains (.ref C0) = b at hq
 repeat (first | (with_reducible refine wpAny_loadPart_at he ?_; rw [hc]) | with_reducible refine wpAny_loadPart_at hD ?_ | (with_reducible refine wpAny_isSubtype_exc hD ?_; rw [hcB]) | (with_reducible refine wpAny_isSubtype_exc hC ?_; rw [hb]) | wp_step)
 cases b with
 | true => wp_walk; exact hq
 | false => wp_walk; exact hq
end
section
variable {X : Cx} {pins : List (Addr × Obj)} {σ : St} {H : Hp} {s : Shared} {h' : Heap} {n : Str} {i : Nat}
theorem Inv.lost {m' : Str → Option Value} (I : Inv X pins σ H s) (hN : X.N.Nodup) (hi : X.N[i]? = some n) (hl : ∀ m, s.heap.Ns X.env.locals m → h'.Ns X.env.locals (fun y => if y = n then m' y else m y)) (hs : Heap.SameBut X.env.locals s.heap h') : Inv X pins (σ.set i none) H { s with heap := h' } := by
 have at' : ∀ b o, b ≠ X.env.locals → s.heap.get? b = some o → h'.get? b = some o := fun b o hb e => (hs.2 b hb).trans e
 have ne : ∀ b o, X.s₀.heap.get? b = some o → b ≠ X.env.locals := fun b o e => Nat.ne_of_lt (Nat.lt_of_lt_of_le (Heap.lt_size e) I.ok.above)
 have isC : ∀ x c, X.env.cells.lookup x = some c → ∀ v, s.heap.IsCell c v → h'.IsCell c v := fun x c e v ⟨o, ho, hd⟩ => ⟨o, at' c o (I.cne x c e) ho, hd⟩
 obtain ⟨m, hn, hlk⟩ := id I.loc
 have B := I.base
 constructor
 ·exact I.ok
 ·exact I.os
 ·exact I.bare
 ·constructor
  ·exact fun b o e n hb hx => at' b o (ne b o e) (B.keep b o e n hb hx)
  ·intro b o e n hb hx
   obtain ⟨sl, e1⟩ := B.slot b o e n hb hx
   exact ⟨sl, at' b _ (ne b o e) e1⟩
  ·exact B.free
  ·intro b o e hx
   obtain ⟨o', e1⟩ := B.there b o e hx
   exact ⟨o', at' b _ (ne b o e) e1⟩
  ·exact B.tups
  ·exact B.frzs
  ·exact B.tbls
 ·refine ⟨_, hl m hn, fun j y v e1 e2 e3 => ?_⟩
  have hj : j ≠ i := fun z => by
   subst z
   rw [List.getElem?_set] at e2
   simp at e2
  rw [List.getElem?_set_ne (Ne.symm hj)] at e2
  obtain ⟨u, r, q⟩ := hlk j y v e1 e2 e3
  have hy : y ≠ n := fun z => hj (nodup_ix hN e1 (z ▸ hi))
  refine ⟨u, r, q.imp (fun ⟨a, b⟩ => ⟨a, (if_neg hy).trans b⟩) fun ⟨kd, c, ec, z⟩ => ⟨kd, c, ec, isC y c ec _ z⟩⟩
 ·intro x c e
  obtain ⟨v, z⟩ := I.cell x c e
  exact ⟨v, isC x c e v z⟩
 ·exact I.free
 ·exact I.freeC
 ·intro p hp
  obtain ⟨e, nn, nl, nf, d⟩ := I.pin p hp
  exact ⟨at' _ _ nl e, nn, nl, nf, d⟩
 ·intro b o e
  refine (I.hok b o e).stay (fun c u hc q => at' c u (fun z => ?_) q) (fun _ q => q) fun _ _ q => q
  have hf := I.free
  rw [← z] at hf
  rcases hc with y | y
  ·rw [← y, hf] at e; cases e
  ·rw [hf] at y; cases y
 ·simpa using I.len
theorem name_goes {M : Model} {A : Around} {E : Value → Shared → Prop} {pos : Pos} {Q : Unit → Shared → Prop} (I : Inv X pins σ H s) (hN : X.N.Nodup) (hi : X.N[i]? = some n) (hk : X.env.scope.names.lookup n = some .local)
  (h : ∀ s', Inv X pins (σ.set i none) H s' → Q () s') : wpAny M A (do bindName X.env n .none; unbindBehindTheSuite X.env n pos) Q E s := by
 have hlt : i < σ.length := I.len ▸ (List.getElem?_eq_some_iff.mp hi).1
 refine wpAny_bind (wpAny_bindName (store_ok (v := .non) I hN hi (.inl hk) rfl (fun s1 I1 => ?_) (.inr hk)))
 unfold unbindBehindTheSuite
 refine wpAny_onRaise ?_
 obtain ⟨m, hn, hlk⟩ := id I1.loc
 obtain ⟨u, _, q⟩ := hlk i n .non hi (by rw [List.getElem?_set_self hlt]) (.inl hk)
 have hv : m n = some u := by
  rcases q with q | ⟨q, _⟩
  ·exact q.2
  ·have q' : X.env.scope.names.lookup n = some .cell ∨ X.env.scope.names.lookup n = some .free := q
   rw [hk] at q'
   rcases q' with q' | q' <;> cases q'
 refine wpAny_unbindName_local hk hn hv (by simp [I.ok.kind]) fun h2 w hn2 hs2 => ?_
 have J := I1.lost (h' := h2) (m' := fun _ => w) hN hi (fun m2 hm2 => ?_) hs2
 ·rw [List.set_set] at J
  exact h _ J
 ·have : m2 = m := by
   obtain ⟨o, es, ep, ho, hd, _, z⟩ := hm2
   obtain ⟨o', es', ep', ho', hd', _, z'⟩ := hn
   rw [ho] at ho'; cases ho'
   rw [hd] at hd'; cases hd'
   exact funext fun y => (z y).symm.trans (z' y)
  rw [this]
  exact hn2
end
noncomputable abbrev Cx.row (X : Cx) (e : Value) : Cx := { X with A := X.A.mark (some e), calm := false, xe := fun _ _ => False }
section
variable {X : Cx} {pins : List (Addr × Obj)} {σ : St} {H : Hp} {s : Shared} {e : Value}
theorem Inv.row (I : Inv X pins σ H s) (e : Value) : Inv (X.row e) pins σ H s := by
 have ok : (X.row e).Ok := by
  have o := I.ok
  exact ⟨o.mod, o.kind, o.glob, o.blt, o.above, o.inj, o.has, o.cab, (fun z => nomatch (show false = true from z)), o.frames, o.stk, o.exf, o.bs, o.bsz, o.noex, o.exfs, o.funs, o.frf⟩
 exact ⟨ok, I.os, I.bare, I.base, I.loc, I.cell, I.free, I.freeC, I.pin, I.hok, I.len⟩
theorem Inv.unrow (I : Inv (X.row e) pins σ H s) (o : X.Ok) : Inv X pins σ H s := ⟨o, I.os, I.bare, I.base, I.loc, I.cell, I.free, I.freeC, I.pin, I.hok, I.len⟩
noncomputable def Ends.drop (D : Ends) (i : Nat) : Ends := { nx := fun σ H => D.nx (σ.set i none) H, rt := D.rt, bk := fun σ H => D.bk (σ.set i none) H, ct := fun σ H => D.ct (σ.set i none) H }
theorem flight_off {M : Model} {A : Around} {E : Value → Shared → Prop} {Q : Unit → Shared → Prop} {x T : Addr} {cls : Value} (I : Inv X pins σ H s) (hx : H x = some (.ext (IsExc x T cls))) (hT : H T = some (.ext (IsEnt T)))
  (h : ∀ s', Inv X pins σ H s' → Q () s') : wpAny M A (setFlight (.ref x) none) Q E s := by
 obtain ⟨⟨oe, vs, f1, f2, f3, f4⟩, _⟩ := I.hok x _ hx
 obtain ⟨⟨oT, ts, g1, g2, g3⟩, _⟩ := I.hok T _ hT
 have hsz : 3 < ts.size := by
  obtain ⟨z, _⟩ := Array.getElem?_eq_some_iff.mp g3
  exact z
 have mf : Obj.mapFields (·.setIfInBounds 3 .none) oT = { oT with data := .fields (ts.setIfInBounds 3 .none) } := by
  obtain ⟨oc, od, da, sl⟩ := oT
  obtain rfl : da = _ := g2
  rfl
 have up : (s.heap.update T (Obj.mapFields (·.setIfInBounds 3 .none))).get? T = some { oT with data := .fields (ts.setIfInBounds 3 .none) } := by
  rw [Heap.get?_update_self _ g1 (by rw [mf]; rfl), mf]
 refine wpAny_setFlight_none f1 f3 f4 g1 g2 hsz (h _ ?_)
 have J := I.write (x := T) (e := T) (o := .ext (IsEnt T)) (t' := s.toks) (h' := s.heap.update T (Obj.mapFields (·.setIfInBounds 3 .none))) (by rw [hT]; trivial) (.inl rfl) ?_ ?_ ?_
 ·have : upd H T (.ext (IsEnt T)) = H := by
   funext b
   by_cases hb : b = T
   ·subst hb; rw [qW]; exact hT.symm
   ·exact qA hb
  rw [this] at J
  exact J
 ·exact fun b u hb e => by rw [Heap.get?_update_other _ _ (Ne.symm hb)]; exact e
 ·exact ⟨_, up⟩
 ·exact ⟨⟨_, _, up, rfl, by rw [Array.getElem?_setIfInBounds]; simp [hsz]⟩, ⟨_, up⟩, fun h1 h2 ⟨o, ws, e1, e2⟩ z => ⟨o, ws, z o e1, e2⟩⟩
theorem row_as {D : Ends} {x T C C0 : Addr} {bm bm0 : List Value} {cn n : Str} {np pos : Pos} {i : Nat} {b0 : Stmt} {suite : List Stmt} {rest : List ExceptHandler} {ts : TS} (I : Inv X pins σ H s) (hx : H x = some (.ext (IsExc x T (.ref C)))) (hT : H T = some (.ext (IsEnt T)))
  (hN : X.N.Nodup) (hi : X.N[i]? = some n) (hk : X.env.scope.names.lookup n = some .local) (hg : Gl X cn) (hm : X.mg cn = some (.ref C0)) (c1 : ExcAt X.base C bm) (c2 : ExcAt X.base C0 bm0) (hit : (Value.ref C :: bm).contains (.ref C0) = true)
  (hs : PSs (X.row (.ref x)) (b0 :: suite) ts) (q : ts (D.drop i) (σ.set i (some (.ref x))) H) (hdb : (cn == ("__debug__" : Str)) = false := by decide) :
  wpAny (model X.prog X.w) X.A (handleBy (.ref x) X.env (.ExceptHandler (some (.Name cn np)) (some n) (b0 :: suite) pos :: rest)) (SP X pins D) X.xe s := by
 refine wpAny_handleBy_cons (codeAny_handlers_test ?_) (by intro z; cases z)
 have IR := I.row (.ref x)
 obtain ⟨⟨oe, vs, f1, f2, f3, f4⟩, _⟩ := I.hok x _ hx
 refine ld_glob (X := X.row (.ref x)) IR hg hm (matches_own (c1.keeps I.bk) (c2.keeps I.bk) f1 f2 ?_) hdb
 rw [hit]
 refine codeAny_handlers_suite_as (flight_off IR hx hT fun s1 I1 => store_ok (X := X.row (.ref x)) (v := .ref x) I1 hN hi (.inl hk) rfl (fun s2 I2 => ?_) (.inr hk))
 refine wpAny_mono (hs pins s2 _ H (D.drop i) I2 q) (fun f s3 h3 => ?_) fun _ _ z => False.elim z
 cases f with
 | next =>
  obtain ⟨σ', H', J, z⟩ := h3
  exact name_goes (J.unrow I.ok) hN hi hk fun s4 J4 => ⟨_, H', J4, z⟩
 | brk =>
  obtain ⟨σ', H', J, z⟩ := h3
  exact name_goes (J.unrow I.ok) hN hi hk fun s4 J4 => ⟨_, H', J4, z⟩
 | cont =>
  obtain ⟨σ', H', J, z⟩ := h3
  exact name_goes (J.unrow I.ok) hN hi hk fun s4 J4 => ⟨_, H', J4, z⟩
 | ret u =>
  obtain ⟨v, σ', H', J, r, z⟩ := h3
  exact name_goes (J.unrow I.ok) hN hi hk fun s4 J4 => ⟨v, _, H', J4, r, z⟩
end
end L2

namespace L2
open PySem PySem.Spec PySem.W
section
variable {prog : Program} {w : World} {A : Around} {E : Value → Shared → Prop} {h : Heap} {g : Array GenState} {d : Drawn} {t : Nat} {os : OsState} {a C : Addr} {o : Obj} {bm : List Value}
theorem xcls_get {R : Result → Shared → Prop} (hx : h.get? a = some o) (hc : o.cls = .ref C) (hC : ExcAt h C bm) (ob : bm.contains (.type "object") = true) (hq : R (.ok (.ret (.ref C))) ⟨h, g, d, t, os⟩) :
  codeAny (model prog w) A (.call (.builtin "getset_descriptor.__get__") ⟨[.builtin "object.__class__", .ref a, .ref C], []⟩) R ⟨h, g, d, t, os⟩ := by
 obtain ⟨b1, nm, q, N, bs, hd, sn, su, ab, cl, dd, k0, k1, k2, k3, k5, nid, eC⟩ := hC
 have t5 : (⟨h, g, d, t, os⟩ : Shared).TypeIs (.builtin "object.__class__") "getset_descriptor" := F.typeOf_object_class
 have cB : (Value.ref C :: bm).contains (.type (".".intercalate ("object.__class__".cutAt '.').dropLast)) = true := by rw [F.owner_object_class, List.contains_cons, ob]; rfl
 refine codeAny_call_builtin F.slot_gs_get.plain F.entry_gs_get (F.slot_gs_get.check _ _ _ _ _ _ _ _ t5 (F.args_gs_get _ _ _) ?_)
 repeat (any_goals (first | assumption | (with_reducible refine wpAny_loadPart_at hx ?_; rw [hc]) | (with_reducible refine wpAny_isSubtype_exc eC ?_; rw [cB]) | wp_step))
 refine ⟨Code.quiet_builtin _ (by decide +kernel), ?_⟩
 refine codeAny_builtin F.entry_object_class ?_
 repeat (any_goals (first | assumption | (with_reducible refine wpAny_loadPart_at hx ?_; rw [hc]) | wp_step))
theorem xcls_entry {tk : Tok} {Q : Fin → Shared → Prop} (hx : h.get? a = some o) (hc : o.cls = .ref C) (hC : ExcAt h C bm) (ob : bm.contains (.type "object") = true) (l3 : Looks (model prog w) h (typeLookup (.ref C) "__class__") (some (.builtin "object.__class__"))) (hq : Q (.done (.ret (.ref C))) ⟨h, g, d, t, os⟩) :
  wpAny (model prog w) A
   (Builtin.«object.__getattribute__» ⟨[.ref a, .str "__class__" tk], []⟩) Q E ⟨h, g, d, t, os⟩ := by
 have t5 : (⟨h, g, d, t, os⟩ : Shared).TypeIs (.builtin "object.__class__") "getset_descriptor" := F.typeOf_object_class
 have ft := F.typeOf_object_class
 have fg := F.slot_gs_get.lookup
 have fs := F.slot_gs_set.lookup
 repeat (any_goals (first | assumption | (with_reducible refine wpAny_loadPart_at hx ?_; rw [hc]) | with_reducible refine l3.at ?_ | wp_step))
 refine xcls_get hx hc hC ob ?_
 repeat any_goals (first | assumption | wp_step)
theorem xcls_check {M : Model} {nv : Value} {Q : Unit → Shared → Prop} (hx : h.get? a = some o) (hc : o.cls = .ref C) (hC : ExcAt h C bm) (hq : Q () ⟨h, g, d, t, os⟩) : wpAny M A (checkBuiltinCall "BaseException.__getattribute__" ⟨[.ref a, nv], []⟩) Q E ⟨h, g, d, t, os⟩ := by
 have e1 : builtinKind "BaseException.__getattribute__" = some .slot := by decide +kernel
 have e2 : splitId "BaseException.__getattribute__" = some ("BaseException", "__getattribute__") := by decide +kernel
 obtain ⟨b1, nm, q, N, bs, hd, sn, su, ab, cl, dd, k0, k1, k2, k3, k5, nid, eC⟩ := hC
 have cB : (Value.ref C :: bm).contains (.type "BaseException") = true := by rw [List.contains_cons, b1]; rfl
 have e3 := F.args_bexc_ga (.ref a) nv
 simp only [checkBuiltinCall, e1, e2]
 refine wpAny_bind ?_
 unfold isInstance
 repeat (first | (with_reducible refine wpAny_loadPart_at hx ?_; rw [hc]) | (with_reducible refine wpAny_isSubtype_exc eC ?_; rw [cB]) | wp_step)
 exact hq
theorem xcls_call {tk : Tok} {R : Result → Shared → Prop} (hx : h.get? a = some o) (hc : o.cls = .ref C) (hC : ExcAt h C bm) (ob : bm.contains (.type "object") = true) (l3 : Looks (model prog w) h (typeLookup (.ref C) "__class__") (some (.builtin "object.__class__"))) (hq : R (.ok (.ret (.ref C))) ⟨h, g, d, t, os⟩) :
  codeAny (model prog w) A (.call (.builtin "BaseException.__getattribute__") ⟨[.ref a, .str "__class__" tk], []⟩) R ⟨h, g, d, t, os⟩ :=
 codeAny_call_builtin PySem.F.attrBase_ValueError.ga.plain F.entry_bexc_ga (xcls_check hx hc hC (xcls_entry hx hc hC ob l3 hq))
theorem xcls_by {tk : Tok} {Q : Value → Shared → Prop} (hx : h.get? a = some o) (hc : o.cls = .ref C) (hC : ExcAt h C bm) (ob : bm.contains (.type "object") = true) (l1 : Looks (model prog w) h (typeLookup (.ref C) "__getattribute__") (some (.builtin "BaseException.__getattribute__")))
  (l2 : Looks (model prog w) h (typeLookup (.ref C) "__getattr__") none) (l3 : Looks (model prog w) h (typeLookup (.ref C) "__class__") (some (.builtin "object.__class__"))) (hq : Q (.ref C) ⟨h, g, d, t, os⟩) :
  wpAny (model prog w) A (getAttrBy (.ref a) (.str "__class__" tk) false) Q E ⟨h, g, d, t, os⟩ := by
 have f3 := PySem.F.attrBase_ValueError.ga.bind (.ref a)
 have h2 : (Value.builtin "BaseException.__getattribute__" == Value.builtin "object.__getattribute__") = false := by decide +kernel
 have h1 : (onTheHeap (Value.ref C) && Value.builtin "BaseException.__getattribute__" == Value.builtin "object.__getattribute__") = false := by rw [h2]; rfl
 have h0 : (false && onTheHeap (Value.builtin "BaseException.__getattribute__")) = false := rfl
 repeat (any_goals (first | assumption | (with_reducible refine wpAny_loadPart_at hx ?_; rw [hc]) | with_reducible refine l1.at ?_ | with_reducible refine l2.at ?_ | wp_step))
 refine xcls_call hx hc hC ob l3 ?_
 repeat any_goals (first | assumption | wp_step)
theorem xcls_attr {Q : Option Value → Shared → Prop} (hx : h.get? a = some o) (hc : o.cls = .ref C) (hC : ExcAt h C bm) (ob : bm.contains (.type "object") = true) (l1 : Looks (model prog w) h (typeLookup (.ref C) "__getattribute__") (some (.builtin "BaseException.__getattribute__")))
  (l2 : Looks (model prog w) h (typeLookup (.ref C) "__getattr__") none) (l3 : Looks (model prog w) h (typeLookup (.ref C) "__class__") (some (.builtin "object.__class__"))) (hq : Q (some (.ref C)) ⟨h, g, d, t + 1, os⟩) :
  wpAny (model prog w) A (getAttr? (.ref a) "__class__") Q E ⟨h, g, d, t, os⟩ := by
 unfold getAttr? getAttrBy?
 repeat (any_goals (first | assumption | with_reducible apply xcls_by hx hc hC ob l1 l2 l3 | wp_step))
end
end L2
namespace L2
open PySem PySem.Spec PySem.W
noncomputable def ExcIn (x C : Addr) (h : Heap) : Prop := ∃ o, h.get? x = some o ∧ o.cls = .ref C
theorem kitx_exc {K : Frag} {x C : Addr} {bm : List Value} (hC : ∀ h, K.In h → ExcAt h C bm) (ob : bm.contains (.type "object") = true) (l1 : findIn K (.ref C) "__getattribute__" = some (some (.builtin "BaseException.__getattribute__")))
  (l2 : findIn K (.ref C) "__getattr__" = some none) (l3 : findIn K (.ref C) "__class__" = some (some (.builtin "object.__class__"))) : KitX K (.ref x) (.ref C) (ExcIn x C) where
 ty := fun _ _ _ ⟨o, h1, h2⟩ => h2 ▸ (Looks.ld h1).andThen .now
 it := fun _ h X _ => by
  obtain ⟨_, nm, q, N, bs, hd, sn, su, ab, cl, dd, k0, k1, k2, k3, k5, nid, eC⟩ := hC h X
  intro A' Q' E' s' k q
  unfold isType loadHead
  exact wpAny_bind (wpAny_loadPart (k _ _ eC) (wpAny_pure q))
 ne := fun h tp _ _ _ _ X htp => by
  obtain ⟨_, nm, q, N, bs, hd, sn, su, ab, cl, dd, k0, k1, k2, k3, k5, nid, eC⟩ := hC h X
  refine Bool.eq_false_iff.mpr fun z => ?_
  have e : C = tp := Value.ref.inj (beq_iff_eq.mp z)
  rw [← e, eC] at htp
  have z2 := congrArg (fun o => Option.map Obj.data o) htp
  cases z2
 ca := fun {_ _ _ _ _ s} X ⟨o, h1, h2⟩ k => by
  obtain ⟨h, g, d, t, os⟩ := s
  exact xcls_attr h1 h2 (hC h X) ob (looks_findIn X l1) (looks_findIn X l2) (looks_findIn X l3) k
structure Asks (K : Frag) (C : Addr) (bm : List Value) : Prop where
 at' : ∀ h, K.In h → ExcAt h C bm
 ob : bm.contains (.type "object") = true
 l1 : findIn K (.ref C) "__getattribute__" = some (some (.builtin "BaseException.__getattribute__"))
 l2 : findIn K (.ref C) "__getattr__" = some none
 l3 : findIn K (.ref C) "__class__" = some (some (.builtin "object.__class__"))
section
variable {X : Cx}
theorem call_isiE : CallR X (.builtin "isinstance") (fun xs H Q => ∃ x T C bm D b, xs = [.ref x, .ref D] ∧ H x = some (.ext (IsExc x T (.ref C))) ∧ Asks X.K C bm ∧ kitOne X.K (.ref C) (.ref D) = some b ∧ Q (.bl b) H) := by
 intro pins s σ H xs us Q I r h
 obtain ⟨x, T, C, bm, D, b, rfl, hx, ak, e, q⟩ := h
 obtain ⟨u, v, rfl, ru, rv⟩ := vals2 r
 cases ru
 cases rv
 obtain ⟨⟨o, vs, h1, h2, _⟩, _⟩ := I.hok x _ hx
 exact kia_one (kitx_exc ak.at' ak.ob ak.l1 ak.l2 ak.l3) I.kIn ⟨o, h1, h2⟩ e (fun z => nomatch z) fun tk => ⟨.bl b, H, I.tok _, rfl, q⟩
theorem call_isiT : CallR X (.builtin "isinstance") (fun xs H Q => ∃ x T C bm D b, xs = [.ref x, .ty D] ∧ H x = some (.ext (IsExc x T (.ref C))) ∧ Asks X.K C bm ∧ kitOne X.K (.ref C) (.type D) = some b ∧ Q (.bl b) H) := by
 intro pins s σ H xs us Q I r h
 obtain ⟨x, T, C, bm, D, b, rfl, hx, ak, e, q⟩ := h
 obtain ⟨u, v, rfl, ru, rv⟩ := vals2 r
 cases ru
 cases rv
 obtain ⟨⟨o, vs, h1, h2, _⟩, _⟩ := I.hok x _ hx
 exact kia_one (kitx_exc ak.at' ak.ob ak.l1 ak.l2 ak.l3) I.kIn ⟨o, h1, h2⟩ e (fun z => nomatch z) fun tk => ⟨.bl b, H, I.tok _, rfl, q⟩
end
end L2

namespace L2
open PySem PySem.Spec PySem.W PyProof.Rows
noncomputable abbrev bmV : List Value := [.type "ValueError", .type "Exception", .type "BaseException", .type "object"]
noncomputable def wordKeys (es : List DictEntry) : Bool := es.all fun e => match e.key with | .str _ _ => true | _ => false
structure Ref (K : Frag) (mg : Str → Option Value) (x : Str) (C : Addr) (bm : List Value) : Prop where
 bd : mg x = some (.ref C)
 own : ∀ h, K.In h → OwnCls x C bmV "ValueError.__new__" mg h
 asks : Asks K C bm
 tail : ∀ h, K.In h → OwnTail h bmV (.ref C :: bm)
theorem ref_mk {K : Frag} {h : Heap} {mg : Str → Option Value} {x : Str} {C N : Addr} {nm q : Str} {bs bm : List Value} {hd : Bool} {sn : List Str} {su : List Value} {ab : Bool} {cl : Option Bool} {dd nd : Option Addr} {k0 k1 k2 k3 k5 : Option Value} {nc : Value} {es : Array DictEntry} {ne : Nat} {ns : Array (Option Value)}
  (X : K.In h) (G : h.Ns mainGlobals mg) (t : ∀ h, K.In h → OwnTail h bmV bm) (a : nsIn K mainGlobals x = some (some (.ref C))) (l : K.lookup C = some (excClassObj nm q C N bs bm hd sn su ab cl dd k0 k1 k2 k3 k5 "ValueError.__new__"))
  (lN : K.lookup N = some ⟨nc, nd, .dict es ne, ns⟩) (ok : wordKeys es.toList = true) (ni : nsIn K N "__init__" = some none)
  (l1 : findIn K (.ref C) "__getattribute__" = some (some (.builtin "BaseException.__getattribute__"))) (l2 : findIn K (.ref C) "__getattr__" = some none) (l3 : findIn K (.ref C) "__class__" = some (some (.builtin "object.__class__"))) : Ref K mg x C bm := by
 have ok' : nsOkIn K N = true := by
  unfold nsOkIn
  rw [lN]
  show es.all _ = true
  rw [← Array.all_toList]
  exact ok
 refine ⟨mg_of X G a, fun base Y => ?_, ⟨fun base Y => ⟨?_, ?_⟩, ?_, l1, l2, l3⟩, fun base Y => ?_⟩
 ·exact ⟨mg_of X G a, bm, N, nm, q, bs, hd, sn, su, ab, cl, dd, k0, k1, k2, k3, k5, _, Y _ _ l, .of_isNs (isNs_of_in Y ok'), nsMap_none_of_in Y ok' ni, t base Y⟩
 ·exact (t base Y).hasType rfl
 ·exact ⟨nm, q, N, bs, hd, sn, su, ab, cl, dd, k0, k1, k2, k3, k5, _, Y _ _ l⟩
 ·exact (t h X).hasType rfl
 ·exact .own (Y _ _ l) (.of_isNs (isNs_of_in Y ok')) (nsMap_none_of_in Y ok' ni) (t base Y)
end L2

namespace L2
open PySem PySem.Spec PySem.W PyProof.Rows
structure Dx (P : Program) (w : World) (K : Frag) (mg : Str → Option Value) (base : Heap) (x : Str) (k : Nat) (ps : List Str) (sp : Sp) : Prop where
 ex : ∃ f fd, FnOk P w K mg base (CX1 P w) k f fd ps sp ∧ mg x = some (.ref f) ∧ keepIn K (.ref f) = true ∧ Binds K fd ps []
section
variable {P : Program} {w : World} {K : Frag} {mg : Str → Option Value} {base : Heap} {x : Str} {st : Stmt} {j k : Nat} {N ps : List Str} {sp sp' : Sp}
theorem Fd.okx (F : Fd K mg x st ps) (S : FnScope N ps (xB st)) (len : ∀ vs H Q E, sp vs H Q E → vs.length = ps.length)
  (hbody : ∀ (f : Addr) (cdv : Value) (A : Around) (outer : List Env) (s : Shared) (H : Hp) (vs : List V) (Q : VK) (E : XK), Room k (A.deeper (envOfC x (xB st) s.heap.objs.size f cdv)) → sp vs H Q E →
   ∃ t, PSs (cxOf (CX1 P w) P w K mg base N x (xB st) f cdv A outer s H E) (xC st) t ∧ t { nx := fun _ H' => Q .non H', rt := Q } (start N vs) H) : Dx P w K mg base x (k + 1) ps sp :=
 let ⟨f, fd, F, a, b, c⟩ := F.ex
 ⟨f, fd, F.ok1 S len (hbody f), a, b, c⟩
end
section
variable {P : Program} {w : World} {K : Frag} {mg : Str → Option Value} {base : Heap} {N : List Str} {qual : Str} {scope : Scope} {f : Addr} {cd : Value} {A : Around} {outer : List Env} {s₀ : Shared} {H₀ : Hp} {E : XK} {j k : Nat} {ps : List Str} {sp : Sp} {x : Str} {p pos : Pos} {e : Expr} {es : List Expr} {t : TA}
theorem qE (D : Dx P w K mg base x j ps sp) (hr : Room k (cxOf (CX1 P w) P w K mg base N qual scope f cd A outer s₀ H₀ E).A) (ha : PA (cxOf (CX1 P w) P w K mg base N qual scope f cd A outer s₀ H₀ E) (e :: es) t) (hjk : j ≤ k := by first | decide | omega)
  (hg : Gl (cxOf (CX1 P w) P w K mg base N qual scope f cd A outer s₀ H₀ E) x := by rfl)
  (hdb : (x == ("__debug__" : Str)) = false := by decide) (he : starEach (e :: es) (cxOf (CX1 P w) P w K mg base N qual scope f cd A outer s₀ H₀ E).env = (false, eval e (cxOf (CX1 P w) P w K mg base N qual scope f cd A outer s₀ H₀ E).env) :: starEach es (cxOf (CX1 P w) P w K mg base N qual scope f cd A outer s₀ H₀ E).env := by rfl)
  (hpl : (backTo pos (starEach es (cxOf (CX1 P w) P w K mg base N qual scope f cd A outer s₀ H₀ E).env)).any (·.1) = false := by rfl) :
  PE (cxOf (CX1 P w) P w K mg base N qual scope f cd A outer s₀ H₀ E) (.Call (.Name x p) (e :: es) [] pos) (tCall sp [] E t) := by
 obtain ⟨f', fd, F, a, b, c⟩ := D.ex
 exact pe_call (F.mono hjk) hr hg a b c .nil pass1 ha hdb he hpl
theorem ps_raise {C : Addr} {np cpos : Pos} (O : OwnCls x C bmV "ValueError.__new__" mg base) (ha : PA (cxOf (CX1 P w) P w K mg base N qual scope f cd A outer s₀ H₀ E) (e :: es) t) (hg : Gl (cxOf (CX1 P w) P w K mg base N qual scope f cd A outer s₀ H₀ E) x := by rfl)
  (hdb : (x == ("__debug__" : Str)) = false := by decide) (he : starEach (e :: es) (cxOf (CX1 P w) P w K mg base N qual scope f cd A outer s₀ H₀ E).env = (false, eval e (cxOf (CX1 P w) P w K mg base N qual scope f cd A outer s₀ H₀ E).env) :: starEach es (cxOf (CX1 P w) P w K mg base N qual scope f cd A outer s₀ H₀ E).env := by rfl)
  (hpl : (backTo cpos (starEach es (cxOf (CX1 P w) P w K mg base N qual scope f cd A outer s₀ H₀ E).env)).any (·.1) = false := by rfl) (hc : (cxOf (CX1 P w) P w K mg base N qual scope f cd A outer s₀ H₀ E).calm = true := by rfl) :
  PS (cxOf (CX1 P w) P w K mg base N qual scope f cd A outer s₀ H₀ E) (.Raise (some (.Call (.Name x np) (e :: es) [] cpos)) none pos) (tThrow C t E) :=
 ps_throw O PySem.F.excBase_ValueError hg hc throws1 ha hdb he hpl
end
section
variable {X : Cx} {pos : Pos} {e : Expr} {te : TE}
end
section
variable {X : Cx} {P : Program} {w : World} {K : Frag} {mg : Str → Option Value} {base : Heap} {j k : Nat} {ps : List Str} {sp : Sp} {x : Str} {p pos : Pos} {e : Expr} {es : List Expr} {t : TA}
theorem pxe_callX (D : Dx P w K mg base x j ps sp) (hr : Room k X.A) (ha : PA X.nox (e :: es) t) (hjk : j ≤ k := by first | decide | omega) (hg : Gl X x := by rfl)
  (h1 : X.prog = P := by rfl) (h2 : X.w = w := by rfl) (h3 : X.K = K := by rfl) (h4 : X.mg = mg := by rfl) (h5 : X.base = base := by rfl)
  (hdb : (x == ("__debug__" : Str)) = false := by decide) (he : starEach (e :: es) X.env = (false, eval e X.env) :: starEach es X.env := by rfl) (hpl : (backTo pos (starEach es X.env)).any (·.1) = false := by rfl) :
  PXE X (.Call (.Name x p) (e :: es) [] pos) (xCall sp [] t) := by
 subst h1 h2 h3 h4 h5
 obtain ⟨f, fd, F, a, b, c⟩ := D.ex
 exact pxe_call (F.mono hjk) hr hg a b c .nil ha hdb he hpl
end
theorem pe_ref {X : Cx} {K : Frag} {mg : Str → Option Value} {x : Str} {C : Addr} {bm : List Value} {pos : Pos} (R : Ref K mg x C bm) (hg : Gl X x := by rfl) (hm : X.mg = mg := by rfl) (hd : (x == ("__debug__" : Str)) = false := by decide) : PE X (.Name x pos) (tC (.ref C)) := by
 subst hm
 exact pe_glob (v := .ref C) hg R.bd rfl hd
noncomputable def rIsiE (K : Frag) : List V → Hp → VK → Prop := fun xs H Q => ∃ x T C bm D b, xs = [.ref x, .ref D] ∧ H x = some (.ext (IsExc x T (.ref C))) ∧ Asks K C bm ∧ kitOne K (.ref C) (.ref D) = some b ∧ Q (.bl b) H
noncomputable def rIsiT (K : Frag) : List V → Hp → VK → Prop := fun xs H Q => ∃ x T C bm D b, xs = [.ref x, .ty D] ∧ H x = some (.ext (IsExc x T (.ref C))) ∧ Asks K C bm ∧ kitOne K (.ref C) (.type D) = some b ∧ Q (.bl b) H
section
variable {X : Cx} {K : Frag}
theorem call_isiEK (hK : X.K = K := by rfl) : CallR X (.builtin "isinstance") (rIsiE K) := by subst hK; exact call_isiE
theorem call_isiTK (hK : X.K = K := by rfl) : CallR X (.builtin "isinstance") (rIsiT K) := by subst hK; exact call_isiT
theorem drop_nx {D : Ends} {i : Nat} {σ : St} {H : Hp} (h : D.nx (σ.set i none) H) : (D.drop i).nx σ H := h
end
theorem bt_ValueError : bootBuiltins "ValueError" = some (.type "ValueError") := by decide +kernel
end L2

namespace L2
open PySem PySem.Spec PyProof.Rows
section
variable {M : Model} {A : Around} {E : Value → Shared → Prop} {s : Shared}
end
end L2

namespace L2
open PySem PySem.Spec PyProof.Rows
section
variable {P : Program} {w : World} {K : PySem.W.Frag} {mg : Str → Option Value} {base : Heap} {N0 : List Str} {qual : Str} {sc : Scope} {f : Addr} {cd : Value} {A : Around} {outer : List Env} {s₀ : Shared} {H₀ : Hp} {E1 : XK} {scope : Scope} {cl : List (Str × Addr)} {N : List Str}
end
section
variable {P : Program} {w : World} {K : PySem.W.Frag} {mg : Str → Option Value} {base : Heap} {N0 : List Str} {qual : Str} {sc : Scope} {f : Addr} {cd : Value} {A : Around} {outer : List Env} {s₀ : Shared} {H₀ : Hp}
variable {X : Cx} {elt tg iter : Expr} {ifs : List Expr} {scope : Scope} {cpos : Pos} {N : List Str} {k : Nat} {js : List Nat} {cl : List (Str × Addr)} {g : TG} {tt : TT} {te : TE}
end
section
variable {Y : Cx} {E : XK} {P : Program} {w : World} {K : PySem.W.Frag} {mg : Str → Option Value} {base : Heap} {j k : Nat} {ps : List Str} {sp : Sp} {x : Str} {p pos : Pos} {e : Expr} {es : List Expr} {t : TA}
end
end L2

namespace L2
open PySem PySem.Spec PyProof.Rows
section
variable {M : Model} {A : Around} {E : Value → Shared → Prop}
theorem exc_class {s : Shared} {C0 : Addr} {bm0 : List Value} {Q : Bool → Shared → Prop} (y : ExcAt s.heap C0 bm0) (hq : Q true s) : wpAny M A (isExcClass (.ref C0)) Q E s := by
 obtain ⟨b2, nm', q', N', bs', hd', sn', su', ab', cl', dd', k0', k1', k2', k3', k5', nid', hD⟩ := y
 obtain ⟨h, g, d, t, os⟩ := s
 have hcB : (Value.ref C0 :: bm0).contains (.type "BaseException") = true := by rw [List.contains_cons, b2, Bool.or_true]
 unfold isExcClass
 repeat (first | with_reducible refine wpAny_loadPart_at hD ?_ | (with_reducible refine wpAny_isSubtype_exc hD ?_; rw [hcB]) | wp_step)
 exact hq
theorem exc_sub {s : Shared} {C : Addr} {bm : List Value} {v : Value} {Q : Bool → Shared → Prop} (x : ExcAt s.heap C bm) (hq : Q ((Value.ref C :: bm).contains v) s) : wpAny M A (isSubtype (.ref C) v) Q E s := by
 obtain ⟨b1, nm, q, N, bs, hd, sn, su, ab, cl, dd, k0, k1, k2, k3, k5, nid, hC⟩ := x
 obtain ⟨h, g, d, t, os⟩ := s
 exact wpAny_isSubtype_exc hC hq
theorem loop_yes {β : Type} {b : β} {f : Value → β → Sem (ForInStep β)} {s : Shared} {R : β → Shared → Prop} : ∀ {vs : List Value}, (∀ c ∈ vs, ∀ R : ForInStep β → Shared → Prop, R (.yield b) s → wpAny M A (f c b) R E s) → R b s → wpAny M A (forIn vs b f) R E s := by
 intro vs
 induction vs with
 | nil => intro _ h; rw [List.forIn_nil]; exact wpAny_pure h
 | cons c vs ih =>
  intro h hR
  rw [List.forIn_cons]
  exact wpAny_bind (h c List.mem_cons_self _ (ih (fun d hd => h d (List.mem_cons_of_mem _ hd)) hR))
theorem matches_none {s : Shared} {e p C : Addr} {bm : List Value} {cs : List Addr} {oe : Obj} {Q : Bool → Shared → Prop} (x : ExcAt s.heap C bm) (ys : ∀ D ∈ cs, ∃ bm', ExcAt s.heap D bm') (ht : IsTup s.heap p (cs.map Value.ref).toArray) (he : s.heap.get? e = some oe) (hc : oe.cls = .ref C)
  (no : ∀ D ∈ cs, (Value.ref C :: bm).contains (.ref D) = false) (hq : Q false s) : wpAny M A (excMatches (.ref e) (.ref p)) Q E s := by
 obtain ⟨o, ho, hcl, n, hd⟩ := ht
 unfold excMatches
 refine wpAny_bind (wpAny_isInstance ⟨o, ho, hcl⟩ isSubtype_tuple_tuple ?_)
 dsimp only
 rw [if_pos rfl]
 refine wpAny_bind (wpAny_seqItems ho hd ?_)
 dsimp only [Option.getD_some, Option.getD]
 refine wpAny_bind (wpAny_pure ?_)
 refine wpAny_bind (loop_yes (fun c hc R hR => ?_) ?_)
 ·obtain ⟨D, hD, rfl⟩ := List.mem_map.mp hc
  obtain ⟨bm', y⟩ := ys D hD
  refine wpAny_bind (exc_class y ?_)
  rw [if_neg (by decide)]
  exact wpAny_pure hR
 refine wpAny_bind (wpAny_typeOf_ref he ?_)
 rw [hc]
 refine wpAny_bind (loop_yes (fun c hc R hR => ?_) ?_)
 ·obtain ⟨D, hD, rfl⟩ := List.mem_map.mp hc
  refine wpAny_bind (exc_sub x ?_)
  rw [no D hD, if_neg (by decide)]
  exact wpAny_pure hR
 exact wpAny_pure hq
end
section
variable {X : Cx} {pins : List (Addr × Obj)} {σ : St} {H : Hp} {s : Shared}
noncomputable def xRow2 (base : Heap) (C0 : Addr) (i : Nat) (cs : List Addr) (ts : TS) (D : Ends) : XE := fun σ1 cls H1 => ∃ C bm, cls = .ref C ∧ ExcAt base C bm ∧ (∀ D ∈ cs, (Value.ref C :: bm).contains (.ref D) = false) ∧ (Value.ref C :: bm).contains (.ref C0) = true ∧
 ∀ x T p, H1 x = none → H1 T = none → T ≠ x → held H1 x T (.ref C) p = none → ts (D.drop i) (σ1.set i (some (.ref x))) (upd (held H1 x T (.ref C)) p (.tup (cs.map V.ref)))
noncomputable def tTry2 (base : Heap) (C0 : Addr) (i : Nat) (cs : List Addr) (tb : XE → TS) (ts : TS) : TS := fun D σ H => tb (xRow2 base C0 i cs ts D) D σ H
noncomputable def tRefs (cs : List Addr) : TE := fun _ H Q => ∀ p, H p = none → Q (.ref p) (upd H p (.tup (cs.map V.ref)))
theorem ps_try2 {outer : List Env} {body suite suite1 : List Stmt} {b0 b1 : Stmt} {tup : Expr} {cs : List Addr} {C0 : Addr} {bm0 : List Value} {cn n : Str} {np hpos hpos1 pos : Pos} {i : Nat} {tb : XE → TS} {ts : TS} (hex : X.ex = []) (hst : X.stack = X.env :: outer) (hf : X.env.frame = some X.env.locals)
  (hN : X.N.Nodup) (hi : X.N[i]? = some n) (hk : X.env.scope.names.lookup n = some .local) (hg : Gl X cn) (hm : X.mg cn = some (.ref C0)) (c2 : ExcAt X.base C0 bm0) (ys : ∀ D ∈ cs, ∃ bm', ExcAt X.base D bm') (ht : ∀ x, PE (X.row (.ref x)) tup (tRefs cs)) (hb : PXs X body tb) (hs : ∀ x, PSs (X.row (.ref x)) (b0 :: suite) ts) (hdb : (cn == ("__debug__" : Str)) = false := by decide) :
  PS X (.Try body [.ExceptHandler (some tup) none (b1 :: suite1) hpos1, .ExceptHandler (some (.Name cn np)) (some n) (b0 :: suite) hpos] [] [] pos) (tTry2 X.base C0 i cs tb ts) := by
 intro pins s σ H D I h
 rw [arm_exec_Try]
 refine wpAny_bind (wpAny_standAt (try_rows (wpAny_mono (hb pins s σ H D _ I h) (fun f s1 q => ?_) fun e s1 q => ?_)))
 ·cases f with
  | next => exact wpAny_execs_nil q
  | _ => exact q
 ·refine q.caught hex hst hf fun x T cls σ1 H1 h' ee hx hT ne ⟨C, bm, ec, c1, no, hit, q1⟩ J => ?_
  subst ee ec
  have JR := J.row (.ref x)
  refine wpAny_handleBy_cons (codeAny_handlers_test ?_) (by intro z; cases z)
  refine wpAny_mono (ht x pins _ σ1 _ (fun v H2 => ∃ p, v = .ref p ∧ held H1 x T (.ref C) p = none ∧ H2 = upd (held H1 x T (.ref C)) p (.tup (cs.map V.ref))) JR fun p hp => ⟨p, rfl, hp, rfl⟩) (fun v s2 ⟨y, H2, I2, r2, p, ey, hp, e2⟩ => ?_) fun _ _ z => False.elim z
  subst ey e2
  cases r2
  have ex : upd (held H1 x T (.ref C)) p (.tup (cs.map V.ref)) x = some (.ext (IsExc x T (.ref C))) := by
   have e0 : held H1 x T (.ref C) x = some (.ext (IsExc x T (.ref C))) := qW
   rw [qA (qB e0 hp)]; exact e0
  have eT : upd (held H1 x T (.ref C)) p (.tup (cs.map V.ref)) T = some (.ext (IsEnt T)) := by
   have e0 : held H1 x T (.ref C) T = some (.ext (IsEnt T)) := (qA ne).trans (qW ..)
   rw [qA (qB e0 hp)]; exact e0
  obtain ⟨⟨oe, vs, f1, f2, f3, f4⟩, _⟩ := I2.hok x _ ex
  obtain ⟨_, its, rv, tx⟩ := I2.hok p _ (qW (H := held H1 x T (.ref C)) (a := p) (o := .tup (cs.map V.ref)))
  have ei : its = cs.map Value.ref := by
   have : ∀ (l : List Addr) (us : List Value), Vals (l.map V.ref) us → us = l.map Value.ref := by
    intro l
    induction l with
    | nil => intro us z; cases z; rfl
    | cons a l ih =>
     intro us z
     cases z with
     | cons r t => cases r; rw [ih _ t]; rfl
   exact this cs its rv
  rw [ei] at tx
  refine matches_none (c1.keeps I2.bk) (fun D hD => let ⟨b, y⟩ := ys D hD; ⟨b, y.keeps I2.bk⟩) tx.tup f1 f2 no ?_
  exact row_as (I2.unrow J.ok) ex eT hN hi hk hg hm c1 c2 hit (hs x) (q1 x T p hx hT ne hp) hdb
end
end L2

namespace L2
open PySem PySem.Spec PyProof.Rows
section
variable {X : Cx}
noncomputable def rSlS : V → Option Int → Option Int → Hp → VK → Prop := fun x lo hi H Q => ∃ z : Str, x = .str z ∧ z.length ≤ 1000000 ∧ Q (.str (Txt.slice z lo hi)) H
theorem part_val {v : Value} {o : Option Int} (h : IsPart v o) : ∃ p : Option (Int × Tok), v = partValue p ∧ p.map (·.1) = o := by
 cases h with
 | none => exact ⟨none, rfl, rfl⟩
 | int i t => exact ⟨some (i, t), rfl, rfl⟩
theorem sl_str : SlR X rSlS := by
 intro pins s σ H x v vl vu lo hi sl Q I rx hs pl pu h
 obtain ⟨z, rfl, hz, q⟩ := h
 obtain ⟨t, rfl⟩ := rx
 obtain ⟨l, rfl, rfl⟩ := part_val pl
 obtain ⟨u, rfl, rfl⟩ := part_val pu
 have sz : sizeLine = 16777216 := sizeLine_eq
 refine ⟨"str", _, F.slot_str_getitem.lookup, typeIs_str _ _ _, wpAny_getItem_str_slice (l := l) (u := u) (st := none) hs rfl ?_⟩
 exact post_val_or_str ⟨Nat.le_trans (Txt.slice_le z _ _) (by omega), fun t' k => ⟨.str _, H, I.tok _, ⟨_, rfl⟩, q⟩⟩
end
end L2

namespace L2
open PySem PySem.Spec PyProof.Rows
section
variable {X : Cx} {tg : Expr}
end
section
variable {k : Nat} {js : List Nat} {g : TG} {tt : TT} {te : TE} {σ : St} {H1 : Hp} {Q : VK}
end
end L2
namespace HT
open PySem PySem.Spec PyProof.Rows
section
variable {prog : Program} {w : World} {A : Around} {E : Value → Shared → Prop} {s : Shared}
end
end HT
namespace L2
open PySem PySem.Spec PyProof.Rows
end L2

namespace L2
open PySem PySem.Spec PyProof.Rows
end L2

namespace L2
open PySem PySem.Spec PyProof.Rows
theorem PE.wk {X : Cx} {e : Expr} {t t' : TE} (h : PE X e t) (k : ∀ σ H Q, t' σ H Q → t σ H Q) : PE X e t' := fun pins s σ H Q I q => h pins s σ H Q I (k σ H Q q)
end L2

local macro_rules | `(tactic| wtm_at "zh") => `(tactic| first | assumption | exact L2.qW | (refine L2.qV (by assumption) _ _ _ ?_; wtm_at "zh") | (refine (show L2.Same _ _ by assumption) _ _ ?_; wtm_at "zh"))
local macro_rules | `(tactic| wtm_at "zs") => `(tactic| first | assumption | exact L2.SqT.of (by wtm_at "zh") | exact L2.SqL.of (by wtm_at "zh") | (refine L2.Same.seq (by assumption) ?_; wtm_at "zs"))
local macro_rules | `(tactic| wtm_at "zo") => `(tactic| first | exact Or.inl rfl | exact Or.inr rfl)
local macro_rules | `(tactic| wtm_at "zat") => `(tactic| first | rfl | assumption | exact L2.at_head _ _ | exact FP.at_int (by assumption) | exact L2.atI_nat (by assumption))
local macro_rules | `(tactic| wtm_at "zw") => `(tactic| repeat first
 | (with_reducible first | apply L2.w_seq | apply L2.w_asg | apply L2.w_c | apply L2.w_name | apply L2.w_op | apply L2.w_un | apply L2.w_I0 | apply L2.w_U | apply L2.w_test | apply L2.w_B | apply L2.w_bl | apply L2.w_exI | apply L2.w_not | apply L2.w_and | apply L2.w_or | apply L2.w_andV | apply L2.w_notV | apply L2.w_if | apply L2.w_ifS | apply L2.w_drop | apply L2.w_ret | apply L2.w_next | apply L2.w_cons | apply L2.w_nil | apply L2.w_call | apply L2.w_cb | apply L2.w_tup | apply L2.w_lst | apply L2.w_bm | apply L2.w_sl | apply L2.w_noPart | apply L2.w_part | apply L2.w_gnil | apply L2.w_gcons | apply L2.w_iList | apply L2.w_rng1 | apply L2.w_dget | apply L2.w_dput)
 | ((with_reducible show L2.tVar _ _ _ _); refine L2.w_var rfl ?_)
 | ((with_reducible show L2.rEq _ _ _ _); refine L2.w_eq rfl ?_)
 | ((with_reducible show L2.rNe _ _ _ _); refine L2.w_ne rfl ?_)
 | ((with_reducible show L2.rIxT _ _ _ _ _); refine L2.w_ixT (by wtm_at "zs") (by wtm_at "zat") ?_)
 | ((with_reducible show L2.rIxL _ _ _ _ _); refine L2.w_ixL (by wtm_at "zs") (by wtm_at "zat") ?_)
 | ((with_reducible show L2.gTup _ _ _ _ _ _ _); refine L2.w_gtup (by wtm_at "zs") rfl ?_)
 | ((with_reducible show L2.rLen _ _ _ _); refine L2.w_len (by first | exact .inl (by wtm_at "zs") | exact .inr (by wtm_at "zs")) ?_)
 | apply L2.w_true (FP.dec_str_eq _)
 | refine L2.w_false (FP.xW (by assumption)) ?_
 | refine L2.w_false (FP.xW (by decide +kernel)) ?_
 | (with_reducible first | apply L2.iteT | apply L2.iteF | apply L2.iteNT))
local macro_rules | `(tactic| wtm_at "zf") => `(tactic| wtm_at "zw"; (with_reducible first | apply L2.w_for | apply L2.w_comp); wtm_at "zw")
set_option tactic.hygienic false
namespace FP
open PySem L2
structure Bl (mg : Str → Option Value) : Prop where
 len' : mg "len" = none
 range' : mg "range" = none
 min' : mg "min" = none
 isinstance' : mg "isinstance" = none
 list' : mg "list" = none
 reversed' : mg "reversed" = none
 tuple' : mg "tuple" = none
 int' : mg "int" = none
 bool' : mg "bool" = none
 dict' : mg "dict" = none
 zip' : mg "zip" = none
structure FunE (K : PySem.W.Frag) (mg : Str → Option Value) (x : Str) (f : Addr) (fd : FuncData) (ps : List Str) : Prop where
 mg : mg x = some (.ref f)
 kp : PySem.W.keepIn K (.ref f) = true
 bd : Binds K fd ps []
section
seal L2.PE L2.PA L2.PS L2.PSs
variable {P : Program} {w : World} {K : PySem.W.Frag} {mg : Str → Option Value} {base : Heap}

theorem nat_lt {n : Int} {B : Nat} (h0 : 0 ≤ n) (h : n < (B : Int)) : n.natAbs < B := by omega
theorem big (n : Int) (h0 : 0 ≤ n) (h : n < 10 ^ 200) : n.natAbs < 2 ^ 1000 := nat_lt h0 (Int.lt_of_lt_of_le h (by decide +kernel))
theorem mul_bd {a b c d : Int} (ha : 0 ≤ a) (hb : 0 ≤ b) (h1 : a ≤ c) (h2 : b ≤ d) : 0 ≤ a * b ∧ a * b ≤ c * d :=
 ⟨Int.mul_nonneg ha hb, Int.mul_le_mul h1 h2 hb (Int.le_trans ha h1)⟩

theorem or_pure {t u : TT} {σ : St} {H : Hp} {b1 b2 : Bool} (h1 : ∀ K : Bool → Hp → Prop, K b1 H → t σ H K) (h2 : ∀ K : Bool → Hp → Prop, K b2 H → u σ H K) : ∀ K : Bool → Hp → Prop, K (b1 || b2) H → tOr t u σ H K := fun K h => by
 refine h1 _ ?_
 cases b1 with
 | true => rw [if_pos rfl]; rw [Bool.true_or] at h; exact h
 | false => rw [if_neg Bool.false_ne_true]; rw [Bool.false_or] at h; exact h2 _ h

theorem sc_law_take : FnScope ["deck", "many", "taken"] ["deck", "many"] (xB (top 43)) := ⟨rfl, rfl, rfl, by decide +kernel, rfl, by decide +kernel, by decide +kernel⟩
noncomputable def spTake : Sp := fun vs H Q _ => ∃ (dk : Addr) (m de : Int), vs = [.ref dk, .int m] ∧ H dk = some (.lst [.int de]) ∧ 0 < m ∧ m.natAbs < 2 ^ 1000 ∧ ∀ x d' : Int, 0 ≤ x → x < m → Q (.int x) (upd H dk (.lst [.int d']))
theorem ok_take {f : Addr} {fd : FuncData} (F : Fun K "_law_take" "_law_take" (top 43) f fd) : FnOk P w K mg base CX0 1 f fd ["deck", "many"] spTake := by
 refine F.ok sc_law_take (fun vs H Q E h => ?_) (fun cdv A outer s H vs Q E hr h => ?_)
 ·obtain ⟨dk, m, de, rfl, _⟩ := h
  rfl
 obtain ⟨dk, m, de, rfl, hd, h0, h1, q⟩ := h
 refine ⟨_, (qZ (qN (i := 2) sc_law_take.nd rfl (by wtm_at "zo") (xX op_mod (pe_ix (qU (K := K)) (pv 0) qF (fun _ _ => rfl)) (pv 1)))
  (qZ (qP (xX op_fdivB (pe_ix (qU (K := K)) (pv 0) qF (fun _ _ => rfl)) (pv 1)) (pg_sub (pv 0) qF set_list))
  (qJ (qO (pv 2))))), ?_⟩
 refine ⟨_, rfl, dk, _, 0, .int de, rfl, rfl, SqL.of hd, rfl, _, rfl, de, m, rfl, rfl, h0, ?_⟩
 refine ⟨_, rfl, dk, _, 0, .int de, rfl, rfl, SqL.of hd, rfl, _, rfl, de, m, rfl, rfl, ⟨h0, h1⟩, ?_⟩
 refine ⟨_, rfl, dk, [.int de], 0, 0, rfl, rfl, hd, rfl, ?_⟩
 exact ⟨_, rfl, q _ _ (Int.emod_nonneg _ (by omega)) (Int.emod_lt_of_pos _ h0)⟩

theorem sc_law_cell_at : FnScope ["script", "k"] ["script", "k"] (xB (top 39)) := ⟨rfl, rfl, rfl, by decide +kernel, rfl, by decide +kernel, by decide +kernel⟩
noncomputable def spCell (K : PySem.W.Frag) : Sp := fun vs H Q _ => ∃ (a : Addr) (ns : List Int) (k : Int), vs = [.ref a, .int k] ∧ SqL K H a (ns.map V.int) ∧ 0 ≤ k ∧ ∀ c : Int, Q (.int c) H
theorem ok_cell {f : Addr} {fd : FuncData} (F : Fun K "_law_cell_at" "_law_cell_at" (top 39) f fd) (B : Bl mg) : FnOk P w K mg base CX0 1 f fd ["script", "k"] (spCell K) := by
 refine F.ok sc_law_cell_at (fun vs H Q E h => ?_) (fun cdv A outer s H vs Q E hr h => ?_)
 ·obtain ⟨a, ns, k, rfl, _⟩ := h
  rfl
 obtain ⟨a, ns, k, rfl, hS, h0, q⟩ := h
 refine ⟨_, (qZ (ps_if (qS op_lt (pv 1) (xJ (call_lenK (K := K)) rfl B.len' bt_len (qQ (pv 0) qX)) (xE _)) (qJ (qO (pe_ix (qU (K := K)) (pv 0) (pv 1) (fun _ _ => rfl)))) qY)
  (qJ (qO qF))), ?_⟩
 refine ⟨_, rfl, _, rfl, a, _, rfl, .inl hS, _, _, rfl, rfl, _, rfl, ?_⟩
 refine ite2 (fun c => ?_) (fun c => ?_)
 ·have c' : k < (((ns.map V.int).length : Nat) : Int) := of_decide_eq_true c
  rw [List.length_map] at c'
  have hk : k.toNat < ns.length := by omega
  have e : k = ((k.toNat : Nat) : Int) := by omega
  have z : atI (ns.map V.int) ((k.toNat : Nat) : Int) = some (.int ns[k.toNat]) := atI_nat (by rw [List.getElem?_map, List.getElem?_eq_getElem hk] <;> rfl)
  rw [← e] at z
  exact ⟨_, rfl, _, rfl, a, _, k, _, rfl, rfl, hS, z, q _⟩
 ·exact q 0

theorem sc_law_stir : FnScope ["cell", "k", "number"] ["cell", "k"] (xB (top 40)) := ⟨rfl, rfl, rfl, by decide +kernel, rfl, by decide +kernel, by decide +kernel⟩
noncomputable def spStir : Sp := fun vs H Q _ => ∃ c k : Int, vs = [.int c, .int k] ∧ 0 ≤ k ∧ k ≤ 1000 ∧ ∀ x : Int, 0 ≤ x → x < 10 ^ 61 → Q (.int x) H
theorem stir1 {c k : Int} (h0 : 0 ≤ k) (h1 : k ≤ 1000) : 0 ≤ c % 10 ^ 40 * 48271 + 3 ^ 60 * (k + 1) * (k + 1) + k ∧ c % 10 ^ 40 * 48271 + 3 ^ 60 * (k + 1) * (k + 1) + k < 10 ^ 46 := by
 have a1 : 0 ≤ c % 10 ^ 40 := Int.emod_nonneg _ (by decide +kernel)
 have a2 : c % 10 ^ 40 < 10 ^ 40 := Int.emod_lt_of_pos _ (by decide +kernel)
 have b1 := mul_bd (a := 3 ^ 60) (b := k + 1) (c := 3 ^ 60) (d := 1001) (by decide +kernel) (by omega) (Int.le_refl _) (by omega)
 have b2 := mul_bd (a := 3 ^ 60 * (k + 1)) (b := k + 1) (c := 3 ^ 60 * 1001) (d := 1001) b1.1 (by omega) b1.2 (by omega)
 have e1 : (3 : Int) ^ 60 * 1001 * 1001 ≤ 10 ^ 40 := by decide +kernel
 have e2 : (10 : Int) ^ 40 * 48271 + 10 ^ 40 + 1000 < 10 ^ 46 := by decide +kernel
 generalize c % 10 ^ 40 = a at *
 generalize 3 ^ 60 * (k + 1) * (k + 1) = b at *
 have m : a * 48271 ≤ 10 ^ 40 * 48271 := Int.mul_le_mul_of_nonneg_right (Int.le_of_lt a2) (by decide)
 have n0 : 0 ≤ a * 48271 := Int.mul_nonneg a1 (by decide)
 generalize a * 48271 = z at *
 generalize (10 : Int) ^ 40 * 48271 = y at *
 generalize (3 : Int) ^ 60 * 1001 * 1001 = x at *
 generalize (10 : Int) ^ 40 = u at *
 generalize (10 : Int) ^ 46 = v at *
 omega
theorem stir2 {n : Int} (h0 : 0 ≤ n) (h1 : n < 10 ^ 46) : 0 ≤ n * n + 69621 * n ∧ n * n + 69621 * n < 10 ^ 93 := by
 have b := mul_bd h0 h0 (Int.le_of_lt h1) (Int.le_of_lt h1)
 have b2 := mul_bd (a := 69621) (b := n) (c := 69621) (d := 10 ^ 46) (by decide) h0 (Int.le_refl _) (Int.le_of_lt h1)
 have e : (10 : Int) ^ 46 * 10 ^ 46 + 69621 * 10 ^ 46 < 10 ^ 93 := by decide +kernel
 generalize n * n = x at *
 generalize 69621 * n = y at *
 generalize (10 : Int) ^ 46 * 10 ^ 46 = u at *
 generalize 69621 * (10 : Int) ^ 46 = v at *
 generalize (10 : Int) ^ 93 = z at *
 omega
theorem lt200 {n : Int} {k : Nat} (h : n < 10 ^ k) (hk : (10 : Int) ^ k ≤ 10 ^ 200 := by decide +kernel) : n < 10 ^ 200 := Int.lt_of_lt_of_le h hk
theorem ok_stir {f : Addr} {fd : FuncData} (F : Fun K "_law_stir" "_law_stir" (top 40) f fd) : FnOk P w K mg base CX0 1 f fd ["cell", "k"] spStir := by
 refine F.ok sc_law_stir (fun vs H Q E h => ?_) (fun cdv A outer s H vs Q E hr h => ?_)
 ·obtain ⟨c, k, rfl, _⟩ := h
  rfl
 obtain ⟨c, k, rfl, h0, h1, q⟩ := h
 have a1 : 0 ≤ c % 10 ^ 40 := Int.emod_nonneg _ (by decide +kernel)
 have a2 : c % 10 ^ 40 < 10 ^ 40 := Int.emod_lt_of_pos _ (by decide +kernel)
 have b1 := mul_bd (a := 3 ^ 60) (b := k + 1) (c := 3 ^ 60) (d := 1001) (by decide +kernel) (by omega) (Int.le_refl _) (by omega)
 have s1 := stir1 (c := c) h0 h1
 have s2 := stir2 s1.1 s1.2
 have pw : ∀ i j : Int, 0 ≤ j → j ≤ 1000 → i.natAbs < 2 ^ 64 → CPow i j := fun i j x y z => ⟨x, by omega, z⟩
 refine ⟨_, (qZ (qN (i := 2) sc_law_stir.nd rfl (by wtm_at "zo") (xX op_add (xX op_add (xX op_mulB (xX op_mod (pv 0) (xX op_pow qF qF)) qF) (xX op_mulB (xX op_mulB (xX op_pow qF qF) (xX op_add (pv 1) qF)) (xX op_add (pv 1) qF))) (pv 1)))
  (qZ (qN (i := 2) sc_law_stir.nd rfl (by wtm_at "zo") (xX op_add (xX op_mulB (pv 2) (pv 2)) (xX op_mulB qF (pv 2))))
  (qJ (qO (xX op_fdivB (xX op_mod (xX op_mulB (pv 2) (pv 2)) (xX op_add (xX op_pow qF qF) qF)) qF))))), ?_⟩
 refine ⟨_, rfl, 10, 40, rfl, rfl, pw 10 40 (by decide) (by decide) (by decide), c, _, rfl, rfl, (by decide +kernel : (0 : Int) < 10 ^ 40), _, _, rfl, rfl,
  ⟨big _ a1 (lt200 a2), by decide +kernel⟩, 3, 60, rfl, rfl, pw 3 60 (by decide) (by decide) (by decide), _, rfl, _, _, rfl, rfl, _, _, rfl, rfl,
  ⟨by decide +kernel, big _ (by omega) (Int.lt_of_le_of_lt (b := 1001) (by omega) (by decide +kernel))⟩, _, rfl, _, _, rfl, rfl, _, _, rfl, rfl,
  ⟨big _ b1.1 (Int.lt_of_le_of_lt b1.2 (by decide +kernel)), big _ (by omega) (Int.lt_of_le_of_lt (b := 1001) (by omega) (by decide +kernel))⟩, _, _, rfl, rfl, _, rfl, _, _, rfl, rfl, ?_⟩
 obtain ⟨n, hn⟩ : ∃ n, n = c % 10 ^ 40 * 48271 + 3 ^ 60 * (k + 1) * (k + 1) + k := ⟨_, rfl⟩
 rw [← hn] at s1 s2
 refine ⟨_, rfl, _, rfl, n, n, (by subst hn; rfl), (by subst hn; rfl), ⟨big _ s1.1 (lt200 s1.2), big _ s1.1 (lt200 s1.2)⟩, _, rfl, 69621, n, rfl, (by subst hn; rfl), ⟨by decide +kernel, big _ s1.1 (lt200 s1.2)⟩, _, _, rfl, rfl, ?_⟩
 obtain ⟨m, hm⟩ : ∃ m, m = n * n + 69621 * n := ⟨_, rfl⟩
 rw [← hm] at s2
 refine ⟨_, rfl, _, rfl, m, m, (by subst hm; rfl), (by subst hm; rfl), ⟨big _ s2.1 (lt200 s2.2), big _ s2.1 (lt200 s2.2)⟩, 10, 61, rfl, rfl, pw 10 61 (by decide) (by decide) (by decide), _, 7, rfl, rfl, m * m, 10 ^ 61 + 7, rfl, rfl, (show (0 : Int) < 10 ^ 61 + 7 by decide +kernel), _, 8, rfl, rfl, ⟨by decide, by decide +kernel⟩, ?_⟩
 have r1 : 0 ≤ m * m % (10 ^ 61 + 7) := Int.emod_nonneg _ (by decide +kernel)
 have r2 : m * m % (10 ^ 61 + 7) < 10 ^ 61 + 7 := Int.emod_lt_of_pos _ (by decide +kernel)
 have e : (10 : Int) ^ 61 ≥ 100 := by decide +kernel
 refine q _ ?_ ?_
 ·generalize m * m % (10 ^ 61 + 7) = z at r1
  omega
 ·generalize m * m % (10 ^ 61 + 7) = z at r1 r2 ⊢
  generalize (10 : Int) ^ 61 = y at *
  omega

theorem sc_law_deck : FnScope ["cell"] ["cell"] (xB (top 42)) := ⟨rfl, rfl, rfl, by decide +kernel, rfl, by decide +kernel, by decide +kernel⟩
noncomputable def spDeck : Sp := fun vs H Q _ => ∃ c : Int, vs = [.int c] ∧ ∀ (r : Addr) (d : Int), H r = none → Q (.ref r) (upd H r (.lst [.int d]))
theorem ok_deck {f g : Addr} {fd gd : FuncData} (F : Fun K "_law_deck" "_law_deck" (top 42) f fd) (G_law_stir : FnOk P w K mg base CX0 1 g gd ["cell", "k"] spStir) (E_law_stir : FunE K mg "_law_stir" g gd ["cell", "k"]) :
  FnOk P w K mg base CX0 2 f fd ["cell"] spDeck := by
 refine F.ok sc_law_deck (fun vs H Q E h => ?_) (fun cdv A outer s H vs Q E hr h => ?_)
 ·obtain ⟨c, rfl, _⟩ := h
  rfl
 obtain ⟨c, rfl, q⟩ := h
 have pw : ∀ i j : Int, 0 ≤ j → j ≤ 1000 → i.natAbs < 2 ^ 64 → CPow i j := fun i j x y z => ⟨x, by omega, z⟩
 have t60 : ((10 : Int) ^ (60 : Int).toNat).natAbs < 2 ^ 1000 := by decide +kernel
 refine ⟨_, (qZ (ps_if (qS op_ge (pv 0) (xX op_pow qF qF) (xE _)) (qJ (qO (pe_lst (qQ (xX op_sub (pv 0) (xX op_pow qF qF)) qX)))) qY)
  (qJ (qO (pe_lst (qQ (xX op_add (xX op_mulB (xX op_add (xX op_mulB (pe_call G_law_stir hr rfl E_law_stir.mg E_law_stir.kp E_law_stir.bd .nil pass0 (qQ (pv 0) (qQ qF qX))) (xX op_pow qF qF)) (pe_call G_law_stir hr rfl E_law_stir.mg E_law_stir.kp E_law_stir.bd .nil pass0 (qQ (pv 0) (qQ qF qX)))) (xX op_pow qF qF)) (pe_call G_law_stir hr rfl E_law_stir.mg E_law_stir.kp E_law_stir.bd .nil pass0 (qQ (pv 0) (qQ qF qX)))) qX))))), ?_⟩
 refine ⟨_, rfl, 10, 18, rfl, rfl, pw 10 18 (by decide) (by decide) (by decide), _, _, rfl, rfl, _, rfl, ?_⟩
 refine ite2 (fun c => ?_) (fun c => ?_)
 ·exact ⟨_, rfl, 10, 18, rfl, rfl, pw 10 18 (by decide) (by decide) (by decide), _, _, rfl, rfl, (by show 1 ≤ sizeLine; decide), fun r hr' => q r _ hr'⟩
 ·refine ⟨_, rfl, _, 1, rfl, by decide, by decide, fun x hx0 hx1 => ?_⟩
  have e1 : x.natAbs < 2 ^ 1000 := big _ hx0 (lt200 hx1)
  refine ⟨10, 60, rfl, rfl, pw 10 60 (by decide) (by decide) (by decide), _, _, rfl, rfl, ⟨e1, t60⟩, _, rfl, _, 2, rfl, by decide, by decide, fun y hy0 hy1 => ?_⟩
  refine ⟨_, _, rfl, rfl, 10, 60, rfl, rfl, pw 10 60 (by decide) (by decide) (by decide), _, _, rfl, rfl, ⟨?_, t60⟩, _, rfl, _, 3, rfl, by decide, by decide, fun z hz0 hz1 => ?_⟩
  ·have b := mul_bd (a := x) (b := 10 ^ 60) (c := 10 ^ 61) (d := 10 ^ 60) hx0 (by decide +kernel) (Int.le_of_lt hx1) (Int.le_refl _)
   have e : (10 : Int) ^ 61 * 10 ^ 60 + 10 ^ 61 < 10 ^ 200 := by decide +kernel
   refine big _ ?_ ?_
   ·show 0 ≤ x * 10 ^ 60 + y
    generalize x * 10 ^ 60 = u at *
    omega
   ·show x * 10 ^ 60 + y < 10 ^ 200
    generalize x * 10 ^ 60 = u at *
    generalize (10 : Int) ^ 61 * 10 ^ 60 = v at *
    generalize (10 : Int) ^ 61 = v2 at *
    generalize (10 : Int) ^ 200 = v3 at *
    omega
  ·exact ⟨_, _, rfl, rfl, (by show 1 ≤ sizeLine; decide), fun r hr' => q r _ hr'⟩

theorem sc_law_drawn : FnScope ["cell", "sizes", "found", "rest", "k"] ["cell", "sizes"] (xB (top 41)) := ⟨rfl, rfl, rfl, by decide +kernel, rfl, by decide +kernel, by decide +kernel⟩
noncomputable def Below (xs szs : List Int) : Prop := ∀ (i : Nat) (x z : Int), xs[i]? = some x → szs[i]? = some z → 0 ≤ x ∧ x < z
noncomputable def spDrawn : Sp := fun vs H Q _ => ∃ (c : Int) (a : Addr) (szs : List Int), vs = [.int c, .ref a] ∧ H a = some (.lst (intsV szs)) ∧ szs.length ≤ 100 ∧ (∀ z ∈ szs, 0 < z ∧ z < 2 ^ 64) ∧
 ∀ (r : Addr) (xs : List Int), H r = none → xs.length = szs.length → Below xs szs → Q (.ref r) (upd H r (.lst (intsV xs)))
theorem below_snoc {xs szs : List Int} {x z : Int} (h : Below xs szs) (hz : szs[xs.length]? = some z) (h0 : 0 ≤ x) (h1 : x < z) : Below (xs ++ [x]) szs := fun i y u e1 e2 => by
 by_cases hi : i < xs.length
 ·rw [List.getElem?_append_left hi] at e1
  exact h i y u e1 e2
 ·by_cases he : i = xs.length
  ·subst he
   rw [List.getElem?_append_right (Nat.le_refl _), Nat.sub_self] at e1
   have e1 : some x = some y := e1
   cases e1
   rw [hz] at e2
   cases e2
   exact ⟨h0, h1⟩
  ·rw [List.getElem?_append_right (by omega)] at e1
   have : i - xs.length = (i - xs.length - 1) + 1 := by omega
   rw [this] at e1
   simp at e1
theorem at_int {ns : List Int} {k : Nat} {z : Int} (h : ns[k]? = some z) : atI (intsV ns) (k : Int) = some (.int z) := atI_nat (by rw [List.getElem?_map, h]; rfl)
theorem ok_drawn {f g : Addr} {fd gd : FuncData} (F : Fun K "_law_drawn" "_law_drawn" (top 41) f fd) (B : Bl mg) (G_law_stir : FnOk P w K mg base CX0 1 g gd ["cell", "k"] spStir) (E_law_stir : FunE K mg "_law_stir" g gd ["cell", "k"]) :
  FnOk P w K mg base CX0 2 f fd ["cell", "sizes"] spDrawn := by
 refine F.ok sc_law_drawn (fun vs H Q E h => ?_) (fun cdv A outer s H vs Q E hr h => ?_)
 ·obtain ⟨c, a, szs, rfl, _⟩ := h
  rfl
 obtain ⟨c, a, szs, rfl, ha, hl, hz, q⟩ := h
 have pw : ∀ i j : Int, 0 ≤ j → j ≤ 1000 → i.natAbs < 2 ^ 64 → CPow i j := fun i j x y z => ⟨x, by omega, z⟩
 have hlen : (intsV szs).length = szs.length := List.length_map _
 refine ⟨_, (qZ (qN (i := 2) sc_law_drawn.nd rfl (by wtm_at "zo") (pe_lst qX))
  (qZ (qN (i := 3) sc_law_drawn.nd rfl (by wtm_at "zo") (xX op_sub (pv 0) (xX op_pow qF qF)))
  (qZ (ps_for PassesOwn.never rfl (pi_range1 rfl B.range' (qQ (xJ (call_lenK (K := K)) rfl B.len' bt_len (qQ (pv 1) qX)) qX)) (qH (i := 4) sc_law_drawn.nd rfl (by wtm_at "zo")) (qJ (ps_if (qS op_ge (pv 0) (xX op_pow qF qF) (xE _)) (qZ (qR (pe_bmK (K := K) PySem.F.plainAttrs_list PySem.F.slot_list_append PySem.F.type_list_append mt_append (pv 2) (qQ (xX op_mod (pv 3) (pe_ix (qU (K := K)) (pv 1) (pv 4) (fun _ _ => rfl))) qX)))
  (qJ (qN (i := 3) sc_law_drawn.nd rfl (by wtm_at "zo") (xX op_fdivB (pv 3) (pe_ix (qU (K := K)) (pv 1) (pv 4) (fun _ _ => rfl)))))) (qJ (qR (pe_bmK (K := K) PySem.F.plainAttrs_list PySem.F.slot_list_append PySem.F.type_list_append mt_append (pv 2) (qQ (xX op_mod (pe_call G_law_stir hr rfl E_law_stir.mg E_law_stir.kp E_law_stir.bd .nil pass0 (qQ (pv 0) (qQ (pv 4) qX))) (pe_ix (qU (K := K)) (pv 1) (pv 4) (fun _ _ => rfl))) qX)))))))
  (qJ (qO (pv 2)))))), ?_⟩
 refine ⟨(by show 0 ≤ sizeLine; decide), fun r hr' => ?_⟩
 have har : a ≠ r := qB ha hr'
 refine ⟨_, rfl, 10, 18, rfl, rfl, pw 10 18 (by decide) (by decide) (by decide), _, _, rfl, rfl, ?_⟩
 have e1 : upd H r (.lst []) a = some (.lst (intsV szs)) := by rw [qA har]; exact ha
 refine ⟨_, rfl, a, _, rfl, .inl (SqL.of e1), _, rfl, by omega, by omega, ?_⟩
 refine for_range (fun i σ' H' => ∃ (xs : List Int) (re : Int) (z : Option V), σ' = [some (.int c), some (.ref a), some (.ref r), some (.int re), z] ∧ H' = upd H r (.lst (intsV xs)) ∧ xs.length = i ∧ Below xs szs)
  ⟨[], _, none, rfl, rfl, rfl, fun i x z e => by simp at e⟩ ?_ ?_
 ·rintro i σ' H' hi ⟨xs, re, zz, rfl, rfl, hxi, hb⟩
  have hi : i < szs.length := by
   have : (((intsV szs).length : Nat) : Int).toNat = szs.length := by rw [hlen]; omega
   rw [this] at hi
   exact hi
  subst hxi
  obtain ⟨z, ez⟩ : ∃ z, szs[xs.length]? = some z := ⟨_, List.getElem?_eq_getElem hi⟩
  have hz' := hz z (List.mem_of_getElem? ez)
  have hz1 : z.natAbs < 2 ^ 1000 := big _ (by omega) (Int.lt_trans hz'.2 (by decide +kernel))
  have e0 : (0 : Int) + (xs.length : Int) = (xs.length : Int) := Int.zero_add _
  have ea : upd H r (.lst (intsV xs)) a = some (.lst (intsV szs)) := by rw [qA har]; exact ha
  have at0 : atI (intsV szs) (0 + (xs.length : Int)) = some (.int z) := by rw [e0]; exact at_int ez
  have fin : ∀ x : Int, 0 ≤ x → x < z → ∀ re' : Int, ∃ (ys : List Int) (re : Int) (zz : Option V), [some (V.int c), some (.ref a), some (.ref r), some (.int re'), some (.int (0 + (xs.length : Int)))] = [some (V.int c), some (.ref a), some (.ref r), some (.int re), zz] ∧
    upd (upd H r (.lst (intsV xs))) r (.lst (intsV xs ++ [.int x])) = upd H r (.lst (intsV ys)) ∧ ys.length = xs.length + 1 ∧ Below ys szs := fun x h0 h1 re' =>
   ⟨xs ++ [x], re', _, rfl, by rw [upd_upd, intsV_snoc], by simp, below_snoc hb ez h0 h1⟩
  have hsz : (intsV xs).length < sizeLine := by rw [intsV_len]; exact small (by omega)
  refine ⟨_, rfl, 10, 18, rfl, rfl, pw 10 18 (by decide) (by decide) (by decide), _, _, rfl, rfl, _, rfl, ?_⟩
  refine ite2 (fun _ => ?_) (fun _ => ?_)
  ·refine ⟨_, rfl, .inl ⟨rfl, _, SqL.of qW⟩, _, rfl, _, rfl, _, rfl, a, _, _, _, rfl, rfl, SqL.of ea, at0, _, _, rfl, rfl, hz'.1, r, _, _, rfl, rfl, qW, hsz, ?_⟩
   have ea2 : upd (upd H r (.lst (intsV xs))) r (.lst (intsV xs ++ [.int (re % z)])) a = some (.lst (intsV szs)) := by rw [qA har, qA har]; exact ha
   refine ⟨_, rfl, _, rfl, _, rfl, a, _, _, _, rfl, rfl, SqL.of ea2, at0, _, _, rfl, rfl, ⟨hz'.1, hz1⟩, ?_⟩
   exact fin _ (Int.emod_nonneg _ (by omega)) (Int.emod_lt_of_pos _ hz'.1) _
  ·refine ⟨_, rfl, .inl ⟨rfl, _, SqL.of qW⟩, _, rfl, _, rfl, c, 0 + (xs.length : Int), rfl, by omega, by omega, fun x hx0 hx1 => ?_⟩
   refine ⟨_, rfl, _, rfl, a, _, _, _, rfl, rfl, SqL.of ea, at0, _, _, rfl, rfl, hz'.1, r, _, _, rfl, rfl, qW, hsz, ?_⟩
   exact fin _ (Int.emod_nonneg _ (by omega)) (Int.emod_lt_of_pos _ hz'.1) _
 ·rintro σ' H' ⟨xs, re, zz, rfl, rfl, hxi, hb⟩
  have : (((intsV szs).length : Nat) : Int).toNat = szs.length := by rw [hlen]; omega
  rw [this] at hxi
  exact ⟨_, rfl, q r xs hr' hxi hb⟩
theorem for_listN {K : PySem.W.Frag} {a : Addr} {xs : List V} {g : TG} {tb : TS} {D : Ends} {σ : St} {H : Hp} (Pv : Nat → St → Hp → Prop) (h0 : Pv 0 σ H) (hl : ∀ i σ H, i ≤ xs.length → Pv i σ H → SqL K H a xs)
  (hs : ∀ (N : St → Hp → Prop) (rt : VK) (bk : St → Hp → Prop) i x σ H, xs[i]? = some x → Pv i σ H → (∀ σ H, Pv (i + 1) σ H → N σ H) → g x σ H fun σ2 H2 => tb ⟨N, rt, bk, N⟩ σ2 H2) (hd : ∀ σ H, Pv xs.length σ H → D.nx σ H) :
  ∃ W : Nat → Nat → St → Hp → Prop, (∃ m, W 0 m σ H) ∧ ∀ i m σ H, W i m σ H →
   ((Itl K a).stop i H ∧ D.nx σ H) ∨ ((Itl K a).go i H ∧ ∃ N : St → Hp → Prop, (∀ σ' H', N σ' H' → ∃ m', m' < m ∧ W (i + 1) m' σ' H') ∧ ∀ x H', (Itl K a).yld i H x H' → g x σ H' fun σ2 H2 => tb { D with nx := N, ct := N, bk := D.nx } σ2 H2) :=
 for_list Pv h0 hl (fun i x σ H e p => hs _ _ _ i x σ H e p fun _ _ z => z) hd
theorem for_rangeN {lo : Int} {n : Nat} {g : TG} {tb : TS} {D : Ends} {σ : St} {H : Hp} (Pv : Nat → St → Hp → Prop) (h0 : Pv 0 σ H)
  (hs : ∀ (N : St → Hp → Prop) (rt : VK) (bk : St → Hp → Prop) i σ H, i < n → Pv i σ H → (∀ σ H, Pv (i + 1) σ H → N σ H) → g (.int (lo + i)) σ H fun σ2 H2 => tb ⟨N, rt, bk, N⟩ σ2 H2) (hd : ∀ σ H, Pv n σ H → D.nx σ H) :
  ∃ W : Nat → Nat → St → Hp → Prop, (∃ m, W 0 m σ H) ∧ ∀ i m σ H, W i m σ H →
   ((Itr lo n).stop i H ∧ D.nx σ H) ∨ ((Itr lo n).go i H ∧ ∃ N : St → Hp → Prop, (∀ σ' H', N σ' H' → ∃ m', m' < m ∧ W (i + 1) m' σ' H') ∧ ∀ x H', (Itr lo n).yld i H x H' → g x σ H' fun σ2 H2 => tb { D with nx := N, ct := N, bk := D.nx } σ2 H2) :=
 for_range Pv h0 (fun i σ H e p => hs _ _ _ i σ H e p fun _ _ z => z) hd

theorem sc_law_unlike : FnScope ["number", "many", "letters", "pad", "size", "at", "first", "found", "k", "sign"] ["number", "many"] (xB (top 44)) := ⟨rfl, rfl, rfl, by decide +kernel, rfl, by decide +kernel, by decide +kernel⟩
noncomputable def abc : List Nat := ("abcdefghijklmnopqrstuvwxyz" : Str).cps.toList
noncomputable def letter (i : Int) : Nat := abc.getD i.toNat 0
theorem abc_len : abc.length = 26 := by decide +kernel
theorem abc_inj : ∀ i j : Fin 26, abc.getD i.val 0 = abc.getD j.val 0 → i = j := by decide +kernel
theorem letter_inj {i j : Int} (i0 : 0 ≤ i) (i1 : i < 26) (j0 : 0 ≤ j) (j1 : j < 26) (h : letter i = letter j) : i = j := by
 have := abc_inj ⟨i.toNat, by omega⟩ ⟨j.toNat, by omega⟩ h
 have := congrArg Fin.val this
 have : i.toNat = j.toNat := this
 omega
theorem letters_at {i : Int} (h0 : 0 ≤ i) (h1 : i < 26) : atI ("abcdefghijklmnopqrstuvwxyz" : Str).cps.toList i = some (letter i) := by
 have e : i = ((i.toNat : Nat) : Int) := by omega
 have hk : i.toNat < abc.length := by rw [abc_len]; omega
 have z : atI abc ((i.toNat : Nat) : Int) = some (letter i) := atI_nat (by unfold letter; rw [List.getD_eq_getElem?_getD, List.getElem?_eq_getElem hk]; rfl)
 rw [← e] at z
 exact z
noncomputable def wordOf (c : Nat) (a r : Int) (k : Nat) : Str := Txt.mul ⟨#[c]⟩ a ++ ⟨#[k]⟩ ++ Txt.mul ⟨#[c]⟩ r
theorem fold_codes (c : Nat) : ∀ (k : Nat) (acc : Array Nat), ((List.replicate k #[c]).foldl (· ++ ·) acc).toList = acc.toList ++ List.replicate k c
 | 0, acc => by simp
 | k + 1, acc => by
  rw [List.replicate_succ, List.foldl_cons, fold_codes c k, Array.toList_append, List.append_assoc, List.replicate_succ]
  rfl
theorem mul_codes (c : Nat) (n : Int) : (Txt.mul ⟨#[c]⟩ n).cps.toList = List.replicate n.toNat c := by
 unfold Txt.mul
 split
 ·have : n.toNat = 0 := by omega
  rw [this]; rfl
 ·split
  ·rename_i h1 h2
   have h3 : (n == 1) = true := by
    rw [Bool.or_eq_true] at h2
    rcases h2 with h | h
    ·exact h
    ·exact absurd (show ((1 : Nat) == 0) = true from h) (by decide)
   have : n = 1 := eq_of_beq h3
   subst this; rfl
  ·rw [fold_codes]; rfl
theorem word_codes (c : Nat) (a r : Int) (k : Nat) : (wordOf c a r k).cps.toList = List.replicate a.toNat c ++ k :: List.replicate r.toNat c := by
 show ((Txt.mul ⟨#[c]⟩ a).cps ++ #[k] ++ (Txt.mul ⟨#[c]⟩ r).cps).toList = _
 rw [Array.toList_append, Array.toList_append, mul_codes, mul_codes]
 simp
theorem word_inj {c : Nat} {a r : Int} {k k' : Nat} (h : wordOf c a r k = wordOf c a r k') : k = k' := by
 have e := congrArg (fun x : Str => x.cps.toList) h
 simp only [word_codes] at e
 have := List.append_cancel_left e
 injection this
theorem no_three {c k a r p q s : Nat} (h : List.replicate a c ++ k :: List.replicate r c = [p, q, s]) (pq : p ≠ q) (ps : p ≠ s) (qs : q ≠ s) : False := by
 have hl := congrArg List.length h
 simp only [List.length_append, List.length_cons, List.length_replicate, List.length_nil] at hl
 have : a = 0 ∧ r = 2 ∨ a = 1 ∧ r = 1 ∨ a = 2 ∧ r = 0 := by omega
 rcases this with ⟨rfl, rfl⟩ | ⟨rfl, rfl⟩ | ⟨rfl, rfl⟩
 ·simp [List.replicate] at h; omega
 ·simp [List.replicate] at h; omega
 ·simp [List.replicate] at h; omega
noncomputable def odd3 : List Str := ["not", "and", "yes", "way", "end", "one"]
noncomputable def cwords : List Str := ["not", "and", "yes"]
theorem word_plain (c : Nat) (a r : Int) (k : Nat) : wordOf c a r k ∉ odd3 := by
 intro h
 have e := word_codes c a r k
 simp only [odd3, List.mem_cons, List.not_mem_nil, or_false] at h
 rcases h with h | h | h | h | h | h <;> rw [h] at e
 ·exact no_three (p := 110) (q := 111) (s := 116) (e.symm.trans (by decide +kernel)) (by decide) (by decide) (by decide)
 ·exact no_three (p := 97) (q := 110) (s := 100) (e.symm.trans (by decide +kernel)) (by decide) (by decide) (by decide)
 ·exact no_three (p := 121) (q := 101) (s := 115) (e.symm.trans (by decide +kernel)) (by decide) (by decide) (by decide)
 ·exact no_three (p := 119) (q := 97) (s := 121) (e.symm.trans (by decide +kernel)) (by decide) (by decide) (by decide)
 ·exact no_three (p := 101) (q := 110) (s := 100) (e.symm.trans (by decide +kernel)) (by decide) (by decide) (by decide)
 ·exact no_three (p := 111) (q := 110) (s := 101) (e.symm.trans (by decide +kernel)) (by decide) (by decide) (by decide)
noncomputable def Low (c : Nat) : Prop := (Builtin.Str.reprChar 34 c).length ≤ 1 ∧ (Builtin.Str.reprChar 39 c).length ≤ 1
theorem low_all : ∀ i : Fin 26, (Builtin.Str.reprChar 34 (abc.getD i.val 0)).length ≤ 1 ∧ (Builtin.Str.reprChar 39 (abc.getD i.val 0)).length ≤ 1 := by decide +kernel
theorem low_letter {i : Int} (h0 : 0 ≤ i) (h1 : i < 26) : Low (letter i) := low_all ⟨i.toNat, by omega⟩
theorem word_low {c k : Nat} (h1 : Low c) (h2 : Low k) (a r : Int) : ∀ d ∈ (wordOf c a r k).cps.toList, Low d := fun d hd => by
 rw [word_codes] at hd
 rcases List.mem_append.mp hd with h | h
 ·rw [(List.mem_replicate.mp h).2]; exact h1
 ·rcases List.mem_cons.mp h with h | h
  ·rw [h]; exact h2
  ·rw [(List.mem_replicate.mp h).2]; exact h1
noncomputable def Lw (x : Str) : Prop := x.length ≤ 100 ∧ ∀ c ∈ x.cps.toList, Low c
structure Plain (ws : List Str) : Prop where
 nd : ws.Nodup
 no : ∀ x ∈ ws, x ∉ odd3
 le : ∀ x ∈ ws, x.length ≤ 100
 low : ∀ x ∈ ws, ∀ c ∈ x.cps.toList, Low c
noncomputable def spUnlike : Sp := fun vs H Q _ => ∃ n m : Int, vs = [.int n, .int m] ∧ 0 ≤ n ∧ 0 ≤ m ∧ m ≤ 26 ∧
 ∀ (r : Addr) (ws : List Str), H r = none → ws.length = m.toNat → Plain ws → Q (.ref r) (upd H r (.lst (strsV ws)))
theorem letters_len : ("abcdefghijklmnopqrstuvwxyz" : Str).length ≤ sizeLine := by decide +kernel
theorem len_app (x y : Str) : (x ++ y).length = x.length + y.length := by
 show (x.cps ++ y.cps).size = _
 rw [Array.size_append]; rfl
theorem ok_unlike {f : Addr} {fd : FuncData} (F : Fun K "_law_unlike" "_law_unlike" (top 44) f fd) (B : Bl mg) : FnOk P w K mg base CX0 1 f fd ["number", "many"] spUnlike := by
 refine F.ok sc_law_unlike (fun vs H Q E h => ?_) (fun cdv A outer s H vs Q E hr h => ?_)
 ·obtain ⟨n, m, rfl, _⟩ := h
  rfl
 obtain ⟨n, m, rfl, hn, hm0, hm1, q⟩ := h
 have z26 : (0 : Int) < 26 := by decide
 obtain ⟨c1, ec1, lc1⟩ : ∃ c, atI ("abcdefghijklmnopqrstuvwxyz" : Str).cps.toList (n % 26) = some c ∧ Low c := ⟨_, letters_at (Int.emod_nonneg n (by decide)) (Int.emod_lt_of_pos n z26), low_letter (Int.emod_nonneg n (by decide)) (Int.emod_lt_of_pos n z26)⟩
 have d26 : 0 ≤ n / 26 := Int.ediv_nonneg hn (by decide)
 have s0 := Int.emod_nonneg (n / 26) (b := 8) (by decide)
 have s1 := Int.emod_lt_of_pos (n / 26) (b := 8) (by decide)
 refine ⟨_, (qZ (qN (i := 2) sc_law_unlike.nd rfl (by wtm_at "zo") qG)
  (qZ (qN (i := 3) sc_law_unlike.nd rfl (by wtm_at "zo") (pe_ix ix_str (pv 2) (xX op_mod (pv 0) qF) (fun _ _ => rfl)))
  (qZ (qN (i := 4) sc_law_unlike.nd rfl (by wtm_at "zo") (xX op_add qF (xX op_mod (xX op_fdivB (pv 0) qF) qF)))
  (qZ (qN (i := 5) sc_law_unlike.nd rfl (by wtm_at "zo") (xX op_mod (xX op_fdivB (pv 0) qF) (pv 4)))
  (qZ (qN (i := 6) sc_law_unlike.nd rfl (by wtm_at "zo") (xX op_mod (xX op_fdivB (pv 0) qF) qF))
  (qZ (qN (i := 7) sc_law_unlike.nd rfl (by wtm_at "zo") (pe_lst qX))
  (qZ (ps_for PassesOwn.never rfl (pi_range1 rfl B.range' (qQ (pv 1) qX)) (qH (i := 8) sc_law_unlike.nd rfl (by wtm_at "zo")) (qZ (qN (i := 9) sc_law_unlike.nd rfl (by wtm_at "zo") (pe_ix ix_str (pv 2) (xX op_mod (xX op_add (pv 6) (xX op_mulB qF (pv 8))) qF) (fun _ _ => rfl)))
  (qJ (qR (pe_bmK (K := K) PySem.F.plainAttrs_list PySem.F.slot_list_append PySem.F.type_list_append mt_append (pv 7) (qQ (xX op_add_str (xX op_add_str (xX op_repS (pv 3) (pv 5)) (pv 9)) (xX op_repS (pv 3) (xX op_sub (xX op_sub (pv 4) (pv 5)) qF))) qX))))))
  (qJ (qO (pv 7)))))))))), ?_⟩
 refine ⟨_, rfl, _, rfl, _, 26, rfl, rfl, z26, _, _, c1, rfl, rfl, letters_len, ec1, ?_⟩
 refine ⟨_, rfl, _, 26, rfl, rfl, ⟨z26, by decide +kernel⟩, _, 8, rfl, rfl, (by decide : (0 : Int) < 8), 1, _, rfl, rfl, ?_⟩
 obtain ⟨sz, hsz⟩ : ∃ sz, sz = n / 26 % 8 := ⟨_, rfl⟩
 rw [← hsz] at s0 s1
 have t0 : 0 < 1 + sz := by omega
 refine ⟨_, rfl, _, 208, rfl, rfl, ⟨by decide, by decide +kernel⟩, _, rfl, _, 1 + sz, rfl, (by subst hsz; rfl), t0, ?_⟩
 obtain ⟨at', hat⟩ : ∃ a, a = n / 208 % (1 + sz) := ⟨_, rfl⟩
 have a0 : 0 ≤ at' := by rw [hat]; exact Int.emod_nonneg _ (by omega)
 have a1 : at' < 1 + sz := by rw [hat]; exact Int.emod_lt_of_pos _ t0
 refine ⟨_, rfl, _, 1664, rfl, rfl, ⟨by decide, by decide +kernel⟩, _, 26, rfl, rfl, z26, ?_⟩
 obtain ⟨fi, hfi⟩ : ∃ a, a = n / 1664 % 26 := ⟨_, rfl⟩
 have f0 : 0 ≤ fi := by rw [hfi]; exact Int.emod_nonneg _ (by decide)
 have f1 : fi < 26 := by rw [hfi]; exact Int.emod_lt_of_pos _ z26
 refine ⟨(by show 0 ≤ sizeLine; decide), fun r hr' => ?_⟩
 refine ⟨_, rfl, m, rfl, by omega, by omega, ?_⟩
 refine for_rangeN (fun i σ' H' => ∃ (ws : List Str) (z1 z2 : Option V), σ' = [some (.int n), some (.int m), some (.str "abcdefghijklmnopqrstuvwxyz"), some (.str ⟨#[c1]⟩), some (.int (1 + sz)), some (.int at'), some (.int fi), some (.ref r), z1, z2] ∧ H' = upd H r (.lst (strsV ws)) ∧ ws = (List.range i).map (fun (j : Nat) => wordOf c1 at' (1 + sz - at' - 1) (letter ((fi + 3 * (0 + (j : Int))) % 26))) ∧ ws.length = i ∧ Plain ws)
  ⟨[], none, none, (by subst hfi hat hsz; rfl), rfl, rfl, rfl, ⟨List.nodup_nil, (fun x hx => by cases hx), (fun x hx => by cases hx), fun x hx => by cases hx⟩⟩ ?_ ?_
 ·rintro N rt bk i σ' H' hi ⟨ws, z1, z2, rfl, rfl, hme, hw, hx⟩ hN
  have i100 : i < 26 := by omega
  have m0 := fun j : Nat => Int.emod_nonneg (fi + 3 * (0 + (j : Int))) (b := 26) (by decide)
  have m1 := fun j : Nat => Int.emod_lt_of_pos (fi + 3 * (0 + (j : Int))) z26
  obtain ⟨c2, hc2⟩ : ∃ c, c = letter ((fi + 3 * (0 + (i : Int))) % 26) := ⟨_, rfl⟩
  have ec2 := letters_at (m0 i) (m1 i)
  rw [← hc2] at ec2
  have lc2 : Low c2 := by rw [hc2]; exact low_letter (m0 i) (m1 i)
  have hnew : wordOf c1 at' (1 + sz - at' - 1) c2 ∉ ws := fun hmem => by
   rw [hme] at hmem
   obtain ⟨j, hj, ej⟩ := List.mem_map.mp hmem
   have hj := List.mem_range.mp hj
   have e := letter_inj (m0 j) (m1 j) (m0 i) (m1 i) ((word_inj ej).trans hc2)
   omega
  refine ⟨_, rfl, _, rfl, _, rfl, 3, _, rfl, rfl, ⟨by decide +kernel, big _ (by omega) (Int.lt_of_le_of_lt (b := 100) (by omega) (by decide +kernel))⟩, _, _, rfl, rfl, _, 26, rfl, rfl, z26, _, _, c2, rfl, rfl, letters_len, ec2, ?_⟩
  have l1 : (⟨#[c1]⟩ : Str).length = 1 := rfl
  have l2 : (⟨#[c2]⟩ : Str).length = 1 := rfl
  have m1 := mul_len ⟨#[c1]⟩ at'
  have m2 := mul_len ⟨#[c1]⟩ (1 + sz - at' - 1)
  rw [l1] at m1 m2
  have k1 : (Txt.mul ⟨#[c1]⟩ at').length ≤ 8 := by omega
  have k2 : (Txt.mul ⟨#[c1]⟩ (1 + sz - at' - 1)).length ≤ 8 := by omega
  refine ⟨_, rfl, .inl ⟨rfl, _, SqL.of qW⟩, _, rfl, _, rfl, _, _, rfl, rfl, by omega, by omega, by rw [l1]; decide, _, rfl, _, _, rfl, rfl, by rw [l2]; exact smallE (by omega), _, rfl, _, rfl, _, rfl, _, _, rfl, rfl, _, 1, rfl, rfl, _, _, rfl, rfl, by omega, by omega, by rw [l1]; decide, _, _, rfl, rfl, ?_, ?_⟩
  ·rw [len_app, l2]; exact smallE (by omega)
  ·refine ⟨r, _, _, rfl, rfl, qW, by rw [xA]; exact small (by omega), ?_⟩
   refine hN _ _ ⟨ws ++ [wordOf c1 at' (1 + sz - at' - 1) c2], _, _, rfl, by rw [upd_upd, strsV_snoc]; rfl, by rw [List.range_succ, List.map_append, ← hme, hc2]; rfl, by simp [hw], ⟨nd_snoc hx.nd hnew, fun x hx' => ?_, fun x hx' => ?_, fun x hx' => ?_⟩⟩
   ·rcases List.mem_append.mp hx' with h | h
    ·exact hx.no x h
    ·rw [List.mem_singleton.mp h]; exact word_plain _ _ _ _
   ·rcases List.mem_append.mp hx' with h | h
    ·exact hx.le x h
    ·rw [List.mem_singleton.mp h]
     show (Txt.mul ⟨#[c1]⟩ at' ++ ⟨#[c2]⟩ ++ Txt.mul ⟨#[c1]⟩ (1 + sz - at' - 1)).length ≤ 100
     rw [len_app, len_app, l2]; omega
   ·rcases List.mem_append.mp hx' with h | h
    ·exact hx.low x h
    ·rw [List.mem_singleton.mp h]; exact word_low lc1 lc2 _ _
 ·rintro σ' H' ⟨ws, z1, z2, rfl, rfl, hme, hw, hx⟩
  exact ⟨_, rfl, q r ws hr' hw hx⟩

theorem one_more {n : Nat} {xs : List Int} (h : xs.length = n + 1) : ∃ x r, xs = x :: r ∧ r.length = n := by
 cases xs with
 | nil => cases h
 | cons x r => exact ⟨x, r, rfl, Nat.succ.inj h⟩
theorem eight {xs : List Int} (h0 : xs.length = 8) : ∃ x0 x1 y0 y1 y2 y3 y4 y5, xs = [x0, x1, y0, y1, y2, y3, y4, y5] := by
 obtain ⟨x0, r0, e0, h1⟩ := one_more h0
 obtain ⟨x1, r1, e1, h2⟩ := one_more h1
 obtain ⟨y0, r2, e2, h3⟩ := one_more h2
 obtain ⟨y1, r3, e3, h4⟩ := one_more h3
 obtain ⟨y2, r4, e4, h5⟩ := one_more h4
 obtain ⟨y3, r5, e5, h6⟩ := one_more h5
 obtain ⟨y4, r6, e6, h7⟩ := one_more h6
 obtain ⟨y5, r7, e7, h8⟩ := one_more h7
 cases List.length_eq_zero_iff.mp h8
 subst e7 e6 e5 e4 e3 e2 e1 e0
 exact ⟨_, _, _, _, _, _, _, _, rfl⟩
theorem sc_law_boxes : FnScope ["cell", "drawn", "words", "boxes", "room", "k", "size"] ["cell"] (xB (top 45)) := ⟨rfl, rfl, rfl, by decide +kernel, rfl, by decide +kernel, by decide +kernel⟩
noncomputable def BoxIn (H : Hp) (b : Str × Int) (u : V) : Prop := ∃ a, u = .ref a ∧ H a = some (.tup [.str b.1, .int b.2])
structure Named (ws : List Str) : Prop where
 nd : ws.Nodup
 no : ∀ x ∈ ws, x ∉ cwords
 sh : ∀ x ∈ ws, Lw x
theorem Plain.named {ws : List Str} (p : Plain ws) : Named ws := ⟨p.nd, fun x hx hc => p.no x hx (by
 simp only [cwords, List.mem_cons, List.not_mem_nil, or_false] at hc
 simp only [odd3, List.mem_cons, List.not_mem_nil, or_false]
 rcases hc with h | h | h
 ·exact .inl h
 ·exact .inr (.inl h)
 ·exact .inr (.inr (.inl h))), fun x hx => ⟨p.le x hx, p.low x hx⟩⟩
theorem six_low : ∀ x ∈ (["way", "goal", "begin", "end", "deed", "look"] : List Str), x.length ≤ 100 ∧ ∀ c ∈ x.cps.toList, (Builtin.Str.reprChar 34 c).length ≤ 1 ∧ (Builtin.Str.reprChar 39 c).length ≤ 1 := by decide +kernel
theorem named_six : Named ["way", "goal", "begin", "end", "deed", "look"] := ⟨by decide +kernel, by decide +kernel, six_low⟩
theorem Named.sub {ws xs : List Str} (n : Named ws) (s : List.Sublist xs ws) : Named xs := ⟨s.nodup n.nd, fun x hx => n.no x (s.subset hx), fun x hx => n.sh x (s.subset hx)⟩
noncomputable def spBoxes : Sp := fun vs H Q _ => ∃ c : Int, vs = [.int c] ∧ ∀ (r : Addr) (bs : List (Str × Int)) (us : List V) (H' : Hp), H r = none → Same H H' → H' r = some (.lst us) → Paired (BoxIn H') bs us → 1 ≤ bs.length → bs.length ≤ 6 →
 (∀ b ∈ bs, 2 ≤ b.2 ∧ b.2 ≤ 5) → (bs.map (·.2)).foldl (· * ·) 1 ≤ 200 → Named (bs.map (·.1)) → Q (.ref r) H'
theorem BoxIn.mono {H H' : Hp} (h : Tups H H') {b : Str × Int} {u : V} (x : BoxIn H b u) : BoxIn H' b u := let ⟨a, e, q⟩ := x; ⟨a, e, h _ _ q⟩
theorem xK {H H' : Hp} (h : Tups H H') {bs : List (Str × Int)} {us : List V} (p : Paired (BoxIn H) bs us) : Paired (BoxIn H') bs us := Paired.mapP p fun _ _ x => x.mono h
theorem foldl_snoc (l : List Int) (x a : Int) : (l ++ [x]).foldl (· * ·) a = l.foldl (· * ·) a * x := by rw [List.foldl_append]; rfl
theorem six_fours : ∀ j : Fin 6, ([10 ^ 9, 6, 4, 4, 4, 4, 4, 4] : List Int)[j.val + 2]? = some 4 := by decide +kernel
theorem ok_boxes {f g h : Addr} {fd gd hd : FuncData} (F : Fun K "_law_boxes" "_law_boxes" (top 45) f fd) (B : Bl mg) (G_law_drawn : FnOk P w K mg base CX0 2 g gd ["cell", "sizes"] spDrawn) (E_law_drawn : FunE K mg "_law_drawn" g gd ["cell", "sizes"])
  (G_law_unlike : FnOk P w K mg base CX0 2 h hd ["number", "many"] spUnlike) (E_law_unlike : FunE K mg "_law_unlike" h hd ["number", "many"]) : FnOk P w K mg base CX0 3 f fd ["cell"] spBoxes := by
 refine F.ok sc_law_boxes (fun vs H Q E h => ?_) (fun cdv A outer s H vs Q E hr h => ?_)
 ·obtain ⟨c, rfl, _⟩ := h
  rfl
 obtain ⟨c, rfl, q⟩ := h
 have pw : ∀ i j : Int, 0 ≤ j → j ≤ 1000 → i.natAbs < 2 ^ 64 → CPow i j := fun i j x y z => ⟨x, by omega, z⟩
 have rest : ∃ u, PSs (cxOf CX0 P w K mg base ["cell", "drawn", "words", "boxes", "room", "k", "size"] "_law_boxes" (xB (top 45)) f cdv A outer s H E).nox ((xC (top 45)).drop 3) u ∧
   ∀ (dr : Addr) (x0 x1 y0 y1 y2 y3 y4 y5 : Int), 0 ≤ x1 → x1 < 6 → (∀ (j : Nat) (y : Int), [y0, y1, y2, y3, y4, y5][j]? = some y → 0 ≤ y ∧ y < 4) →
    ∀ (wd : Addr) (ws : List Str) (H7 : Hp), Same H H7 → H7 dr = some (.lst (intsV [x0, x1, y0, y1, y2, y3, y4, y5])) → H7 wd = some (.lst (strsV ws)) → ws.length = 6 → Named ws →
     u { nx := fun _ H' => Q .non H', rt := Q } [some (.int c), some (.ref dr), some (.ref wd), none, none, none, none] H7 := by
  refine ⟨_, (qZ (qN (i := 3) sc_law_boxes.nd rfl (by wtm_at "zo") (pe_lst qX))
  (qZ (qN (i := 4) sc_law_boxes.nd rfl (by wtm_at "zo") qF)
  (qZ (ps_for PassesOwn.never rfl (pi_range1 rfl B.range' (qQ (xX op_add qF (pe_ix (qU (K := K)) (pv 1) qF (fun _ _ => rfl))) qX)) (qH (i := 5) sc_law_boxes.nd rfl (by wtm_at "zo")) (qZ (qN (i := 6) sc_law_boxes.nd rfl (by wtm_at "zo") (xJ (call_min2 rfl) rfl B.min' bt_min (qQ (xX op_add qF (pe_ix (qU (K := K)) (pv 1) (xX op_add qF (pv 5)) (fun _ _ => rfl))) (qQ (pv 4) qX))))
  (qJ (ps_if (qS op_gt (pv 6) qF (xE _)) (qZ (qR (pe_bmK (K := K) PySem.F.plainAttrs_list PySem.F.slot_list_append PySem.F.type_list_append mt_append (pv 3) (qQ (pe_tup (qQ (pe_ix (qU (K := K)) (pv 2) (pv 5) (fun _ _ => rfl)) (qQ (pv 6) qX))) qX)))
  (qJ (qN (i := 4) sc_law_boxes.nd rfl (by wtm_at "zo") (xX op_fdivB (pv 4) (pv 6))))) qY))))
  (qJ (qO (pv 3)))))), ?_⟩
  intro dr x0 x1 y0 y1 y2 y3 y4 y5 hx0 hx6 hy wd ws H7 S7 eD7 eW7 hw6 nmd
  refine ⟨(by show 0 ≤ sizeLine; decide), fun r hr' => ?_⟩
  have rH : H r = none := S7.free hr'
  have rd : dr ≠ r := qB eD7 hr'
  have rw' : wd ≠ r := qB eW7 hr'
  have eD8 : upd H7 r (.lst []) dr = some (.lst (intsV [x0, x1, y0, y1, y2, y3, y4, y5])) := by rw [qA rd]; exact eD7
  refine ⟨_, rfl, dr, _, 1, .int x1, rfl, rfl, SqL.of eD8, rfl, 1, x1, rfl, rfl, _, rfl, by omega, by omega, ?_⟩
  refine for_rangeN (fun i σ' H' => ∃ (bs : List (Str × Int)) (us : List V) (ro : Int) (z1 z2 : Option V), σ' = [some (.int c), some (.ref dr), some (.ref wd), some (.ref r), some (.int ro), z1, z2] ∧ But r H7 H' ∧ H' r = some (.lst us) ∧ Paired (BoxIn H') bs us ∧ bs.length ≤ i ∧
    (0 < i → 1 ≤ bs.length) ∧ (∀ b ∈ bs, 2 ≤ b.2 ∧ b.2 ≤ 5) ∧ 1 ≤ ro ∧ (i = 0 → ro = 200) ∧ 1 ≤ (bs.map (·.2)).foldl (· * ·) 1 ∧ (bs.map (·.2)).foldl (· * ·) 1 * ro ≤ 200 ∧ List.Sublist (bs.map (·.1)) (ws.take i))
   ⟨[], [], 200, none, none, rfl, But.upd, qW, .nil, Nat.le_refl _, fun z => absurd z (by decide), (fun b hb => by cases hb), by decide, fun _ => rfl, by decide, by decide, List.nil_sublist _⟩ ?_ ?_
  ·rintro N rt bk i σ' H' hi ⟨bs, us, ro, z1, z2, rfl, hbut, hru, hp, hbl, hb1, hb25, hro, hr0, hf1, hf2, hsub⟩ hN
   have hi6 : i < 6 := by omega
   have eD9 : H' dr = some (.lst (intsV [x0, x1, y0, y1, y2, y3, y4, y5])) := hbut _ _ rd eD7
   have eW9 : H' wd = some (.lst (strsV ws)) := hbut _ _ rw' eW7
   obtain ⟨y, ey⟩ : ∃ y, [y0, y1, y2, y3, y4, y5][i]? = some y := ⟨_, List.getElem?_eq_getElem (by simpa using hi6)⟩
   have by' := hy i y ey
   have aty : atI (intsV [x0, x1, y0, y1, y2, y3, y4, y5]) (2 + (0 + (i : Int))) = some (.int y) := by
    have e : (2 : Int) + (0 + (i : Int)) = ((i + 2 : Nat) : Int) := by omega
    rw [e]
    exact at_int (by simpa using ey)
   obtain ⟨wi, ewi⟩ : ∃ x, ws[i]? = some x := ⟨_, List.getElem?_eq_getElem (by omega)⟩
   have atw : atI (strsV ws) (0 + (i : Int)) = some (.str wi) := by
    rw [Int.zero_add]
    exact atI_nat (by rw [List.getElem?_map, ewi]; rfl)
   refine ⟨_, rfl, _, rfl, 2, _, rfl, rfl, dr, _, _, .int y, rfl, rfl, SqL.of eD9, aty, 2, y, rfl, rfl, _, rfl, _, _, rfl, ?_⟩
   generalize hsz : (if ro < 2 + y then ro else 2 + y) = sz
   refine ⟨_, rfl, sz, 1, rfl, rfl, _, rfl, ?_⟩
   have szle : sz ≤ 5 ∧ sz ≤ ro ∧ (sz ≤ 1 → ro ≤ 1) := by
    rw [← hsz]
    by_cases hlt : ro < 2 + y
    ·rw [if_pos hlt]; omega
    ·rw [if_neg hlt]; omega
   refine ite2 (fun c => ?_) (fun c => ?_)
   ·have c' : 1 < sz := of_decide_eq_true c
    refine ⟨_, rfl, .inl ⟨rfl, _, SqL.of hru⟩, _, rfl, _, rfl, wd, _, _, .str wi, rfl, rfl, SqL.of eW9, atw, _, rfl, (by show 2 ≤ sizeLine; decide), fun t ht => ?_⟩
    have tr : r ≠ t := qB hru ht
    have hl := hp.length
    refine ⟨r, us, .ref t, rfl, rfl, by rw [qA tr]; exact hru, by rw [← hl]; exact small (by omega), ?_⟩
    refine ⟨_, rfl, _, rfl, ro, sz, rfl, rfl, ⟨by omega, big _ (by omega) (Int.lt_of_le_of_lt (b := 10) (by omega) (by decide +kernel))⟩, ?_⟩
    have T1 : Tups H' (upd (upd H' t (.tup [.str wi, .int sz])) r (.lst (us ++ [.ref t]))) := fun b ys e => by
     rw [qA (ne_of e hru (by intro z; cases z)), qA (qB e ht)]; exact e
    have dv : ro / sz * sz ≤ ro := Int.ediv_mul_le _ (by omega)
    have d1 : 1 ≤ ro / sz := by
     apply Int.le_ediv_of_mul_le (by omega)
     omega
    refine hN _ _ ⟨bs ++ [(wi, sz)], us ++ [.ref t], ro / sz, _, _, rfl, fun b o hb e => ?_, qW, Paired.snoc (xK T1 hp) ⟨t, rfl, by rw [qA (Ne.symm tr)]; exact qW⟩, by simp; omega, fun _ => by simp, fun b hb => ?_, d1, fun z => by omega, ?_, ?_, ?_⟩
    ·rw [qA hb, qA (qB (hbut _ _ hb e) ht)]; exact hbut _ _ hb e
    ·rcases List.mem_append.mp hb with h | h
     ·exact hb25 b h
     ·rw [List.mem_singleton.mp h]; exact ⟨by show 2 ≤ sz; omega, szle.1⟩
    ·rw [List.map_append]
     show 1 ≤ ((bs.map (·.2)) ++ [sz]).foldl (· * ·) 1
     rw [foldl_snoc]
     have := Int.mul_le_mul hf1 (show (1 : Int) ≤ sz by omega) (by decide) (by omega)
     omega
    ·rw [List.map_append]
     show ((bs.map (·.2)) ++ [sz]).foldl (· * ·) 1 * (ro / sz) ≤ 200
     rw [foldl_snoc, Int.mul_assoc, Int.mul_comm sz]
     have := Int.mul_le_mul_of_nonneg_left dv (show 0 ≤ (bs.map (·.2)).foldl (· * ·) 1 by omega)
     omega
    ·rw [List.map_append, List.take_add_one, ewi]
     exact List.Sublist.append hsub (List.Sublist.refl _)
   ·have c' : ¬ 1 < sz := of_decide_eq_false (Bool.eq_false_iff.mpr c)
    refine hN _ _ ⟨bs, us, ro, _, _, rfl, hbut, hru, hp, by omega, fun _ => ?_, hb25, hro, fun z => by omega, hf1, hf2, hsub.trans (by rw [List.take_add_one]; exact List.sublist_append_left _ _)⟩
    by_cases h0 : i = 0
    ·have := hr0 h0; omega
    ·exact hb1 (by omega)
  ·rintro σ' H' ⟨bs, us, ro, z1, z2, rfl, hbut, hru, hp, hbl, hb1, hb25, hro, hr0, hf1, hf2, hsub⟩
   refine ⟨_, rfl, q r bs us H' rH (fun b o e => hbut _ _ (qB e rH) (S7 _ _ e)) hru hp (hb1 (by omega)) (by omega) hb25 ?_ (nmd.sub (hsub.trans (List.take_sublist _ _)))⟩
   have := Int.mul_le_mul_of_nonneg_left hro (show 0 ≤ (bs.map (·.2)).foldl (· * ·) 1 by omega)
   omega
 obtain ⟨u, hu, go⟩ := rest
 refine ⟨_, qZ (qN (i := 1) sc_law_boxes.nd rfl (by wtm_at "zo") (pe_call G_law_drawn hr rfl E_law_drawn.mg E_law_drawn.kp E_law_drawn.bd .nil pass0 (qQ (pv 0) (qQ (xX op_cat (pe_lst (qQ (xX op_pow qF qF) (qQ qF qX))) (xX op_rep (pe_lst (qQ qF qX)) qF)) qX)))) (qZ (qN (i := 2) sc_law_boxes.nd rfl (by wtm_at "zo") (pe_call G_law_unlike hr rfl E_law_unlike.mg E_law_unlike.kp E_law_unlike.bd .nil pass0 (qQ (pe_ix (qU (K := K)) (pv 1) qF (fun _ _ => rfl)) (qQ qF qX)))) (qZ (ps_if (qS op_eq (xX op_mod (pe_ix (qU (K := K)) (pv 1) qF (fun _ _ => rfl)) qF) qF (xE _)) (qJ (qN (i := 2) sc_law_boxes.nd rfl (by wtm_at "zo") (pe_lst (qQ qG (qQ qG (qQ qG (qQ qG (qQ qG (qQ qG qX))))))))) qY) hu)), ?_⟩
 refine ⟨_, rfl, 10, 9, rfl, rfl, pw 10 9 (by decide) (by decide) (by decide), (by show 2 ≤ sizeLine; decide), fun l1 hl1 => ?_⟩
 refine ⟨(by show 1 ≤ sizeLine; decide), fun l2 hl2 => ?_⟩
 have n12 : l1 ≠ l2 := qB qW hl2
 refine ⟨l2, 6, _, rfl, rfl, qW, by decide, by decide, (by show 1 * 6 ≤ sizeLine; decide), fun l3 hl3 => ?_⟩
 have x1 : upd (upd (upd H l1 (.lst [.int (10 ^ (9 : Int).toNat), .int 6])) l2 (.lst [.int 4])) l3 (.lst (List.replicate (6 : Int).toNat [V.int 4]).flatten) l1 = some (.lst [.int (10 ^ (9 : Int).toNat), .int 6]) := by
  rw [qA (qB (by rw [qA n12]; exact qW) hl3), qA n12]; exact qW
 refine ⟨l1, l3, _, _, rfl, rfl, x1, qW, (by show 2 + 6 ≤ sizeLine; decide), fun l4 hl4 => ?_⟩
 refine ⟨c, l4, [10 ^ 9, 6, 4, 4, 4, 4, 4, 4], rfl, qW, by decide, by decide, fun dr xs hdr hxl hxb => ?_⟩
 have S4 : Same H (upd (upd (upd (upd H l1 (.lst [.int (10 ^ (9 : Int).toNat), .int 6])) l2 (.lst [.int 4])) l3 (.lst (List.replicate (6 : Int).toNat [V.int 4]).flatten)) l4 (.lst ([.int (10 ^ (9 : Int).toNat), .int 6] ++ (List.replicate (6 : Int).toNat [V.int 4]).flatten))) :=
  (qV hl1 _).trans ((qV hl2 _).trans ((qV hl3 _).trans (qV hl4 _)))
 generalize upd (upd (upd (upd H l1 (.lst [.int (10 ^ (9 : Int).toNat), .int 6])) l2 (.lst [.int 4])) l3 (.lst (List.replicate (6 : Int).toNat [V.int 4]).flatten)) l4 (.lst ([.int (10 ^ (9 : Int).toNat), .int 6] ++ (List.replicate (6 : Int).toNat [V.int 4]).flatten)) = H4 at hdr S4
 obtain ⟨x0, x1, y0, y1, y2, y3, y4, y5, rfl⟩ := eight hxl
 have b0 := hxb 0 x0 (10 ^ 9) rfl rfl
 have b1 := hxb 1 x1 6 rfl rfl
 have hy : ∀ (j : Nat) (y : Int), [y0, y1, y2, y3, y4, y5][j]? = some y → 0 ≤ y ∧ y < 4 := fun j y e => by
  have hj : j < 6 := (List.getElem?_eq_some_iff.mp e).1
  refine hxb (j + 2) y 4 (by simpa using e) ?_
  exact six_fours ⟨j, hj⟩
 have S5 : Same H (upd H4 dr (.lst (intsV [x0, x1, y0, y1, y2, y3, y4, y5]))) := S4.trans (qV hdr _)
 have eD : upd H4 dr (.lst (intsV [x0, x1, y0, y1, y2, y3, y4, y5])) dr = some (.lst (intsV [x0, x1, y0, y1, y2, y3, y4, y5])) := qW
 generalize upd H4 dr (.lst (intsV [x0, x1, y0, y1, y2, y3, y4, y5])) = H5 at S5 eD
 refine ⟨_, rfl, dr, _, 0, .int x0, rfl, rfl, SqL.of eD, rfl, x0, 6, rfl, b0.1, by decide, by decide, fun wd ws hwd hwl hwp => ?_⟩
 have S6 : Same H (upd H5 wd (.lst (strsV ws))) := S5.trans (qV hwd _)
 have eD6 : upd H5 wd (.lst (strsV ws)) dr = some (.lst (intsV [x0, x1, y0, y1, y2, y3, y4, y5])) := by rw [qA (qB eD hwd)]; exact eD
 have eW6 : upd H5 wd (.lst (strsV ws)) wd = some (.lst (strsV ws)) := qW
 generalize upd H5 wd (.lst (strsV ws)) = H6 at S6 eD6 eW6
 refine ⟨_, rfl, dr, _, 0, .int x0, rfl, rfl, SqL.of eD6, rfl, x0, 8, rfl, rfl, (by decide : (0 : Int) < 8), rfl, _, rfl, ?_⟩
 refine ite2 (fun _ => ?_) (fun _ => ?_)
 ·refine ⟨(by show 6 ≤ sizeLine; decide), fun p hp => ?_⟩
  exact go dr x0 x1 y0 y1 y2 y3 y4 y5 b1.1 b1.2 hy p ["way", "goal", "begin", "end", "deed", "look"] _ (S6.trans (qV hp _)) (by rw [qA (qB eD6 hp)]; exact eD6) qW rfl named_six
 ·exact go dr x0 x1 y0 y1 y2 y3 y4 y5 b1.1 b1.2 hy wd ws H6 S6 eD6 eW6 hwl hwp.named

theorem sc_law_expr : FnScope ["deck", "words", "deep", "kind", "one"] ["deck", "words", "deep"] (xB (top 46)) := ⟨rfl, rfl, rfl, by decide +kernel, rfl, by decide +kernel, by decide +kernel⟩
noncomputable def Expr' (ws : List Str) : Th → Prop
 | .num n => 0 ≤ n ∧ n < 10
 | .box x => x ∈ ws
 | .nul _ => False
 | .un _ _ => False
 | .bin k a b => (k = "plus" ∨ k = "less") ∧ Expr' ws a ∧ Expr' ws b
theorem op_plus : Th.Op "plus" := ⟨by decide +kernel, by decide +kernel⟩
theorem op_less : Th.Op "less" := ⟨by decide +kernel, by decide +kernel⟩
theorem Expr'.ok {ws : List Str} : ∀ {t : Th}, Expr' ws t → t.Ok
 | .num _, _ => trivial
 | .box _, _ => trivial
 | .nul _, h => h.elim
 | .un _ _, h => h.elim
 | .bin k a b, ⟨h, ha, hb⟩ => ⟨by rcases h with rfl | rfl; exact op_plus; exact op_less, Expr'.ok ha, Expr'.ok hb⟩
structure Dk (H : Hp) (dk wd : Addr) (ws : List Str) : Prop where
 deck : ∃ d : Int, H dk = some (.lst [.int d])
 words : H wd = some (.lst (strsV ws))
 ne : ws ≠ []
 le : ws.length ≤ 100
 ap : wd ≠ dk
theorem Dk.but {H H' : Hp} {dk wd : Addr} {ws : List Str} (D : Dk H dk wd ws) (b : But dk H H') {d : Int} (h : H' dk = some (.lst [.int d])) : Dk H' dk wd ws := ⟨⟨d, h⟩, b _ _ D.ap D.words, D.ne, D.le, D.ap⟩
noncomputable def spExpr (n : Nat) : Sp := fun vs H Q _ => ∃ (dk wd : Addr) (ws : List Str) (dp : Int), vs = [.ref dk, .ref wd, .int dp] ∧ Dk H dk wd ws ∧ 0 ≤ dp ∧ dp < n ∧
 ∀ (t : Th) (v : V) (H' : Hp), But dk H H' → Dk H' dk wd ws → t.At H' v → Expr' ws t → t.dep ≤ dp.toNat + 1 → Q v H'
theorem ok_expr0 {f : Addr} {fd : FuncData} : FnOk P w K mg base CX0 1 f fd ["deck", "words", "deep"] (spExpr 0) := by
 have no : ∀ vs H Q E, ¬ spExpr 0 vs H Q E := fun vs H Q E h => by
  obtain ⟨_, _, _, dp, _, _, h1, h2, _⟩ := h
  omega
 exact ⟨fun vs H Q E h => absurd h (no vs H Q E), fun A outer s H args us vs Q E _ _ _ _ h => absurd h (no vs H Q E)⟩
theorem words_at {ws : List Str} {i : Int} (h0 : 0 ≤ i) (h1 : i < ws.length) : ∃ x, x ∈ ws ∧ atI (strsV ws) i = some (.str x) := by
 have e : i = ((i.toNat : Nat) : Int) := by omega
 have hk : i.toNat < ws.length := by omega
 have z : atI (strsV ws) ((i.toNat : Nat) : Int) = some (.str ws[i.toNat]) := atI_nat (by rw [List.getElem?_map, List.getElem?_eq_getElem hk]; rfl)
 rw [← e] at z
 exact ⟨_, List.getElem_mem hk, z⟩
theorem ok_expr1 {n : Nat} {f g : Addr} {fd gd : FuncData} (F : Fun K "_law_expr" "_law_expr" (top 46) f fd) (B : Bl mg) (G_law_expr : FnOk P w K mg base CX0 (n + 1) f fd ["deck", "words", "deep"] (spExpr n)) (E_law_expr : FunE K mg "_law_expr" f fd ["deck", "words", "deep"])
  (G_law_take : FnOk P w K mg base CX0 (n + 1) g gd ["deck", "many"] spTake) (E_law_take : FunE K mg "_law_take" g gd ["deck", "many"]) : FnOk P w K mg base CX0 (n + 2) f fd ["deck", "words", "deep"] (spExpr (n + 1)) := by
 refine F.ok sc_law_expr (fun vs H Q E h => ?_) (fun cdv A outer s H vs Q E hr h => ?_)
 ·obtain ⟨_, _, _, _, rfl, _⟩ := h
  rfl
 obtain ⟨dk, wd, ws, dp, rfl, D, h0, h1, q⟩ := h
 obtain ⟨de, hde⟩ := D.deck
 refine ⟨_, (qZ (qN (i := 3) sc_law_expr.nd rfl (by wtm_at "zo") (pe_call G_law_take hr rfl E_law_take.mg E_law_take.kp E_law_take.bd .nil pass0 (qQ (pv 0) (qQ qF qX))))
  (qZ (ps_if (PW.pt (pw_or (qS op_eq (pv 2) qF (xE _)) (pw_or1 (qS op_lt (pv 3) qF (xE _))))) (qZ (ps_if (qS op_eq (xX op_mod (pv 3) qF) qF (xE _)) (qJ (qO (pe_tup (qQ qG (qQ (pe_call G_law_take hr rfl E_law_take.mg E_law_take.kp E_law_take.bd .nil pass0 (qQ (pv 0) (qQ qF qX))) qX))))) qY)
  (qJ (qO (pe_tup (qQ qG (qQ (pe_ix (qU (K := K)) (pv 1) (pe_call G_law_take hr rfl E_law_take.mg E_law_take.kp E_law_take.bd .nil pass0 (qQ (pv 0) (qQ (xJ (call_lenK (K := K)) rfl B.len' bt_len (qQ (pv 1) qX)) qX))) (fun _ _ => rfl)) qX)))))) qY)
  (qZ (qN (i := 4) sc_law_expr.nd rfl (by wtm_at "zo") (pe_call G_law_expr hr rfl E_law_expr.mg E_law_expr.kp E_law_expr.bd .nil pass0 (qQ (pv 0) (qQ (pv 1) (qQ (xX op_sub (pv 2) qF) qX)))))
  (qJ (qO (pe_tup (qQ (pe_ix (qU (K := K)) (pe_lst (qQ qG (qQ qG qX))) (xX op_sub (pv 3) qF) (fun _ _ => rfl)) (qQ (pv 4) (qQ (pe_call G_law_expr hr rfl E_law_expr.mg E_law_expr.kp E_law_expr.bd .nil pass0 (qQ (pv 0) (qQ (pv 1) (qQ (xX op_sub (pv 2) qF) qX)))) qX))))))))), ?_⟩
 refine ⟨_, rfl, dk, 5, de, rfl, hde, by decide, by decide +kernel, fun k d1 hk0 hk5 => ?_⟩
 have B1 : But dk H (upd H dk (.lst [.int d1])) := But.upd
 have D1 : Dk (upd H dk (.lst [.int d1])) dk wd ws := D.but B1 qW
 generalize upd H dk (.lst [.int d1]) = H1 at B1 D1
 show tOr (tTest (tOp rEq (tVar 2) (tC (.int 0)))) (tTest (tOp (rI0 fun i j => .bl (decide (i < j))) (tVar 3) (tC (.int 3)))) _ _ _
 refine or_pure (b1 := decide (V.int dp = V.int 0)) (b2 := decide (k < 3)) (fun K h => ⟨_, rfl, rfl, _, rfl, h⟩) (fun K h => ⟨_, rfl, _, _, rfl, rfl, _, rfl, h⟩) _ ?_
 refine ite2 (fun _ => ?_) (fun c => ?_)
 ·-- a leaf
  refine ⟨_, rfl, k, 3, rfl, rfl, (by decide : (0 : Int) < 3), rfl, _, rfl, ?_⟩
  obtain ⟨d1', hd1⟩ := D1.deck
  refine ite2 (fun _ => ?_) (fun _ => ?_)
  ·refine ⟨_, rfl, dk, 10, d1', rfl, hd1, by decide, by decide +kernel, fun x d2 hx0 hx1 => ?_⟩
   refine ⟨(by show 2 ≤ sizeLine; decide), fun t ht => ?_⟩
   have B2 : But dk H1 (upd (upd H1 dk (.lst [.int d2])) t (.tup [.str "number", .int x])) := But.upd.trans (qV ht _).but
   refine q (.num x) (.ref t) _ (B1.trans B2) (D1.but B2 (d := d2) ?_) ⟨t, rfl, qW⟩ ⟨hx0, hx1⟩ (by show 1 ≤ _; omega)
   rw [qA (qB qW ht)]
   exact qW
  ·refine ⟨_, rfl, _, rfl, _, rfl, wd, _, rfl, .inl (SqL.of D1.words), dk, _, d1', rfl, hd1, ?_, ?_, fun x d2 hx0 hx1 => ?_⟩
   ·rw [xA]
    have := List.length_pos_iff.mpr D1.ne
    omega
   ·rw [xA]
    have := D1.le
    exact big _ (by omega) (Int.lt_of_le_of_lt (b := 100) (by omega) (by decide +kernel))
   ·rw [xA] at hx1
    obtain ⟨x', hm, ex⟩ := words_at hx0 hx1
    have w2 : upd H1 dk (.lst [.int d2]) wd = some (.lst (strsV ws)) := by rw [qA D1.ap]; exact D1.words
    refine ⟨wd, _, x, .str x', rfl, rfl, SqL.of w2, ex, (by show 2 ≤ sizeLine; decide), fun t ht => ?_⟩
    have B2 : But dk H1 (upd (upd H1 dk (.lst [.int d2])) t (.tup [.str "box", .str x'])) := But.upd.trans (qV ht _).but
    refine q (.box x') (.ref t) _ (B1.trans B2) (D1.but B2 (d := d2) ?_) ⟨t, rfl, qW⟩ hm (by show 1 ≤ _; omega)
    rw [qA (qB qW ht)]
    exact qW
 have c1 : ¬ (V.int dp = V.int 0) := fun z => c (by rw [decide_eq_true z]; rfl)
 have c2 : ¬ k < 3 := fun z => c (by rw [decide_eq_true z, Bool.or_true])
 have dp1 : dp ≠ 0 := fun z => c1 (by rw [z])
 refine ⟨_, rfl, _, rfl, _, rfl, _, 1, rfl, rfl, dk, wd, ws, dp - 1, rfl, D1, by omega, by omega, fun t1 v1 H2 B2 D2 a1 x1 d1 => ?_⟩
 refine ⟨(by show 2 ≤ sizeLine; decide), fun l hl => ?_⟩
 have key : ∃ op : Str, (op = "plus" ∨ op = "less") ∧ atI [V.str "plus", V.str "less"] (k - 3) = some (.str op) := by
  have : k - 3 = 0 ∨ k - 3 = 1 := by omega
  rcases this with e | e
  ·exact ⟨"plus", .inl rfl, by rw [e]; rfl⟩
  ·exact ⟨"less", .inr rfl, by rw [e]; rfl⟩
 obtain ⟨op, hop, eop⟩ := key
 refine ⟨_, rfl, k, 3, rfl, rfl, l, _, k - 3, .str op, rfl, rfl, SqL.of qW, eop, _, rfl, _, rfl, _, rfl, _, rfl, _, 1, rfl, rfl, dk, wd, ws, dp - 1, rfl, ?_, by omega, by omega, fun t2 v2 H3 B3 D3 a2 x2 d2 => ?_⟩
 ·obtain ⟨d2', hd2⟩ := D2.deck
  exact D2.but (qV hl _).but (d := d2') (by rw [qA (qB hd2 hl)]; exact hd2)
 ·refine ⟨(by show 3 ≤ sizeLine; decide), fun t ht => ?_⟩
  have B4 : But dk H (upd H3 t (.tup [.str op, v1, v2])) := B1.trans (B2.trans ((qV hl _).but.trans (B3.trans (qV ht _).but)))
  obtain ⟨d3', hd3⟩ := D3.deck
  obtain ⟨d2', hd2⟩ := D2.deck
  have T2 : Tups H2 (upd H3 t (.tup [.str op, v1, v2])) := (qC (qV hl _)).trans ((tups_but B3 (by rw [qA (qB hd2 hl)]; exact hd2)).trans (qC (qV ht _)))
  refine q (.bin op t1 t2) (.ref t) _ B4 (D.but B4 (d := d3') (by rw [qA (qB hd3 ht)]; exact hd3)) ⟨t, v1, v2, rfl, qW, a1.mono T2, a2.mono (qC (qV ht _))⟩ ⟨hop, x1, x2⟩ ?_
  show max t1.dep t2.dep + 1 ≤ _
  omega
theorem ok_expr {f g : Addr} {fd gd : FuncData} (F : Fun K "_law_expr" "_law_expr" (top 46) f fd) (B : Bl mg) (E_law_expr : FunE K mg "_law_expr" f fd ["deck", "words", "deep"])
  (G : FnOk P w K mg base CX0 1 g gd ["deck", "many"] spTake) (E_law_take : FunE K mg "_law_take" g gd ["deck", "many"]) : ∀ n : Nat, FnOk P w K mg base CX0 (n + 1) f fd ["deck", "words", "deep"] (spExpr n)
 | 0 => ok_expr0
 | n + 1 => ok_expr1 F B (ok_expr F B E_law_expr G E_law_take n) E_law_expr (G.mono (by omega)) E_law_take

theorem sc_law_cond : FnScope ["deck", "words", "deep", "kind", "one"] ["deck", "words", "deep"] (xB (top 47)) := ⟨rfl, rfl, rfl, by decide +kernel, rfl, by decide +kernel, by decide +kernel⟩
noncomputable def Cond' (ws : List Str) : Th → Prop
 | .num _ => False
 | .box _ => False
 | .nul k => k = "yes"
 | .un k a => k = "not" ∧ Cond' ws a
 | .bin k a b => ((k = "same" ∨ k = "under") ∧ Expr' ws a ∧ Expr' ws b) ∨ (k = "both" ∧ Cond' ws a ∧ Cond' ws b)
theorem op_same : Th.Op "same" := ⟨by decide +kernel, by decide +kernel⟩
theorem op_under : Th.Op "under" := ⟨by decide +kernel, by decide +kernel⟩
theorem op_both : Th.Op "both" := ⟨by decide +kernel, by decide +kernel⟩
theorem op_not : Th.Op "not" := ⟨by decide +kernel, by decide +kernel⟩
theorem op_yes : Th.Op "yes" := ⟨by decide +kernel, by decide +kernel⟩
theorem Cond'.ok {ws : List Str} : ∀ {t : Th}, Cond' ws t → t.Ok
 | .num _, h => h.elim
 | .box _, h => h.elim
 | .nul k, h => by cases (show k = "yes" from h); exact op_yes
 | .un k a, ⟨h, ha⟩ => ⟨by cases h; exact op_not, Cond'.ok ha⟩
 | .bin k a b, h => by
  rcases h with ⟨h, ha, hb⟩ | ⟨h, ha, hb⟩
  ·exact ⟨by rcases h with rfl | rfl; exact op_same; exact op_under, ha.ok, hb.ok⟩
  ·exact ⟨by cases h; exact op_both, Cond'.ok ha, Cond'.ok hb⟩
noncomputable def spCond (n : Nat) : Sp := fun vs H Q _ => ∃ (dk wd : Addr) (ws : List Str) (dp : Int), vs = [.ref dk, .ref wd, .int dp] ∧ Dk H dk wd ws ∧ 0 ≤ dp ∧ dp < n ∧
 ∀ (t : Th) (v : V) (H' : Hp), But dk H H' → Dk H' dk wd ws → t.At H' v → Cond' ws t → t.dep ≤ dp.toNat + 4 → Q v H'
theorem ok_cond0 {f : Addr} {fd : FuncData} : FnOk P w K mg base CX0 1 f fd ["deck", "words", "deep"] (spCond 0) := by
 have no : ∀ vs H Q E, ¬ spCond 0 vs H Q E := fun vs H Q E h => by
  obtain ⟨_, _, _, dp, _, _, h1, h2, _⟩ := h
  omega
 exact ⟨fun vs H Q E h => absurd h (no vs H Q E), fun A outer s H args us vs Q E _ _ _ _ h => absurd h (no vs H Q E)⟩
theorem Dk.new {H : Hp} {dk wd p : Addr} {ws : List Str} {o : HO} (D : Dk H dk wd ws) (hp : H p = none) : Dk (upd H p o) dk wd ws := by
 obtain ⟨d, hd⟩ := D.deck
 exact D.but (qV hp _).but (d := d) (by rw [qA (qB hd hp)]; exact hd)
theorem ok_cond1 {n : Nat} {f g e : Addr} {fd gd ed : FuncData} (F : Fun K "_law_cond" "_law_cond" (top 47) f fd) (B : Bl mg) (G_law_cond : FnOk P w K mg base CX0 (n + 5) f fd ["deck", "words", "deep"] (spCond n)) (E_law_cond : FunE K mg "_law_cond" f fd ["deck", "words", "deep"])
  (G_law_expr : FnOk P w K mg base CX0 (n + 5) e ed ["deck", "words", "deep"] (spExpr 3)) (E_law_expr : FunE K mg "_law_expr" e ed ["deck", "words", "deep"])
  (G_law_take : FnOk P w K mg base CX0 (n + 5) g gd ["deck", "many"] spTake) (E_law_take : FunE K mg "_law_take" g gd ["deck", "many"]) : FnOk P w K mg base CX0 (n + 6) f fd ["deck", "words", "deep"] (spCond (n + 1)) := by
 refine F.ok sc_law_cond (fun vs H Q E h => ?_) (fun cdv A outer s H vs Q E hr h => ?_)
 ·obtain ⟨_, _, _, _, rfl, _⟩ := h
  rfl
 obtain ⟨dk, wd, ws, dp, rfl, D, h0, h1, q⟩ := h
 obtain ⟨de, hde⟩ := D.deck
 refine ⟨_, (qZ (qN (i := 3) sc_law_cond.nd rfl (by wtm_at "zo") (pe_call G_law_take hr rfl E_law_take.mg E_law_take.kp E_law_take.bd .nil pass0 (qQ (pv 0) (qQ qF qX))))
  (qZ (ps_if (PW.pt (pw_or (qS op_eq (pv 2) qF (xE _)) (pw_or1 (qS op_lt (pv 3) qF (xE _))))) (qZ (ps_if (qS op_eq (pv 3) qF (xE _)) (qJ (qO (pe_tup (qQ qG qX)))) qY)
  (qZ (qN (i := 4) sc_law_cond.nd rfl (by wtm_at "zo") (pe_call G_law_expr hr rfl E_law_expr.mg E_law_expr.kp E_law_expr.bd .nil pass0 (qQ (pv 0) (qQ (pv 1) (qQ qF qX)))))
  (qJ (qO (pe_tup (qQ (pe_ix (qU (K := K)) (pe_lst (qQ qG (qQ qG qX))) (xX op_mod (pv 3) qF) (fun _ _ => rfl)) (qQ (pv 4) (qQ (pe_call G_law_expr hr rfl E_law_expr.mg E_law_expr.kp E_law_expr.bd .nil pass0 (qQ (pv 0) (qQ (pv 1) (qQ qF qX)))) qX)))))))) qY)
  (qZ (qN (i := 4) sc_law_cond.nd rfl (by wtm_at "zo") (pe_call G_law_cond hr rfl E_law_cond.mg E_law_cond.kp E_law_cond.bd .nil pass0 (qQ (pv 0) (qQ (pv 1) (qQ (xX op_sub (pv 2) qF) qX)))))
  (qZ (ps_if (qS op_lt (pv 3) qF (xE _)) (qJ (qO (pe_tup (qQ qG (qQ (pv 4) qX))))) qY)
  (qJ (qO (pe_tup (qQ qG (qQ (pv 4) (qQ (pe_call G_law_cond hr rfl E_law_cond.mg E_law_cond.kp E_law_cond.bd .nil pass0 (qQ (pv 0) (qQ (pv 1) (qQ (xX op_sub (pv 2) qF) qX)))) qX)))))))))), ?_⟩
 refine ⟨_, rfl, dk, 7, de, rfl, hde, by decide, by decide +kernel, fun k d1 hk0 hk5 => ?_⟩
 have B1 : But dk H (upd H dk (.lst [.int d1])) := But.upd
 have D1 : Dk (upd H dk (.lst [.int d1])) dk wd ws := D.but B1 qW
 generalize upd H dk (.lst [.int d1]) = H1 at B1 D1
 show tOr (tTest (tOp rEq (tVar 2) (tC (.int 0)))) (tTest (tOp (rI0 fun i j => .bl (decide (i < j))) (tVar 3) (tC (.int 3)))) _ _ _
 refine or_pure (b1 := decide (V.int dp = V.int 0)) (b2 := decide (k < 3)) (fun K h => ⟨_, rfl, rfl, _, rfl, h⟩) (fun K h => ⟨_, rfl, _, _, rfl, rfl, _, rfl, h⟩) _ ?_
 refine ite2 (fun _ => ?_) (fun c => ?_)
 ·refine ⟨_, rfl, rfl, _, rfl, ?_⟩
  refine ite2 (fun _ => ?_) (fun _ => ?_)
  ·refine ⟨(by show 1 ≤ sizeLine; decide), fun t ht => ?_⟩
   exact q (.nul "yes") (.ref t) _ (B1.trans (qV ht _).but) (D1.new ht) ⟨t, rfl, qW⟩ rfl (by show 1 ≤ _; omega)
  ·refine ⟨_, rfl, _, rfl, dk, wd, ws, 2, rfl, D1, by decide, by decide, fun t1 v1 H2 B2 D2 a1 x1 d1 => ?_⟩
   refine ⟨(by show 2 ≤ sizeLine; decide), fun l hl => ?_⟩
   have key : ∃ op : Str, (op = "same" ∨ op = "under") ∧ atI [V.str "same", V.str "under"] (k % 2) = some (.str op) := by
    have : k % 2 = 0 ∨ k % 2 = 1 := by omega
    rcases this with e | e
    ·exact ⟨"same", .inl rfl, by rw [e]; rfl⟩
    ·exact ⟨"under", .inr rfl, by rw [e]; rfl⟩
   obtain ⟨op, hop, eop⟩ := key
   refine ⟨_, rfl, k, 2, rfl, rfl, (by decide : (0 : Int) < 2), l, _, k % 2, .str op, rfl, rfl, SqL.of qW, eop, _, rfl, _, rfl, _, rfl, dk, wd, ws, 2, rfl, D2.new hl, by decide, by decide, fun t2 v2 H3 B3 D3 a2 x2 d2 => ?_⟩
   refine ⟨(by show 3 ≤ sizeLine; decide), fun t ht => ?_⟩
   obtain ⟨d2', hd2⟩ := D2.deck
   have T2 : Tups H2 (upd H3 t (.tup [.str op, v1, v2])) := (qC (qV hl _)).trans ((tups_but B3 (by rw [qA (qB hd2 hl)]; exact hd2)).trans (qC (qV ht _)))
   refine q (.bin op t1 t2) (.ref t) _ (B1.trans (B2.trans ((qV hl _).but.trans (B3.trans (qV ht _).but)))) (D3.new ht) ⟨t, v1, v2, rfl, qW, a1.mono T2, a2.mono (qC (qV ht _))⟩ (.inl ⟨hop, x1, x2⟩) ?_
   have e3 : (2 : Int).toNat + 1 = 3 := rfl
   rw [e3] at d1 d2
   show max t1.dep t2.dep + 1 ≤ _
   omega
 have c1 : ¬ (V.int dp = V.int 0) := fun z => c (by rw [decide_eq_true z]; rfl)
 have dp1 : dp ≠ 0 := fun z => c1 (by rw [z])
 refine ⟨_, rfl, _, rfl, _, rfl, _, 1, rfl, rfl, dk, wd, ws, dp - 1, rfl, D1, by omega, by omega, fun t1 v1 H2 B2 D2 a1 x1 d1 => ?_⟩
 refine ⟨_, rfl, _, _, rfl, rfl, _, rfl, ?_⟩
 refine ite2 (fun _ => ?_) (fun _ => ?_)
 ·refine ⟨_, rfl, (by show 2 ≤ sizeLine; decide), fun t ht => ?_⟩
  refine q (.un "not" t1) (.ref t) _ (B1.trans (B2.trans (qV ht _).but)) (D2.new ht) ⟨t, v1, rfl, qW, a1.mono (qC (qV ht _))⟩ ⟨rfl, x1⟩ ?_
  show t1.dep + 1 ≤ _
  omega
 ·refine ⟨_, rfl, _, rfl, _, rfl, _, rfl, _, 1, rfl, rfl, dk, wd, ws, dp - 1, rfl, D2, by omega, by omega, fun t2 v2 H3 B3 D3 a2 x2 d2 => ?_⟩
  refine ⟨(by show 3 ≤ sizeLine; decide), fun t ht => ?_⟩
  obtain ⟨d2', hd2⟩ := D2.deck
  have T2 : Tups H2 (upd H3 t (.tup [.str "both", v1, v2])) := (tups_but B3 hd2).trans (qC (qV ht _))
  refine q (.bin "both" t1 t2) (.ref t) _ (B1.trans (B2.trans (B3.trans (qV ht _).but))) (D3.new ht) ⟨t, v1, v2, rfl, qW, a1.mono T2, a2.mono (qC (qV ht _))⟩ (.inr ⟨rfl, x1, x2⟩) ?_
  show max t1.dep t2.dep + 1 ≤ _
  omega
theorem ok_cond {f g e : Addr} {fd gd ed : FuncData} (F : Fun K "_law_cond" "_law_cond" (top 47) f fd) (B : Bl mg) (E_law_cond : FunE K mg "_law_cond" f fd ["deck", "words", "deep"])
  (GE : FnOk P w K mg base CX0 4 e ed ["deck", "words", "deep"] (spExpr 3)) (E_law_expr : FunE K mg "_law_expr" e ed ["deck", "words", "deep"])
  (G : FnOk P w K mg base CX0 1 g gd ["deck", "many"] spTake) (E_law_take : FunE K mg "_law_take" g gd ["deck", "many"]) : ∀ n : Nat, FnOk P w K mg base CX0 (n + 5) f fd ["deck", "words", "deep"] (spCond n)
 | 0 => ok_cond0.mono (by omega)
 | n + 1 => ok_cond1 F B (ok_cond F B E_law_cond GE E_law_expr G E_law_take n) E_law_cond (GE.mono (by omega)) E_law_expr (G.mono (by omega)) E_law_take

noncomputable def Th.worth (ρ : Str → Int) : Th → Int
 | .num n => n
 | .box x => ρ x
 | .nul _ => 0
 | .un _ _ => 0
 | .bin k a b => if k = "plus" then a.worth ρ + b.worth ρ else a.worth ρ - b.worth ρ
theorem ne_pl : ("less" : Str) ≠ "plus" := by decide +kernel
noncomputable def Env' (kvs : List (Key × V)) (ws : List Str) (ρ : Str → Int) : Prop := ∀ x ∈ ws, valV kvs (Sum.inr x) = some (.int (ρ x)) ∧ 0 ≤ ρ x ∧ ρ x < 10

theorem sc_worth_by : FnScope ["expression", "values", "kind", "one", "other"] ["expression", "values"] (xB (top 16)) := ⟨rfl, rfl, rfl, by decide +kernel, rfl, by decide +kernel, by decide +kernel⟩
noncomputable def spWorthBy (n : Nat) : Sp := fun vs H Q _ => ∃ (t : Th) (v : V) (d : Addr) (kvs : List (Key × V)) (ws : List Str) (ρ : Str → Int), vs = [v, .ref d] ∧ t.At H v ∧ Expr' ws t ∧ t.dep ≤ n ∧ H d = some (.dK kvs) ∧ Env' kvs ws ρ ∧ Q (.int (t.worth ρ)) H
theorem ok_worth_by0 {f : Addr} {fd : FuncData} : FnOk P w K mg base CX0 1 f fd ["expression", "values"] (spWorthBy 0) := by
 have no : ∀ vs H Q E, ¬ spWorthBy 0 vs H Q E := fun vs H Q E h => by
  obtain ⟨t, _, _, _, _, _, _, _, _, h1, _⟩ := h
  have := t.dep_pos
  omega
 exact ⟨fun vs H Q E h => absurd h (no vs H Q E), fun A outer s H args us vs Q E _ _ _ _ h => absurd h (no vs H Q E)⟩
theorem ok_worth_by1 {n : Nat} {f : Addr} {fd : FuncData} (F : Fun K "worth_by" "worth_by" (top 16) f fd) (G_worth_by : FnOk P w K mg base CX0 (n + 1) f fd ["expression", "values"] (spWorthBy n)) (E_worth_by : FunE K mg "worth_by" f fd ["expression", "values"]) :
  FnOk P w K mg base CX0 (n + 2) f fd ["expression", "values"] (spWorthBy (n + 1)) := by
 refine F.ok sc_worth_by (fun vs H Q E h => ?_) (fun cdv A outer s H vs Q E hr h => ?_)
 ·obtain ⟨_, _, _, _, _, _, rfl, _⟩ := h
  rfl
 obtain ⟨t, v, d, kvs, ws, ρ, rfl, at', ex, hn, hd, env, q⟩ := h
 have hu := hu_of hr
 refine ⟨_, (qZ (qN (i := 2) sc_worth_by.nd rfl (by wtm_at "zo") (pe_ix (qT (K := K)) (pv 0) qF (fun _ _ => rfl)))
  (qZ (ps_if (qS op_eq (pv 2) qG (xE _)) (qJ (qO (pe_ix (qT (K := K)) (pv 0) qF (fun _ _ => rfl)))) qY)
  (qZ (ps_if (qS op_eq (pv 2) qG (xE _)) (qJ (qO (pe_dget hu (pv 1) (pe_ix (qT (K := K)) (pv 0) qF (fun _ _ => rfl)) (fun _ _ => rfl)))) qY)
  (qZ (qN (i := 3) sc_worth_by.nd rfl (by wtm_at "zo") (pe_call G_worth_by hr rfl E_worth_by.mg E_worth_by.kp E_worth_by.bd .nil pass0 (qQ (pe_ix (qT (K := K)) (pv 0) qF (fun _ _ => rfl)) (qQ (pv 1) qX))))
  (qZ (qN (i := 4) sc_worth_by.nd rfl (by wtm_at "zo") (pe_call G_worth_by hr rfl E_worth_by.mg E_worth_by.kp E_worth_by.bd .nil pass0 (qQ (pe_ix (qT (K := K)) (pv 0) qF (fun _ _ => rfl)) (qQ (pv 1) qX))))
  (qJ (qO (pe_ifExp (qS op_eq (pv 2) qG (xE _)) (xX op_add (pv 3) (pv 4)) (xX op_sub (pv 3) (pv 4)))))))))), ?_⟩
 cases t with
 | nul _ => exact False.elim ex
 | un _ _ => exact False.elim ex
 | num n =>
  obtain ⟨a, ev, ea⟩ := at'
  subst ev
  refine ⟨_, rfl, a, _, 0, .str "number", rfl, rfl, SqT.of ea, rfl, ?_⟩
  refine ⟨_, rfl, rfl, _, rfl, ?_⟩
  rw [dec_str_eq]
  refine iteT ?_
  exact ⟨_, rfl, a, _, 1, .int n, rfl, rfl, SqT.of ea, rfl, q⟩
 | box x =>
  obtain ⟨a, ev, ea⟩ := at'
  subst ev
  refine ⟨_, rfl, a, _, 0, .str "box", rfl, rfl, SqT.of ea, rfl, ?_⟩
  refine ⟨_, rfl, rfl, _, rfl, ?_⟩
  rw [xW (Ne.symm ne_nb)]
  refine iteF ?_
  refine ⟨_, rfl, rfl, _, rfl, ?_⟩
  rw [dec_str_eq]
  refine iteT ?_
  refine ⟨_, rfl, _, rfl, a, _, 1, .str x, rfl, rfl, SqT.of ea, rfl, d, .int (ρ x), rfl, ?_, q⟩
  rw [← (env x ex).1]
  exact DGet.k (k := Sum.inr x) hd
 | bin k t1 t2 =>
  obtain ⟨a, u1, u2, ev, ea, a1, a2⟩ := at'
  obtain ⟨hk, x1, x2⟩ := ex
  subst ev
  have hn' : max t1.dep t2.dep + 1 ≤ n + 1 := hn
  have k1 : k ≠ "number" := by rcases hk with rfl | rfl; exact op_plus.2; exact op_less.2
  have k2 : k ≠ "box" := by rcases hk with rfl | rfl; exact op_plus.1; exact op_less.1
  refine ⟨_, rfl, a, _, 0, .str k, rfl, rfl, SqT.of ea, rfl, ?_⟩
  refine ⟨_, rfl, rfl, _, rfl, ?_⟩
  rw [xW k1]
  refine iteF ?_
  refine ⟨_, rfl, rfl, _, rfl, ?_⟩
  rw [xW k2]
  refine iteF ?_
  refine ⟨_, rfl, a, _, 1, u1, rfl, rfl, SqT.of ea, rfl, _, rfl, t1, u1, d, kvs, ws, ρ, rfl, a1, x1, by omega, hd, env, ?_⟩
  refine ⟨_, rfl, a, _, 2, u2, rfl, rfl, SqT.of ea, rfl, _, rfl, t2, u2, d, kvs, ws, ρ, rfl, a2, x2, by omega, hd, env, ?_⟩
  refine ⟨_, rfl, rfl, _, rfl, ?_⟩
  have q' : Q (.int (if k = "plus" then t1.worth ρ + t2.worth ρ else t1.worth ρ - t2.worth ρ)) H := q
  refine ite2 (fun c => ?_) (fun c => ?_)
  ·have c' : k = "plus" := by
    have z := of_decide_eq_true c
    cases z
    rfl
   rw [if_pos c'] at q'
   exact ⟨_, rfl, _, rfl, _, _, rfl, rfl, q'⟩
  ·have c' : k ≠ "plus" := fun z => c (by rw [z, dec_str_eq])
   rw [if_neg c'] at q'
   exact ⟨_, rfl, _, rfl, _, _, rfl, rfl, q'⟩
theorem ok_worth_by {f : Addr} {fd : FuncData} (F : Fun K "worth_by" "worth_by" (top 16) f fd) (E_worth_by : FunE K mg "worth_by" f fd ["expression", "values"]) : ∀ n : Nat, FnOk P w K mg base CX0 (n + 1) f fd ["expression", "values"] (spWorthBy n)
 | 0 => ok_worth_by0
 | n + 1 => ok_worth_by1 F (ok_worth_by F E_worth_by n) E_worth_by

theorem merge_some {x : Str} : ∀ (kvs : List (Str × V)) (acc : List (Key × V)), ((valV acc (Sum.inr x)).isSome = true ∨ x ∈ kvs.map (·.1)) → (valV (mergeK acc (pairK kvs)) (Sum.inr x)).isSome = true
 | [], acc, h => by rcases h with h | h; exact h; cases h
 | (n, v) :: kvs, acc, h => by
  show (valV (mergeK (putK acc (Sum.inr n) v) (pairK kvs)) (Sum.inr x)).isSome = true
  refine merge_some kvs _ ?_
  rw [valV_put]
  by_cases e : x = n
  ·left; subst e; rw [if_pos rfl]; rfl
  ·rw [if_neg (fun z => e (Sum.inr.inj z))]
   rcases h with h | h
   ·exact .inl h
   ·rcases List.mem_cons.mp h with h | h
    ·exact absurd h e
    ·exact .inr h
theorem merge_all {Pr : V → Prop} : ∀ (kvs : List (Str × V)) (acc : List (Key × V)), (∀ kv ∈ kvs, Pr kv.2) → (∀ k v, valV acc k = some v → Pr v) → ∀ k v, valV (mergeK acc (pairK kvs)) k = some v → Pr v
 | [], acc, _, h => h
 | (n, v) :: kvs, acc, hk, h => by
  show ∀ k v', valV (mergeK (putK acc (Sum.inr n) v) (pairK kvs)) k = some v' → Pr v'
  refine merge_all kvs _ (fun kv hkv => hk kv (List.mem_cons_of_mem _ hkv)) fun k v' e => ?_
  rw [valV_put] at e
  by_cases c : k = Sum.inr n
  ·rw [if_pos c] at e; cases e; exact hk (n, v) List.mem_cons_self
  ·rw [if_neg c] at e; exact h k v' e
noncomputable def envOf (kvs : List (Key × V)) (x : Str) : Int := match valV kvs (Sum.inr x) with
 | some (.int i) => i
 | _ => 0
noncomputable abbrev kvsOf (bs : List (Str × Int)) (vals : List Int) : List (Key × V) := mergeK [] (zipK (bs.map (·.1)) (intsV vals))
noncomputable def Stands (bs : List (Str × Int)) (vals : List Int) : Prop := vals.length = bs.length ∧ ∀ v ∈ vals, 0 ≤ v ∧ v < 10
theorem env_of {bs : List (Str × Int)} {vals : List Int} (h : Stands bs vals) : Env' (kvsOf bs vals) (bs.map (·.1)) (envOf (kvsOf bs vals)) := fun x hx => by
 have s1 : (valV (kvsOf bs vals) (Sum.inr x)).isSome = true := merge_some (x := x) ((bs.map (fun b : Str × Int => b.1)).zip (intsV vals)) [] (.inr (by
  rw [List.map_fst_zip]
  ·exact hx
  ·rw [List.length_map, intsV_len, h.1]; exact Nat.le_refl _))
 have s2 := merge_all (Pr := fun v => ∃ i : Int, v = .int i ∧ 0 ≤ i ∧ i < 10) ((bs.map (fun b : Str × Int => b.1)).zip (intsV vals)) [] (fun kv hkv => by
  obtain ⟨a, b⟩ := kv
  obtain ⟨i, hi, e⟩ := List.mem_map.mp (List.of_mem_zip hkv).2
  exact ⟨i, e.symm, h.2 i hi⟩) (fun k v e => by cases e) (Sum.inr x)
 cases e : valV (kvsOf bs vals) (Sum.inr x) with
 | none => rw [e] at s1; cases s1
 | some v =>
  obtain ⟨i, rfl, h0, h1⟩ := s2 v e
  have e2 : envOf (kvsOf bs vals) x = i := by unfold envOf; rw [e]
  rw [e2]
  exact ⟨rfl, h0, h1⟩

theorem sc_values_by_name : FnScope ["boxes", "standing"] ["boxes", "standing"] (xB (top 15)) := ⟨rfl, rfl, rfl, by decide +kernel, rfl, by decide +kernel, by decide +kernel⟩
theorem co_values_by_name : CompOk (xB (top 15)) ["boxes", "standing"] (scopeOf (argOf (argOf (asgVal (stAt (xC (top 15)) 0)) 0) 0)) ["name", "size"] 2 [] :=
 ⟨by decide +kernel, by decide +kernel, by decide +kernel, by decide +kernel, by decide +kernel, by decide +kernel, by decide +kernel, by decide +kernel⟩
structure World' (H : Hp) (bx st : Addr) (bs : List (Str × Int)) (vals : List Int) : Prop where
 boxes : ∃ us, H bx = some (.lst us) ∧ Paired (BoxIn H) bs us
 stand : H st = some (.tup (intsV vals))
 ok : Stands bs vals
 le : bs.length ≤ 100
noncomputable def spValues : Sp := fun vs H Q _ => ∃ (bx st : Addr) (bs : List (Str × Int)) (vals : List Int), vs = [.ref bx, .ref st] ∧ World' H bx st bs vals ∧
 ∀ (p : Addr) (H' : Hp), Same H H' → H' p = some (.dK (kvsOf bs vals)) → Q (.ref p) H'
theorem ok_values {f : Addr} {fd : FuncData} (F : Fun K "values_by_name" "values_by_name" (top 15) f fd) (B : Bl mg) : FnOk P w K mg base CX0 1 f fd ["boxes", "standing"] spValues := by
 refine F.ok sc_values_by_name (fun vs H Q E h => ?_) (fun cdv A outer s H vs Q E hr h => ?_)
 ·obtain ⟨_, _, _, _, rfl, _⟩ := h
  rfl
 obtain ⟨bx, st, bs, vals, rfl, W, q⟩ := h
 obtain ⟨us, e1, p1⟩ := W.boxes
 refine ⟨_, qJ (qO (pe_dict_zip rfl rfl B.dict' rfl B.zip' (qQ (pe_comp rfl co_values_by_name (pi_list (pv 0))
  (fun cl fp s H => show PG _ _ (gTup K 2 (gCons (gName 0) (gCons (gName 1) gNil))) from pg_tup rfl (qI (qH (i := 0) co_values_by_name.nd rfl (Or.inl rfl) (.inr rfl)) (qI (qH (i := 1) co_values_by_name.nd rfl (Or.inl rfl) (.inr rfl)) qM)))
  (fun cl fp s H => pts_nil) (fun cl fp s H => pv 0)) (qQ (pv 1) qX)))), ?_⟩
 refine ⟨_, rfl, bx, rfl, ⟨us, SqL.of e1⟩, ?_⟩
 refine comp_list (xs := us) (fun D i ys H' => ys = strsV ((bs.take i).map (·.1)) ∧ ∀ b o, H b = some o → H' b = some o) (fun D hD => ⟨rfl, qV hD _⟩)
  (fun D i ys H' _ hP => (show Same H H' from hP.2).seq (SqL.of e1)) (fun D i x ys H' N hD hDy ex hP hN => ?_) (fun D ys H2 hD hDy hP => ?_)
 ·obtain ⟨rfl, hk⟩ := hP
  obtain ⟨b, eb⟩ : ∃ b, bs[i]? = some b := ⟨_, List.getElem?_eq_getElem (by rw [p1.length]; exact (List.getElem?_eq_some_iff.mp ex).1)⟩
  obtain ⟨ba, rfl, hba⟩ := xV p1 eb ex
  refine ⟨ba, _, rfl, SqT.of (hk _ _ hba), rfl, _, _, rfl, _, _, rfl, rfl, ⟨[some (.str b.1), some (.int b.2)], rfl, rfl⟩, ?_⟩
  have wle := W.le
  refine ⟨_, rfl, hDy, ?_, hN _ _ qW ⟨?_, fun b o e => ?_⟩⟩
  ·rw [xA, List.length_map, List.length_take]; exact small (by omega)
  ·rw [List.take_add_one, eb, List.map_append, strsV_app]; rfl
  ·rw [qA (qB e hD)]; exact hk _ _ e
 obtain ⟨rfl, hk2⟩ := hP
 have lb : us.length = bs.length := p1.length.symm
 rw [lb, List.take_length] at hDy
 have wle := W.le
 refine ⟨_, rfl, D, st, bs.map (·.1), intsV vals, rfl, SqL.of hDy, SqT.of (hk2 _ _ W.stand), ?_, ?_, fun p hp => ?_⟩
 ·rw [List.length_map, intsV_len, W.ok.1]
 ·rw [List.length_map]; omega
 ·exact q p _ ((show Same H H2 from hk2).trans (qV hp _)) qW

theorem sc_worth : FnScope ["expression", "boxes", "standing"] ["expression", "boxes", "standing"] (xB (top 12)) := ⟨rfl, rfl, rfl, by decide +kernel, rfl, by decide +kernel, by decide +kernel⟩
noncomputable def spWorth : Sp := fun vs H Q _ => ∃ (t : Th) (v : V) (bx st : Addr) (bs : List (Str × Int)) (vals : List Int), vs = [v, .ref bx, .ref st] ∧ t.At H v ∧ Expr' (bs.map (·.1)) t ∧ t.dep ≤ 12 ∧ World' H bx st bs vals ∧
 ∀ H', Same H H' → Q (.int (t.worth (envOf (kvsOf bs vals)))) H'
theorem ok_worth {f g h : Addr} {fd gd hd : FuncData} (F : Fun K "worth" "worth" (top 12) f fd) (G_worth_by : FnOk P w K mg base CX0 13 g gd ["expression", "values"] (spWorthBy 12)) (E_worth_by : FunE K mg "worth_by" g gd ["expression", "values"])
  (G_values_by_name : FnOk P w K mg base CX0 13 h hd ["boxes", "standing"] spValues) (E_values_by_name : FunE K mg "values_by_name" h hd ["boxes", "standing"]) : FnOk P w K mg base CX0 14 f fd ["expression", "boxes", "standing"] spWorth := by
 refine F.ok sc_worth (fun vs H Q E h => ?_) (fun cdv A outer s H vs Q E hr h => ?_)
 ·obtain ⟨_, _, _, _, _, _, rfl, _⟩ := h
  rfl
 obtain ⟨t, v, bx, st, bs, vals, rfl, at', ex, dp, W, q⟩ := h
 refine ⟨_, (qJ (qO (pe_call G_worth_by hr rfl E_worth_by.mg E_worth_by.kp E_worth_by.bd .nil pass0 (qQ (pv 0) (qQ (pe_call G_values_by_name hr rfl E_values_by_name.mg E_values_by_name.kp E_values_by_name.bd .nil pass0 (qQ (pv 1) (qQ (pv 2) qX))) qX))))), ?_⟩
 refine ⟨_, rfl, _, rfl, _, rfl, bx, st, bs, vals, rfl, W, fun p H' S e => ?_⟩
 exact ⟨t, v, p, _, _, _, rfl, at'.mono (qC S), ex, dp, e, env_of W.ok, q H' S⟩

theorem sc_law_values : FnScope ["boxes", "standing"] ["boxes", "standing"] (xB (top 50)) := ⟨rfl, rfl, rfl, by decide +kernel, rfl, by decide +kernel, by decide +kernel⟩
theorem co_law_values : CompOk (xB (top 50)) ["boxes", "standing"] (scopeOf (argOf (asgVal (stAt (xC (top 50)) 0)) 0)) ["k", "boxes", "standing"] 1 [0, 1] :=
 ⟨by decide +kernel, by decide +kernel, by decide +kernel, by decide +kernel, by decide +kernel, by decide +kernel, by decide +kernel, by decide +kernel⟩
theorem pairs_mono {H H' : Hp} (h : Tups H H') {kvs : List (Str × V)} {us : List V} (p : Paired (PairIn H) kvs us) : Paired (PairIn H') kvs us := Paired.mapP p fun _ _ x => let ⟨a, e, q⟩ := x; ⟨a, e, h _ _ q⟩
theorem ok_lvalues {f : Addr} {fd : FuncData} (F : Fun K "_law_values" "_law_values" (top 50) f fd) (B : Bl mg) : FnOk P w K mg base CX0 1 f fd ["boxes", "standing"] spValues := by
 refine F.ok sc_law_values (fun vs H Q E h => ?_) (fun cdv A outer s H vs Q E hr h => ?_)
 ·obtain ⟨_, _, _, _, rfl, _⟩ := h
  rfl
 obtain ⟨bx, st, bs, vals, rfl, W, q⟩ := h
 obtain ⟨us, e1, p1⟩ := W.boxes
 have wle := W.le
 have lb : us.length = bs.length := p1.length.symm
 have lv := W.ok.1
 refine ⟨_, qJ (qO (xZ (call_dict_of rfl) rfl B.dict' bt_dict (qQ (pe_comp rfl co_law_values (pi_range1 rfl B.range' (qQ (xJ call_len_seq rfl B.len' bt_len (qQ (pv 0) qX)) qX))
  (fun cl fp s H => qH (i := 0) co_law_values.nd rfl (Or.inl rfl) (.inr rfl)) (fun cl fp s H => pts_nil)
  (fun cl fp s H => pe_tup (qQ (pe_ix (r := rIxT K) ix_tup (pe_ix (r := rIxL K) ix_list (pv 1) (pv 0) (fun _ _ => rfl)) qF (fun _ _ => rfl)) (qQ (pe_ix (r := rIxT K) ix_tup (pv 2) (pv 0) (fun _ _ => rfl)) qX)))) qX))), ?_⟩
 refine ⟨_, rfl, bx, _, rfl, .inl (SqL.of e1), _, rfl, by omega, by omega, ?_⟩
 have e0 : ((us.length : Nat) : Int).toNat = us.length := by omega
 rw [e0]
 refine comp_range (fun D i ys H' => Paired (PairIn H') (((bs.map (·.1)).zip (intsV vals)).take i) ys ∧ ∀ b o, H b = some o → H' b = some o) (fun D hD => ⟨.nil, qV hD _⟩)
  (fun D i ys H' N hD hDy hi hP hN => ?_) (fun D ys H2 hD hDy hP => ?_)
 ·obtain ⟨hp, hk⟩ := hP
  obtain ⟨b, eb⟩ : ∃ b, bs[i]? = some b := ⟨_, List.getElem?_eq_getElem (by omega)⟩
  obtain ⟨u, eu⟩ : ∃ u, us[i]? = some u := ⟨_, List.getElem?_eq_getElem hi⟩
  obtain ⟨v, ev⟩ : ∃ v, vals[i]? = some v := ⟨_, List.getElem?_eq_getElem (by omega)⟩
  obtain ⟨ba, rfl, hba⟩ := xV p1 eb eu
  have lp := hp.length
  rw [List.length_take, List.length_zip, List.length_map, intsV_len] at lp
  refine ⟨⟨[some (.int (0 + (i : Int)))], rfl, rfl⟩, ?_⟩
  have at1 : atI us (0 + (i : Int)) = some (.ref ba) := by rw [Int.zero_add]; exact atI_nat eu
  have at2 : atI (intsV vals) (0 + (i : Int)) = some (.int v) := by rw [Int.zero_add]; exact at_int ev
  refine ⟨_, rfl, _, rfl, bx, us, _, .ref ba, rfl, rfl, SqL.of (hk _ _ e1), at1, ba, _, 0, .str b.1, rfl, rfl, SqT.of (hk _ _ hba), rfl, _, rfl, _, rfl, st, _, _, .int v, rfl, rfl, SqT.of (hk _ _ W.stand), at2, (by show 2 ≤ sizeLine; decide), fun t ht => ?_⟩
  have Dt : D ≠ t := qB hDy ht
  refine ⟨by rw [qA Dt]; exact hDy, by exact small (by omega), hN _ _ qW ⟨?_, fun b o e => ?_⟩⟩
  ·have T1 : Tups H' (upd (upd H' t (.tup [.str b.1, .int v])) D (.lst (ys ++ [.ref t]))) := fun b xs e => by rw [qA (ne_of e hDy (by intro z; cases z)), qA (qB e ht)]; exact e
   have ez : ((bs.map (·.1)).zip (intsV vals))[i]? = some (b.1, .int v) := List.getElem?_zip_eq_some.mpr ⟨by rw [List.getElem?_map, eb]; rfl, by rw [List.getElem?_map, ev]; rfl⟩
   rw [List.take_add_one, ez]
   exact Paired.snoc (pairs_mono T1 hp) ⟨t, rfl, by rw [qA (Ne.symm Dt)]; exact qW⟩
  ·rw [qA (qB e hD), qA (qB (hk _ _ e) ht)]; exact hk _ _ e
 obtain ⟨hp, hk⟩ := hP
 have lz : ((bs.map (·.1)).zip (intsV vals)).length = us.length := by rw [List.length_zip, List.length_map, intsV_len]; omega
 rw [← lz, List.take_length] at hp
 refine ⟨D, ys, _, rfl, hDy, hp, by omega, fun p hp' => ?_⟩
 exact q p _ ((show Same H H2 from hk).trans (qV hp' _)) qW

theorem sc_law_worth : FnScope ["part", "values", "total", "pile", "one", "sign"] ["part", "values"] (xB (top 48)) := ⟨rfl, rfl, rfl, by decide +kernel, rfl, by decide +kernel, by decide +kernel⟩
noncomputable def spLWorth : Sp := fun vs H Q _ => ∃ (t : Th) (v : V) (d : Addr) (kvs : List (Key × V)) (ws : List Str) (ρ : Str → Int), vs = [v, .ref d] ∧ t.At H v ∧ Expr' ws t ∧ t.dep ≤ 12 ∧ H d = some (.dK kvs) ∧ Env' kvs ws ρ ∧ ∀ H', Same H H' → Q (.int (t.worth ρ)) H'
noncomputable def Sig (H : Hp) (ws : List Str) (p : Th × Int) (u : V) : Prop := ∃ a v, u = .ref a ∧ H a = some (.tup [v, .int p.2]) ∧ p.1.At H v ∧ Expr' ws p.1 ∧ (p.2 = 1 ∨ p.2 = -1)
theorem sig_mono {H H' : Hp} {ws : List Str} (h : Tups H H') {ps : List (Th × Int)} {us : List V} (p : Paired (Sig H ws) ps us) : Paired (Sig H' ws) ps us := Paired.mapP p fun _ _ x => let ⟨a, v, e, q, r, s⟩ := x; ⟨a, v, e, h _ _ q, r.mono h, s⟩
noncomputable def sumAll (ρ : Str → Int) (ps : List (Th × Int)) : Int := (ps.map fun p => p.2 * p.1.worth ρ).sum
noncomputable def cntS (ps : List (Th × Int)) : Nat := (ps.map fun p => p.1.cnt).sum
theorem sumAll_snoc (ρ : Str → Int) (ps : List (Th × Int)) (p : Th × Int) : sumAll ρ (ps ++ [p]) = sumAll ρ ps + p.2 * p.1.worth ρ := by simp [sumAll]
theorem cntS_snoc (ps : List (Th × Int)) (p : Th × Int) : cntS (ps ++ [p]) = cntS ps + p.1.cnt := by simp [cntS]
theorem len_cntS : ∀ ps : List (Th × Int), ps.length ≤ cntS ps
 | [] => Nat.le_refl _
 | p :: r => by
  have := len_cntS r
  have := p.1.cnt_pos
  show r.length + 1 ≤ p.1.cnt + cntS r
  omega
theorem sig_last {F : Th × Int → V → Prop} {ts : List (Th × Int)} {us : List V} (p : Paired F ts us) (h : us ≠ []) : ∃ ts' t us' u, ts = ts' ++ [t] ∧ us = us' ++ [u] ∧ Paired F ts' us' ∧ F t u := by
 induction p with
 | nil => exact absurd rfl h
 | @cons a b l₁ l₂ f p ih =>
  cases l₂ with
  | nil =>
   cases p
   exact ⟨[], a, [], b, rfl, rfl, .nil, f⟩
  | cons c l₂ =>
   obtain ⟨ts', t, us', u, e1, e2, p', f'⟩ := ih (by simp)
   exact ⟨a :: ts', t, b :: us', u, by rw [e1]; rfl, by rw [e2]; rfl, .cons f p', f'⟩
theorem sg_small {g : Int} (h : g = 1 ∨ g = -1) : g.natAbs < 2 ^ 1000 := by rcases h with rfl | rfl <;> decide +kernel
noncomputable abbrev PileI (v0 : V) (d p : Addr) (ws : List Str) (ρ : Str → Int) (t0 : Th) (H : Hp) (m : Nat) (σ' : St) (H' : Hp) : Prop := ∃ (tt : Int) (ps : List (Th × Int)) (us : List V) (z1 z2 : Option V), σ' = [some v0, some (.ref d), some (.int tt), some (.ref p), z1, z2] ∧ m = cntS ps ∧ (∀ b o, b ≠ p → H b = some o → H' b = some o) ∧ H' p = some (.lst us) ∧
   Paired (Sig H' ws) ps us ∧ tt + sumAll ρ ps = t0.worth ρ ∧ cntS ps ≤ t0.cnt
theorem ok_lworth {f : Addr} {fd : FuncData} (F : Fun K "_law_worth" "_law_worth" (top 48) f fd) (B : Bl mg) : FnOk P w K mg base CX0 1 f fd ["part", "values"] spLWorth := by
 refine F.ok sc_law_worth (fun vs H Q E h => ?_) (fun cdv A outer s H vs Q E hr h => ?_)
 ·obtain ⟨_, _, _, _, _, _, rfl, _⟩ := h
  rfl
 obtain ⟨t0, v0, d, kvs, ws, ρ, rfl, at0, ex0, h12, hd, env, q⟩ := h
 have hu := hu_of hr
 have cs := t0.cnt_small h12
 refine ⟨_, (qZ (qN (i := 2) sc_law_worth.nd rfl (by wtm_at "zo") qF)
  (qZ (qN (i := 3) sc_law_worth.nd rfl (by wtm_at "zo") (pe_lst (qQ (pe_tup (qQ (pv 0) (qQ qF qX))) qX)))
  (qZ (ps_while PassesOwn.never (qS (op_neEK (K := K) hr.units) (pv 3) (pe_lst qX) (xE _)) (qZ (qP (pe_bm0K (K := K) PySem.F.plainAttrs_list PySem.F.slot_list_pop PySem.F.type_list_pop mt_pop (pv 3)) (pg_tupK (K := K) (n := 2) rfl (qI (qH (i := 4) sc_law_worth.nd rfl (by wtm_at "zo")) (qI (qH (i := 5) sc_law_worth.nd rfl (by wtm_at "zo")) qM))))
  (qJ (ps_if (qS op_eq (pe_ix (qT (K := K)) (pv 4) qF (fun _ _ => rfl)) qG (xE _)) (qJ (qN (i := 2) sc_law_worth.nd rfl (by wtm_at "zo") (xX op_add (pv 2) (xX op_mulB (pv 5) (pe_ix (qT (K := K)) (pv 4) qF (fun _ _ => rfl)))))) (qJ (ps_if (qS op_eq (pe_ix (qT (K := K)) (pv 4) qF (fun _ _ => rfl)) qG (xE _)) (qJ (qN (i := 2) sc_law_worth.nd rfl (by wtm_at "zo") (xX op_add (pv 2) (xX op_mulB (pv 5) (pe_dget hu (pv 1) (pe_ix (qT (K := K)) (pv 4) qF (fun _ _ => rfl)) (fun _ _ => rfl)))))) (qZ (qR (pe_bmK (K := K) PySem.F.plainAttrs_list PySem.F.slot_list_append PySem.F.type_list_append mt_append (pv 3) (qQ (pe_tup (qQ (pe_ix (qT (K := K)) (pv 4) qF (fun _ _ => rfl)) (qQ (pv 5) qX))) qX)))
  (qJ (qR (pe_bmK (K := K) PySem.F.plainAttrs_list PySem.F.slot_list_append PySem.F.type_list_append mt_append (pv 3) (qQ (pe_tup (qQ (pe_ix (qT (K := K)) (pv 4) qF (fun _ _ => rfl)) (qQ (pe_ix (qU (K := K)) (pe_lst (qQ (pe_un un_neg (pv 5)) (qQ (pv 5) qX))) (xZ call_int1 rfl B.int' bt_int (qQ (pe_cmpR op_eq (pe_ix (qT (K := K)) (pv 4) qF (fun _ _ => rfl)) qG (xE _)) qX)) (fun _ _ => rfl)) qX))) qX)))))))))))
  (qJ (qO (pv 2)))))), ?_⟩
 refine ⟨_, rfl, (by show 2 ≤ sizeLine; decide), fun a1 ha1 => ?_⟩
 refine ⟨(by show 1 ≤ sizeLine; decide), fun p hp => ?_⟩
 have hpH : H p = none := (qV ha1 _).free hp
 have T0 : Tups H (upd (upd H a1 (.tup [v0, .int 1])) p (.lst [.ref a1])) := (qC (qV ha1 _)).trans (qC (qV hp _))
 refine ⟨fun m σ' H' => PileI v0 d p ws ρ t0 H m σ' H',
  ⟨_, 0, [(t0, 1)], [.ref a1], none, none, rfl, rfl, fun b o h1 e => by rw [qA h1, qA (qB e ha1)]; exact e, qW, .cons ⟨a1, v0, rfl, qV hp _ _ _ qW, at0.mono T0, ex0, .inl rfl⟩ .nil, by simp [sumAll], by simp [cntS]⟩, ?_⟩
 rintro m σ' H' ⟨tt, ps, us, z1, z2, rfl, rfl, hk, hpu, hpile, hsum, hcnt⟩
 refine ⟨_, rfl, (by show 0 ≤ sizeLine; decide), fun e0 he0 => ?_⟩
 have n2 : p ≠ e0 := qB hpu he0
 have hpu1 : upd H' e0 (.lst []) p = some (.lst us) := by rw [qA n2]; exact hpu
 have hk1 : ∀ b o, b ≠ p → H b = some o → upd H' e0 (.lst []) b = some o := fun b o h1 e => by rw [qA (qB (hk b o h1 e) he0)]; exact hk b o h1 e
 have hpile1 := sig_mono (qC (qV he0 (.lst []))) hpile
 have he1 : upd H' e0 (.lst []) e0 = some (.lst []) := qW
 generalize upd H' e0 (.lst []) = H1 at hpu1 hk1 hpile1 he1
 refine ⟨p, e0, us, rfl, rfl, SqL.of hpu1, SqL.of he1, _, rfl, ?_⟩
 cases hus : us with
 | nil =>
  subst hus
  cases hpile1
  refine iteF ?_
  have : tt = t0.worth ρ := by simpa [sumAll] using hsum
  subst this
  exact ⟨_, rfl, q H1 fun b o e => hk1 b o (qB e hpH) e⟩
 | cons u0 ur =>
  obtain ⟨ps', ⟨t, g⟩, us', u, rfl, eu, hp', ⟨a, v, rfl, ha, ata, exa, hg⟩⟩ := sig_last hpile1 (by rw [hus]; simp)
  rw [hus] at eu
  refine iteT ?_
  have ha : H1 a = some (.tup [v, .int g]) := ha
  have ata : t.At H1 v := ata
  have exa : Expr' ws t := exa
  have hg : g = 1 ∨ g = -1 := hg
  rw [cntS_snoc] at hcnt
  rw [sumAll_snoc] at hsum
  have hsum : tt + (sumAll ρ ps' + g * t.worth ρ) = t0.worth ρ := hsum
  have hcnt : cntS ps' + t.cnt ≤ t0.cnt := hcnt
  have lp := hp'.length
  have lc := len_cntS ps'
  have tc := t.cnt_pos
  have gs := sg_small hg
  obtain ⟨N, hN, hN'⟩ : ∃ N : St → Hp → Prop, (∀ σ' H', N σ' H' → ∃ m', m' < cntS (ps' ++ [(t, g)]) ∧ PileI v0 d p ws ρ t0 H m' σ' H') ∧ ∀ σ' H', (∃ m', m' < cntS ps' + t.cnt ∧ PileI v0 d p ws ρ t0 H m' σ' H') → N σ' H' := ⟨_, fun _ _ h => h, fun _ _ h => by rw [cntS_snoc]; exact h⟩
  refine ⟨N, hN, ?_⟩
  have hpu2 : H1 p = some (.lst (us' ++ [.ref a])) := by rw [hpu1, hus, eu]
  have T1 : Tups H1 (upd H1 p (.lst us')) := fun b xs e => by rw [qA (ne_of e hpu2 (by intro z; cases z))]; exact e
  refine ⟨_, rfl, .inl ⟨rfl, _, SqL.of hpu2⟩, p, _, .ref a, rfl, rfl, hpu2, by simp, ?_⟩
  rw [List.dropLast_concat]
  have ha2 := T1 _ _ ha
  have hpu3 : upd H1 p (.lst us') p = some (.lst us') := qW
  have hk2 : ∀ b o, b ≠ p → H b = some o → upd H1 p (.lst us') b = some o := fun b o h1 e => by rw [qA h1]; exact hk1 b o h1 e
  have hp2 := sig_mono T1 hp'
  have ata2 := ata.mono T1
  generalize upd H1 p (.lst us') = H2 at ha2 hpu3 hk2 hp2 ata2
  refine ⟨a, _, rfl, SqT.of ha2, rfl, _, _, rfl, _, _, rfl, rfl, ?_⟩
  have pd : d ≠ p := qB hd hpH
  cases t with
  | nul _ => exact False.elim exa
  | un _ _ => exact False.elim exa
  | num n =>
   obtain ⟨b, ev, eb⟩ := ata2
   obtain ⟨hn0, hn1⟩ := exa
   subst ev
   refine ⟨_, rfl, b, _, 0, .str "number", rfl, rfl, SqT.of eb, rfl, rfl, _, rfl, ?_⟩
   rw [dec_str_eq]
   refine iteT ?_
   refine ⟨_, rfl, _, rfl, _, rfl, b, _, 1, .int n, rfl, rfl, SqT.of eb, rfl, g, n, rfl, rfl, ⟨gs, big _ hn0 (Int.lt_trans hn1 (by decide +kernel))⟩, _, _, rfl, rfl, ?_⟩
   refine hN' _ _ ⟨_, ?_, tt + g * n, ps', us', _, _, rfl, rfl, hk2, hpu3, hp2, ?_, ?_⟩
   ·have : (Th.num n).cnt = 1 := rfl
    show cntS ps' < cntS ps' + 1
    omega
   ·have : (Th.num n).worth ρ = n := rfl
    rw [this] at hsum
    omega
   ·omega
  | box x =>
   obtain ⟨b, ev, eb⟩ := ata2
   subst ev
   have ex : x ∈ ws := exa
   refine ⟨_, rfl, b, _, 0, .str "box", rfl, rfl, SqT.of eb, rfl, rfl, _, rfl, ?_⟩
   rw [xW (Ne.symm ne_nb)]
   refine iteF ?_
   refine ⟨_, rfl, b, _, 0, .str "box", rfl, rfl, SqT.of eb, rfl, rfl, _, rfl, ?_⟩
   rw [dec_str_eq]
   refine iteT ?_
   obtain ⟨ev, h0, h1⟩ := env x ex
   refine ⟨_, rfl, _, rfl, _, rfl, _, rfl, b, _, 1, .str x, rfl, rfl, SqT.of eb, rfl, d, .int (ρ x), rfl, ?_, g, ρ x, rfl, rfl, ⟨gs, big _ h0 (Int.lt_trans h1 (by decide +kernel))⟩, _, _, rfl, rfl, ?_⟩
   ·rw [← ev]
    exact DGet.k (k := Sum.inr x) (hk2 _ _ pd hd)
   refine hN' _ _ ⟨_, ?_, tt + g * ρ x, ps', us', _, _, rfl, rfl, hk2, hpu3, hp2, ?_, ?_⟩
   ·show cntS ps' < cntS ps' + 1
    omega
   ·have : (Th.box x).worth ρ = ρ x := rfl
    rw [this] at hsum
    omega
   ·omega
  | bin k t1 t2 =>
   obtain ⟨b, u1, u2, ev, eb, b1, b2⟩ := ata2
   obtain ⟨hk', x1, x2⟩ := exa
   subst ev
   have k1 : k ≠ "number" := by rcases hk' with rfl | rfl; exact op_plus.2; exact op_less.2
   have k2 : k ≠ "box" := by rcases hk' with rfl | rfl; exact op_plus.1; exact op_less.1
   have hcnt : cntS ps' + (t1.cnt + t2.cnt + 1) ≤ t0.cnt := hcnt
   refine ⟨_, rfl, b, _, 0, .str k, rfl, rfl, SqT.of eb, rfl, rfl, _, rfl, ?_⟩
   rw [xW k1]
   refine iteF ?_
   refine ⟨_, rfl, b, _, 0, .str k, rfl, rfl, SqT.of eb, rfl, rfl, _, rfl, ?_⟩
   rw [xW k2]
   refine iteF ?_
   refine ⟨_, rfl, .inl ⟨rfl, _, SqL.of hpu3⟩, _, rfl, b, _, 1, u1, rfl, rfl, SqT.of eb, rfl, _, rfl, (by show 2 ≤ sizeLine; decide), fun c1 hc1 => ?_⟩
   have pc1 : p ≠ c1 := qB hpu3 hc1
   refine ⟨p, us', .ref c1, rfl, rfl, by rw [qA pc1]; exact hpu3, by rw [← lp]; exact small (by omega), ?_⟩
   have T3 : Tups H2 (upd (upd H2 c1 (.tup [u1, .int g])) p (.lst (us' ++ [.ref c1]))) := fun b xs e => by rw [qA (ne_of e hpu3 (by intro z; cases z)), qA (qB e hc1)]; exact e
   have ec1 : upd (upd H2 c1 (.tup [u1, .int g])) p (.lst (us' ++ [.ref c1])) c1 = some (.tup [u1, .int g]) := by rw [qA (Ne.symm pc1)]; exact qW
   have hpu4 : upd (upd H2 c1 (.tup [u1, .int g])) p (.lst (us' ++ [.ref c1])) p = some (.lst (us' ++ [.ref c1])) := qW
   have hk3 : ∀ b o, b ≠ p → H b = some o → upd (upd H2 c1 (.tup [u1, .int g])) p (.lst (us' ++ [.ref c1])) b = some o := fun b o h1 e => by rw [qA h1, qA (qB (hk2 b o h1 e) hc1)]; exact hk2 b o h1 e
   have hp3 : Paired (Sig (upd (upd H2 c1 (.tup [u1, .int g])) p (.lst (us' ++ [.ref c1]))) ws) (ps' ++ [(t1, g)]) (us' ++ [.ref c1]) := Paired.snoc (sig_mono T3 hp2) ⟨c1, u1, rfl, ec1, b1.mono T3, x1, hg⟩
   have eb3 := T3 _ _ eb
   have b23 := b2.mono T3
   generalize upd (upd H2 c1 (.tup [u1, .int g])) p (.lst (us' ++ [.ref c1])) = H3 at hpu4 hk3 hp3 eb3 b23
   obtain ⟨g2, hg2, eg2, wg2⟩ : ∃ g2 : Int, (g2 = 1 ∨ g2 = -1) ∧ atI [V.int (-g), V.int g] (if decide (V.str k = V.str "plus") = true then 1 else 0) = some (.int g2) ∧ g * (Th.bin k t1 t2).worth ρ = g * t1.worth ρ + g2 * t2.worth ρ := by
    rcases hk' with rfl | rfl
    ·refine ⟨g, hg, by rw [dec_str_eq, if_pos rfl]; rfl, ?_⟩
     show g * (if ("plus" : Str) = "plus" then t1.worth ρ + t2.worth ρ else t1.worth ρ - t2.worth ρ) = _
     rw [if_pos rfl, Int.mul_add]
    ·refine ⟨-g, by rcases hg with rfl | rfl; exact .inr rfl; exact .inl rfl, by rw [xW ne_pl, if_neg Bool.false_ne_true]; rfl, ?_⟩
     show g * (if ("less" : Str) = "plus" then t1.worth ρ + t2.worth ρ else t1.worth ρ - t2.worth ρ) = _
     rw [if_neg ne_pl, Int.mul_sub, Int.neg_mul]
     omega
   refine ⟨_, rfl, .inl ⟨rfl, _, SqL.of hpu4⟩, _, rfl, b, _, 2, u2, rfl, rfl, SqT.of eb3, rfl, _, rfl, _, rfl, _, rfl, (by show 2 ≤ sizeLine; decide), fun l hl => ?_⟩
   have eb4 : upd H3 l (.lst [.int (-g), .int g]) b = some (.tup [.str k, u1, u2]) := by rw [qA (qB eb3 hl)]; exact eb3
   refine ⟨_, rfl, b, _, 0, .str k, rfl, rfl, SqT.of eb4, rfl, rfl, .inr ⟨_, rfl, ?_⟩⟩
   have pl : p ≠ l := qB hpu4 hl
   refine ⟨l, _, _, .int g2, rfl, rfl, SqL.of qW, eg2, (by show 2 ≤ sizeLine; decide), fun c2 hc2 => ?_⟩
   have hpu5 : upd H3 l (.lst [.int (-g), .int g]) p = some (.lst (us' ++ [.ref c1])) := by rw [qA pl]; exact hpu4
   have pc2 : p ≠ c2 := qB hpu5 hc2
   refine ⟨p, _, .ref c2, rfl, rfl, by rw [qA pc2]; exact hpu5, ?_, ?_⟩
   ·rw [List.length_append, List.length_singleton, ← lp]; exact small (by omega)
   have T4 : Tups H3 (upd (upd (upd H3 l (.lst [.int (-g), .int g])) c2 (.tup [u2, .int g2])) p (.lst (us' ++ [.ref c1] ++ [.ref c2]))) := fun b xs e => by
    rw [qA (ne_of e hpu4 (by intro z; cases z)), qA (qB (qV hl _ _ _ e) hc2), qA (qB e hl)]; exact e
   refine hN' _ _ ⟨_, ?_, tt, ps' ++ [(t1, g)] ++ [(t2, g2)], us' ++ [.ref c1] ++ [.ref c2], _, _, rfl, rfl, fun b o h1 e => ?_, qW, Paired.snoc (sig_mono T4 hp3) ⟨c2, u2, rfl, by rw [qA (Ne.symm pc2)]; exact qW, b23.mono T4, x2, hg2⟩, ?_, ?_⟩
   ·rw [cntS_snoc, cntS_snoc]
    show cntS ps' + t1.cnt + t2.cnt < cntS ps' + (t1.cnt + t2.cnt + 1)
    omega
   ·rw [qA h1, qA (qB (qV hl _ _ _ (hk3 b o h1 e)) hc2), qA (qB (hk3 b o h1 e) hl)]; exact hk3 b o h1 e
   ·rw [sumAll_snoc, sumAll_snoc]
    show tt + (sumAll ρ ps' + g * t1.worth ρ + g2 * t2.worth ρ) = t0.worth ρ
    omega
   ·rw [cntS_snoc, cntS_snoc]
    show cntS ps' + t1.cnt + t2.cnt ≤ t0.cnt
    omega

noncomputable def Th.truth (ρ : Str → Int) : Th → Bool
 | .num _ => false
 | .box _ => false
 | .nul _ => true
 | .un _ a => !a.truth ρ
 | .bin k a b => if k = "both" then a.truth ρ && b.truth ρ else if k = "same" then decide (a.worth ρ = b.worth ρ) else decide (a.worth ρ < b.worth ρ)
theorem truth_both {ρ : Str → Int} {a b : Th} : (Th.bin "both" a b).truth ρ = (a.truth ρ && b.truth ρ) := by
 show (if ("both" : Str) = "both" then _ else _) = _
 rw [if_pos rfl]
theorem ne_sb : ("same" : Str) ≠ "both" := by decide +kernel
theorem ne_ub : ("under" : Str) ≠ "both" := by decide +kernel
theorem ne_us : ("under" : Str) ≠ "same" := by decide +kernel
theorem truth_same {ρ : Str → Int} {a b : Th} : (Th.bin "same" a b).truth ρ = decide (a.worth ρ = b.worth ρ) := by
 show (if ("same" : Str) = "both" then _ else if ("same" : Str) = "same" then _ else _) = _
 rw [if_neg ne_sb, if_pos rfl]
theorem truth_under {ρ : Str → Int} {a b : Th} : (Th.bin "under" a b).truth ρ = decide (a.worth ρ < b.worth ρ) := by
 show (if ("under" : Str) = "both" then _ else if ("under" : Str) = "same" then _ else _) = _
 rw [if_neg ne_ub, if_neg ne_us]

theorem sc_holds_by : FnScope ["condition", "values", "kind", "one", "other"] ["condition", "values"] (xB (top 17)) := ⟨rfl, rfl, rfl, by decide +kernel, rfl, by decide +kernel, by decide +kernel⟩
noncomputable def spHoldsBy (n : Nat) : Sp := fun vs H Q _ => ∃ (t : Th) (v : V) (d : Addr) (kvs : List (Key × V)) (ws : List Str) (ρ : Str → Int), vs = [v, .ref d] ∧ t.At H v ∧ Cond' ws t ∧ t.dep ≤ n ∧ t.dep ≤ 12 ∧ H d = some (.dK kvs) ∧ Env' kvs ws ρ ∧ Q (.bl (t.truth ρ)) H
theorem dn_holds_by1 {n : Nat} (F : Fd K mg "holds_by" (top 17) ["condition", "values"]) (D_holds_by : Dn P w K mg base "holds_by" (n + 13) ["condition", "values"] (spHoldsBy n)) (D_worth_by : Dn P w K mg base "worth_by" 13 ["expression", "values"] (spWorthBy 12)) :
  Dn P w K mg base "holds_by" (n + 14) ["condition", "values"] (spHoldsBy (n + 1)) := by
 refine F.ok sc_holds_by (fun vs H Q E h => ?_) (fun f cdv A outer s H vs Q E hr h => ?_)
 ·obtain ⟨_, _, _, _, _, _, rfl, _⟩ := h
  rfl
 obtain ⟨t, v, d, kvs, ws, ρ, rfl, at', cx, hn, h12, hd, env, q⟩ := h
 refine ⟨_, (qZ (qN (i := 2) sc_holds_by.nd rfl (by wtm_at "zo") (pe_ix (qT (K := K)) (pv 0) qF (fun _ _ => rfl)))
  (qZ (ps_if (qS op_eq (pv 2) qG (xE _)) (qJ (qO pe_bl)) qY)
  (qZ (ps_if (qS op_eq (pv 2) qG (xE _)) (qJ (qO (pe_not (qD D_holds_by hr (qQ (pe_ix (qT (K := K)) (pv 0) qF (fun _ _ => rfl)) (qQ (pv 1) qX)))))) qY)
  (qZ (ps_if (qS op_eq (pv 2) qG (xE _)) (qJ (qO (pe_and (qD D_holds_by hr (qQ (pe_ix (qT (K := K)) (pv 0) qF (fun _ _ => rfl)) (qQ (pv 1) qX))) (pe_one (qD D_holds_by hr (qQ (pe_ix (qT (K := K)) (pv 0) qF (fun _ _ => rfl)) (qQ (pv 1) qX))))))) qY)
  (qZ (qN (i := 3) sc_holds_by.nd rfl (by wtm_at "zo") (qD D_worth_by hr (qQ (pe_ix (qT (K := K)) (pv 0) qF (fun _ _ => rfl)) (qQ (pv 1) qX))))
  (qZ (qN (i := 4) sc_holds_by.nd rfl (by wtm_at "zo") (qD D_worth_by hr (qQ (pe_ix (qT (K := K)) (pv 0) qF (fun _ _ => rfl)) (qQ (pv 1) qX))))
  (qJ (qO (pe_ifExp (qS op_eq (pv 2) qG (xE _)) (pe_cmpR op_eq (pv 3) (pv 4) (xE _)) (pe_cmpR op_lt (pv 3) (pv 4) (xE _))))))))))), ?_⟩
 match t, at', cx, hn, h12, q with
 | .nul k, ⟨a, ev, ea⟩, cx, hn, h12, q =>
  cases (show k = "yes" from cx)
  subst ev
  wtm_at "zw"
  exact q
 | .un k t1, ⟨a, u, ev, ea, a1⟩, ⟨hk, c1⟩, hn, h12, q =>
  cases hk
  subst ev
  have hn' : t1.dep + 1 ≤ n + 1 := hn
  have h12' : t1.dep + 1 ≤ 12 := h12
  wtm_at "zw"
  refine ⟨t1, u, d, kvs, ws, ρ, rfl, a1, c1, by omega, by omega, hd, env, ?_⟩
  wtm_at "zw"
  exact q
 | .bin k t1 t2, ⟨a, u1, u2, ev, ea, a1, a2⟩, cx, hn, h12, q =>
  subst ev
  have hn' : max t1.dep t2.dep + 1 ≤ n + 1 := hn
  have h12' : max t1.dep t2.dep + 1 ≤ 12 := h12
  rcases cx with ⟨hk, x1, x2⟩ | ⟨hk, c1, c2⟩
  ·have n1 : k ≠ "yes" := by rcases hk with rfl | rfl <;> decide +kernel
   have n2 : k ≠ "not" := by rcases hk with rfl | rfl <;> decide +kernel
   have n3 : k ≠ "both" := by rcases hk with rfl | rfl <;> decide +kernel
   wtm_at "zw"
   refine ⟨t1, u1, d, kvs, ws, ρ, rfl, a1, x1, by omega, hd, env, ?_⟩
   wtm_at "zw"
   refine ⟨t2, u2, d, kvs, ws, ρ, rfl, a2, x2, by omega, hd, env, ?_⟩
   rcases hk with rfl | rfl
   ·rw [truth_same] at q
    wtm_at "zw"
    have e : decide (V.int (t1.worth ρ) = V.int (t2.worth ρ)) = decide (t1.worth ρ = t2.worth ρ) := decide_eq_decide.mpr ⟨fun z => by injection z, fun z => by rw [z]⟩
    rw [e]
    exact q
   ·rw [truth_under] at q
    wtm_at "zw"
    exact q
  ·cases hk
   rw [truth_both] at q
   wtm_at "zw"
   refine ⟨t1, u1, d, kvs, ws, ρ, rfl, a1, c1, by omega, by omega, hd, env, ?_⟩
   wtm_at "zw"
   cases e1 : t1.truth ρ with
   | false =>
    rw [e1, Bool.false_and] at q
    refine iteF ?_
    exact q
   | true =>
    rw [e1, Bool.true_and] at q
    refine iteT ?_
    wtm_at "zw"
    exact ⟨t2, u2, d, kvs, ws, ρ, rfl, a2, c2, by omega, by omega, hd, env, q⟩
theorem dn_holds_by (F : Fd K mg "holds_by" (top 17) ["condition", "values"]) (D_worth_by : Dn P w K mg base "worth_by" 13 ["expression", "values"] (spWorthBy 12)) : ∀ n : Nat, Dn P w K mg base "holds_by" (n + 13) ["condition", "values"] (spHoldsBy n)
 | 0 => F.never fun vs H Q E h => by
  obtain ⟨t, _, _, _, _, _, _, _, _, h1, _⟩ := h
  have := t.dep_pos
  omega
 | n + 1 => dn_holds_by1 F (dn_holds_by F D_worth_by n) D_worth_by

theorem sc_holds : FnScope ["condition", "boxes", "standing"] ["condition", "boxes", "standing"] (xB (top 13)) := ⟨rfl, rfl, rfl, by decide +kernel, rfl, by decide +kernel, by decide +kernel⟩
noncomputable def spHolds : Sp := fun vs H Q _ => ∃ (t : Th) (v : V) (bx st : Addr) (bs : List (Str × Int)) (vals : List Int), vs = [v, .ref bx, .ref st] ∧ t.At H v ∧ Cond' (bs.map (·.1)) t ∧ t.dep ≤ 12 ∧ World' H bx st bs vals ∧
 ∀ H', Same H H' → Q (.bl (t.truth (envOf (kvsOf bs vals)))) H'
theorem dn_holds (F : Fd K mg "holds" (top 13) ["condition", "boxes", "standing"]) (D_holds_by : Dn P w K mg base "holds_by" 25 ["condition", "values"] (spHoldsBy 12)) (D_values_by_name : Dn P w K mg base "values_by_name" 1 ["boxes", "standing"] spValues) :
  Dn P w K mg base "holds" 26 ["condition", "boxes", "standing"] spHolds := by
 refine F.ok sc_holds (fun vs H Q E h => ?_) (fun f cdv A outer s H vs Q E hr h => ?_)
 ·obtain ⟨_, _, _, _, _, _, rfl, _⟩ := h
  rfl
 obtain ⟨t, v, bx, st, bs, vals, rfl, at', cx, dp, W, q⟩ := h
 refine ⟨_, (qJ (qO (qD D_holds_by hr (qQ (pv 0) (qQ (qD D_values_by_name hr (qQ (pv 1) (qQ (pv 2) qX))) qX))))), ?_⟩
 wtm_at "zw"
 refine ⟨bx, st, bs, vals, rfl, W, fun p H' S e => ?_⟩
 wtm_at "zw"
 exact ⟨t, v, p, _, _, _, rfl, at'.mono (qC S), cx, dp, dp, e, env_of W.ok, q H' S⟩

theorem sc_law_holds : FnScope ["cond", "values", "apart"] ["cond", "values"] (xB (top 49)) := ⟨rfl, rfl, rfl, by decide +kernel, rfl, by decide +kernel, by decide +kernel⟩
noncomputable def spLHolds (n : Nat) : Sp := fun vs H Q _ => ∃ (t : Th) (v : V) (d : Addr) (kvs : List (Key × V)) (ws : List Str) (ρ : Str → Int), vs = [v, .ref d] ∧ t.At H v ∧ Cond' ws t ∧ t.dep ≤ n ∧ t.dep ≤ 12 ∧ H d = some (.dK kvs) ∧ Env' kvs ws ρ ∧ ∀ H', Same H H' → Q (.bl (t.truth ρ)) H'
theorem eqAll2 (a b : Bool) : eqAll [V.bl a, V.bl b] [V.bl true, V.bl true] = (a && b) := by cases a <;> cases b <;> rfl
theorem dn_lholds1 {n : Nat} (F : Fd K mg "_law_holds" (top 49) ["cond", "values"]) (B : Bl mg) (D_law_holds : Dn P w K mg base "_law_holds" (n + 1) ["cond", "values"] (spLHolds n)) (D_law_worth : Dn P w K mg base "_law_worth" 1 ["part", "values"] spLWorth) :
  Dn P w K mg base "_law_holds" (n + 2) ["cond", "values"] (spLHolds (n + 1)) := by
 refine F.ok sc_law_holds (fun vs H Q E h => ?_) (fun f cdv A outer s H vs Q E hr h => ?_)
 ·obtain ⟨_, _, _, _, _, _, rfl, _⟩ := h
  rfl
 obtain ⟨t, v, d, kvs, ws, ρ, rfl, at', cx, hn, h12, hd, env, q⟩ := h
 refine ⟨_, (qZ (ps_if (qS op_eq (pe_ix (qT (K := K)) (pv 0) qF (fun _ _ => rfl)) qG (xE _)) (qJ (qO pe_bl)) qY)
  (qZ (ps_if (qS op_eq (pe_ix (qT (K := K)) (pv 0) qF (fun _ _ => rfl)) qG (xE _)) (qJ (qO (pe_not (qD D_law_holds hr (qQ (pe_ix (qT (K := K)) (pv 0) qF (fun _ _ => rfl)) (qQ (pv 1) qX)))))) qY)
  (qZ (ps_if (qS op_eq (pe_ix (qT (K := K)) (pv 0) qF (fun _ _ => rfl)) qG (xE _)) (qJ (qO (pe_cmpR (op_eqFK (K := K) hr.units) (pe_lst (qQ (qD D_law_holds hr (qQ (pe_ix (qT (K := K)) (pv 0) qF (fun _ _ => rfl)) (qQ (pv 1) qX))) (qQ (qD D_law_holds hr (qQ (pe_ix (qT (K := K)) (pv 0) qF (fun _ _ => rfl)) (qQ (pv 1) qX))) qX))) (pe_lst (qQ pe_bl (qQ pe_bl qX))) (xE _)))) qY)
  (qZ (qN (i := 2) sc_law_holds.nd rfl (by wtm_at "zo") (xX op_sub (qD D_law_worth hr (qQ (pe_ix (qT (K := K)) (pv 0) qF (fun _ _ => rfl)) (qQ (pv 1) qX))) (qD D_law_worth hr (qQ (pe_ix (qT (K := K)) (pv 0) qF (fun _ _ => rfl)) (qQ (pv 1) qX)))))
  (qJ (qO (pe_ix (qU (K := K)) (pe_lst (qQ (pe_cmpR op_gt (pv 2) qF (xE _)) (qQ (pe_cmpR op_eq (pv 2) qF (xE _)) qX))) (xZ call_int1 rfl B.int' bt_int (qQ (pe_cmpR op_eq (pe_ix (qT (K := K)) (pv 0) qF (fun _ _ => rfl)) qG (xE _)) qX)) (fun _ _ => rfl)))))))), ?_⟩
 match t, at', cx, hn, h12, q with
 | .nul k, ⟨a, ev, ea⟩, cx, hn, h12, q =>
  cases (show k = "yes" from cx)
  subst ev
  wtm_at "zw"
  exact q H (Same.refl _)
 | .un k t1, ⟨a, u, ev, ea, a1⟩, ⟨hk, c1⟩, hn, h12, q =>
  cases hk
  subst ev
  have hn' : t1.dep + 1 ≤ n + 1 := hn
  have h12' : t1.dep + 1 ≤ 12 := h12
  wtm_at "zw"
  refine ⟨t1, u, d, kvs, ws, ρ, rfl, a1, c1, by omega, by omega, hd, env, fun H1 S1 => ?_⟩
  wtm_at "zw"
  exact q H1 S1
 | .bin k t1 t2, ⟨a, u1, u2, ev, ea, a1, a2⟩, cx, hn, h12, q =>
  subst ev
  have hn' : max t1.dep t2.dep + 1 ≤ n + 1 := hn
  have h12' : max t1.dep t2.dep + 1 ≤ 12 := h12
  rcases cx with ⟨hk, x1, x2⟩ | ⟨hk, c1, c2⟩
  ·have n1 : k ≠ "yes" := by rcases hk with rfl | rfl <;> decide +kernel
   have n2 : k ≠ "not" := by rcases hk with rfl | rfl <;> decide +kernel
   have n3 : k ≠ "both" := by rcases hk with rfl | rfl <;> decide +kernel
   wtm_at "zw"
   refine ⟨t2, u2, d, kvs, ws, ρ, rfl, a2, x2, by omega, hd, env, fun H1 S1 => ?_⟩
   wtm_at "zw"
   refine ⟨t1, u1, d, kvs, ws, ρ, rfl, a1.mono (qC S1), x1, by omega, S1 _ _ hd, env, fun H2 S2 => ?_⟩
   wtm_at "zw"
   refine ⟨(by show 2 ≤ sizeLine; decide), fun l hl => ?_⟩
   wtm_at "zw"
   refine .inr ⟨_, rfl, ?_⟩
   have S3 : Same H (upd H2 l (.lst [.bl (decide (0 < t2.worth ρ - t1.worth ρ)), .bl (decide (V.int (t2.worth ρ - t1.worth ρ) = V.int 0))])) := S1.trans (S2.trans (qV hl _))
   rcases hk with rfl | rfl
   ·rw [truth_same] at q
    rw [dec_str_eq]
    wtm_at "zw"
    have e : decide (V.int (t2.worth ρ - t1.worth ρ) = V.int 0) = decide (t1.worth ρ = t2.worth ρ) := decide_eq_decide.mpr ⟨fun z => by injection z with z; omega, fun z => by rw [z, Int.sub_self]⟩
    rw [← e] at q
    exact q _ S3
   ·rw [truth_under] at q
    rw [xW ne_us]
    wtm_at "zw"
    have e : decide (0 < t2.worth ρ - t1.worth ρ) = decide (t1.worth ρ < t2.worth ρ) := decide_eq_decide.mpr ⟨fun z => by omega, fun z => by omega⟩
    rw [← e] at q
    exact q _ S3
  ·cases hk
   rw [truth_both] at q
   wtm_at "zw"
   refine ⟨t1, u1, d, kvs, ws, ρ, rfl, a1, c1, by omega, by omega, hd, env, fun H1 S1 => ?_⟩
   wtm_at "zw"
   refine ⟨t2, u2, d, kvs, ws, ρ, rfl, a2.mono (qC S1), c2, by omega, by omega, S1 _ _ hd, env, fun H2 S2 => ?_⟩
   wtm_at "zw"
   refine ⟨(by show 2 ≤ sizeLine; decide), fun l hl => ?_⟩
   wtm_at "zw"
   refine ⟨(by show 2 ≤ sizeLine; decide), fun l2 hl2 => ?_⟩
   refine ⟨l, l2, _, _, rfl, rfl, SqL.of (qV hl2 _ _ _ qW), SqL.of qW, rfl, rfl, rfl, ?_⟩
   rw [if_neg Bool.false_ne_true, eqAll2]
   exact q _ (S1.trans (S2.trans ((qV hl _).trans (qV hl2 _))))
theorem dn_lholds (F : Fd K mg "_law_holds" (top 49) ["cond", "values"]) (B : Bl mg) (D_law_worth : Dn P w K mg base "_law_worth" 1 ["part", "values"] spLWorth) : ∀ n : Nat, Dn P w K mg base "_law_holds" (n + 1) ["cond", "values"] (spLHolds n)
 | 0 => F.never fun vs H Q E h => by
  obtain ⟨t, _, _, _, _, _, _, _, _, h1, _⟩ := h
  have := t.dep_pos
  omega
 | n + 1 => dn_lholds1 F B (dn_lholds F B D_law_worth n) D_law_worth

theorem sc_names_in : FnScope ["thing", "names", "part"] ["thing"] (xB (top 14)) := ⟨rfl, rfl, rfl, by decide +kernel, rfl, by decide +kernel, by decide +kernel⟩
noncomputable def spNames (n : Nat) : Sp := fun vs H Q _ => ∃ (t : Th) (v : V), vs = [v] ∧ t.At H v ∧ t.Ok ∧ t.dep ≤ n ∧ t.dep ≤ 12 ∧
 ∀ (r : Addr) (H' : Hp), H r = none → Same H H' → H' r = some (.lst (strsV t.names)) → Q (.ref r) H'
theorem ok_names0 {f : Addr} {fd : FuncData} : FnOk P w K mg base CX0 1 f fd ["thing"] (spNames 0) := by
 have no : ∀ vs H Q E, ¬ spNames 0 vs H Q E := fun vs H Q E h => by
  obtain ⟨t, v, _, _, _, h1, _⟩ := h
  have := t.dep_pos
  omega
 exact ⟨fun vs H Q E h => absurd h (no vs H Q E), fun A outer s H args us vs Q E _ _ _ _ h => absurd h (no vs H Q E)⟩
theorem ok_names1 {n : Nat} {f : Addr} {fd : FuncData} (F : Fun K "names_in" "names_in" (top 14) f fd) (G_names_in : FnOk P w K mg base CX0 (n + 1) f fd ["thing"] (spNames n)) (E_names_in : FunE K mg "names_in" f fd ["thing"]) :
  FnOk P w K mg base CX0 (n + 2) f fd ["thing"] (spNames (n + 1)) := by
 refine F.ok sc_names_in (fun vs H Q E h => ?_) (fun cdv A outer s H vs Q E hr h => ?_)
 ·obtain ⟨_, _, rfl, _⟩ := h
  rfl
 obtain ⟨t, v, rfl, at', ok, hn, h12, q⟩ := h
 refine ⟨_, (qZ (ps_if (qS op_eq (pe_ix (qT (K := K)) (pv 0) qF (fun _ _ => rfl)) qG (xE _)) (qJ (qO (pe_lst (qQ (pe_ix (qT (K := K)) (pv 0) qF (fun _ _ => rfl)) qX)))) qY)
  (qZ (qN (i := 1) sc_names_in.nd rfl (by wtm_at "zo") (pe_lst qX))
  (qZ (ps_if (qS op_ne (pe_ix (qT (K := K)) (pv 0) qF (fun _ _ => rfl)) qG (xE _)) (qJ (ps_for PassesOwn.never rfl (pi_tupK (K := K) (pe_slice (sl_tupK (K := K)) (pv 0) (po_some qF) po_none)) (qH (i := 2) sc_names_in.nd rfl (by wtm_at "zo")) (qJ (qR (pe_bmK (K := K) PySem.F.plainAttrs_list PySem.F.slot_list_extend PySem.F.type_list_extend mt_extend (pv 1) (qQ (pe_call G_names_in hr rfl E_names_in.mg E_names_in.kp E_names_in.bd .nil pass0 (qQ (pv 2) qX)) qX)))))) qY)
  (qJ (qO (pv 1)))))), ?_⟩
 cases view at' ok with
 | box a x et ev ea =>
  subst et ev
  refine ⟨_, rfl, a, _, 0, .str "box", rfl, rfl, SqT.of ea, rfl, rfl, _, rfl, ?_⟩
  rw [dec_str_eq]
  refine iteT ?_
  refine ⟨_, rfl, a, _, 1, .str x, rfl, rfl, SqT.of ea, rfl, (by show 1 ≤ sizeLine; decide), fun r hr' => ?_⟩
  exact q r _ hr' (qV hr' _) qW
 | num a x et ev ea =>
  subst et ev
  refine ⟨_, rfl, a, _, 0, .str "number", rfl, rfl, SqT.of ea, rfl, rfl, _, rfl, ?_⟩
  rw [xW ne_nb]
  refine iteF ?_
  refine ⟨(by show 0 ≤ sizeLine; decide), fun r hr' => ?_⟩
  have ea' : upd H r (.lst []) a = some (.tup [.str "number", .int x]) := by rw [qA (qB ea hr')]; exact ea
  refine ⟨_, rfl, a, _, 0, .str "number", rfl, rfl, SqT.of ea', rfl, rfl, _, rfl, ?_⟩
  rw [dec_str_eq]
  refine iteF ?_
  exact ⟨_, rfl, q r _ hr' (qV hr' _) qW⟩
 | op a k us ts ev ea hk hl hl2 kids en ec =>
  subst ev
  refine ⟨_, rfl, a, _, 0, .str k, rfl, rfl, SqT.of ea, at_head _ _, rfl, _, rfl, ?_⟩
  rw [xW hk.1]
  refine iteF ?_
  refine ⟨(by show 0 ≤ sizeLine; decide), fun r hr' => ?_⟩
  have ea' : upd H r (.lst []) a = some (.tup (.str k :: us)) := by rw [qA (qB ea hr')]; exact ea
  refine ⟨_, rfl, a, _, 0, .str k, rfl, rfl, SqT.of ea', at_head _ _, rfl, _, rfl, ?_⟩
  rw [xW hk.2]
  refine iteT ?_
  refine ⟨_, rfl, 1, rfl, a, _, rfl, SqT.of ea', notwhole _ _, fun p hp => ?_⟩
  rw [cut1]
  have pr : p ≠ r := fun z => by subst z; rw [qW] at hp; cases hp
  have S2 : But r H (upd (upd H r (.lst [])) p (.tup us)) := But.upd.trans (qV hp _).but
  have er2 : upd (upd H r (.lst [])) p (.tup us) r = some (.lst []) := by rw [qA (Ne.symm pr)]; exact qW
  have ep2 : upd (upd H r (.lst [])) p (.tup us) p = some (.tup us) := qW
  generalize upd (upd H r (.lst [])) p (.tup us) = H2 at S2 er2 ep2
  have cs := t.cnt_small h12
  have nl := t.names_le
  refine ⟨p, rfl, ⟨us, SqT.of ep2⟩, ?_⟩
  refine for_tup (xs := us) (fun i σ' H' => ∃ z : Option V, σ' = [some (.ref a), some (.ref r), z] ∧ But r H2 H' ∧ H' r = some (.lst (strsV ((ts.take i).flatMap Th.names))))
   ⟨none, rfl, But.refl _, er2⟩ (fun i σ' H' _ hP => ?_) (fun i x σ' H' ex hP => ?_) (fun σ' H' hP => ?_)
  ·obtain ⟨z, rfl, hb, _⟩ := hP
   exact SqT.of (hb _ _ pr ep2)
  ·obtain ⟨z, rfl, hb, hrr⟩ := hP
   obtain ⟨c, ecx⟩ : ∃ c, ts[i]? = some c := ⟨_, List.getElem?_eq_getElem (by rw [← hl]; exact (List.getElem?_eq_some_iff.mp ex).1)⟩
   obtain ⟨ka, ko, kd⟩ := kids i x c ex ecx
   have T2 : Tups H H' := fun b xs e => hb _ _ (qB e hr') (S2 _ _ (qB e hr') e)
   refine ⟨_, rfl, .inl ⟨rfl, _, SqL.of hrr⟩, _, rfl, c, x, rfl, ka.mono T2, ko, by omega, by omega, fun r2 H3 hr2 S3 e3 => ?_⟩
   have e3r := S3 _ _ hrr
   refine ⟨r, r2, _, _, rfl, rfl, e3r, e3, ?_, ?_⟩
   ·have z1 := take_flat ecx
    have z2 := take_len (ts := ts) (i + 1)
    rw [z1, ← en, List.length_append] at z2
    rw [xA, xA]
    exact smallE (by omega)
   ·refine ⟨_, rfl, hb.trans (S3.but.trans But.upd), ?_⟩
    rw [qW, take_flat ecx, strsV_app]
  ·obtain ⟨z, rfl, hb, hrr⟩ := hP
   refine ⟨_, rfl, q r H' hr' (fun b o e => hb _ _ (qB e hr') (S2 _ _ (qB e hr') e)) ?_⟩
   rw [hrr, hl, List.take_length, en]
theorem ok_names {f : Addr} {fd : FuncData} (F : Fun K "names_in" "names_in" (top 14) f fd) (E_names_in : FunE K mg "names_in" f fd ["thing"]) : ∀ n : Nat, FnOk P w K mg base CX0 (n + 1) f fd ["thing"] (spNames n)
 | 0 => ok_names0
 | n + 1 => ok_names1 F (ok_names F E_names_in n) E_names_in

theorem cut_ints (ns : List Int) (lo hi : Option Int) : ∀ x ∈ cutV (ns.map V.int) lo hi, ∃ c : Int, x = .int c := fun x hx => by
 obtain ⟨c, _, e⟩ := List.mem_map.mp (List.mem_of_mem_drop (List.mem_of_mem_take hx))
 exact ⟨c, e.symm⟩
theorem cells_read {σ : St} {H : Hp} {W : It → Hp → Prop} {j : Nat} {a : Addr} {ns : List Int} {lo hi : Int} (hj : σ[j]? = some (some (.ref a))) (hS : SqL K H a (ns.map V.int)) (h63 : ns.length ≤ 63)
  (q : ∀ (l : Addr) (xs : List V) (H' : Hp), Same H H' → H' l = some (.lst xs) → (∀ x ∈ xs, ∃ c : Int, x = .int c) → xs.length ≤ 64 → W (Itl K l) H') :
  iList K (tOp rCat (tLst (tCons (tC (.int 0)) tNil)) (tSl (rSlL K) (tVar j) (tPart (tC (.int lo))) (tPart (tC (.int hi))))) σ H W := by
 refine ⟨(by show 1 ≤ sizeLine; decide), fun l1 hl1 => ?_⟩
 refine ⟨_, hj, lo, rfl, hi, rfl, a, _, rfl, (qV hl1 _).seq hS, fun l2 hl2 => ?_⟩
 have n12 : l1 ≠ l2 := qB qW hl2
 have cl63 : (cutV (ns.map V.int) (some lo) (some hi)).length ≤ 63 := by
  have := cutV_length (ns.map V.int) (some lo) (some hi)
  rw [List.length_map] at this
  omega
 refine ⟨l1, l2, _, _, rfl, rfl, by rw [qA n12]; exact qW, qW, ?_, fun l3 hl3 => ?_⟩
 ·show 1 + _ ≤ sizeLine
  exact smallE (by omega)
 refine ⟨l3, rfl, ⟨_, SqL.of qW⟩, q l3 _ _ ((qV hl1 _).trans ((qV hl2 _).trans (qV hl3 _))) qW (fun x hx => ?_) ?_⟩
 ·rcases List.mem_append.mp hx with h | h
  ·exact ⟨0, List.mem_singleton.mp h⟩
  ·exact cut_ints ns _ _ x h
 ·rw [List.length_append, List.length_singleton]; omega
theorem words_read {σ : St} {H : Hp} {Q : VK} {bx : Addr} {us : List V} {bs : List (Str × Int)} (e1 : H bx = some (.lst us)) (p1 : Paired (BoxIn H) bs us) (hl : bs.length ≤ 1000)
  (q : ∀ (D : Addr) (H' : Hp), Same H H' → H' D = some (.lst (strsV (bs.map (·.1)))) → Q (.ref D) H') :
  rdC 1 [] (gName 0) tYes (tOp (rIxT K) (tVar 0) (tC (.int 0))) (Itl K bx) σ H Q := by
 have lb : us.length = bs.length := p1.length.symm
 refine comp_list (xs := us) (fun D i ys H' => ys = strsV ((bs.take i).map (·.1)) ∧ ∀ b o, H b = some o → H' b = some o) (fun D hD => ⟨rfl, qV hD _⟩)
  (fun D i ys H' _ hP => (show Same H H' from hP.2).seq (SqL.of e1)) (fun D i x ys H' N hD hDy ex hP hN => ?_) (fun wd ys H2 hD hDy hP => ?_)
 ·obtain ⟨rfl, hk⟩ := hP
  obtain ⟨b, eb⟩ : ∃ b, bs[i]? = some b := ⟨_, List.getElem?_eq_getElem (by rw [← lb]; exact (List.getElem?_eq_some_iff.mp ex).1)⟩
  obtain ⟨ba, rfl, hba⟩ := xV p1 eb ex
  refine ⟨⟨[some (.ref ba)], rfl, rfl⟩, ?_⟩
  refine ⟨_, rfl, ba, _, 0, .str b.1, rfl, rfl, SqT.of (hk _ _ hba), rfl, hDy, ?_, hN _ _ qW ⟨?_, fun b o e => ?_⟩⟩
  ·rw [xA, List.length_map, List.length_take]; exact small (by omega)
  ·rw [List.take_add_one, eb, List.map_append, strsV_app]; rfl
  ·rw [qA (qB e hD)]; exact hk _ _ e
 obtain ⟨rfl, hk2⟩ := hP
 rw [lb, List.take_length] at hDy
 exact q wd H2 hk2 hDy
theorem names_read {σ : St} {H : Hp} {Q : VK} {bx : Addr} {us : List V} {bs : List (Str × Int)} (e1 : H bx = some (.lst us)) (p1 : Paired (BoxIn H) bs us) (hl : bs.length ≤ 1000)
  (q : ∀ (D : Addr) (H' : Hp), Same H H' → H' D = some (.lst (strsV (bs.map (·.1)))) → Q (.ref D) H') :
  rdC 2 [] (gTup K 2 (gCons (gName 0) (gCons (gName 1) gNil))) tYes (tVar 0) (Itl K bx) σ H Q := by
 have lb : us.length = bs.length := p1.length.symm
 refine comp_list (xs := us) (fun D i ys H' => ys = strsV ((bs.take i).map (·.1)) ∧ ∀ b o, H b = some o → H' b = some o) (fun D hD => ⟨rfl, qV hD _⟩)
  (fun D i ys H' _ hP => (show Same H H' from hP.2).seq (SqL.of e1)) (fun D i x ys H' N hD hDy ex hP hN => ?_) (fun wd ys H2 hD hDy hP => ?_)
 ·obtain ⟨rfl, hk⟩ := hP
  obtain ⟨b, eb⟩ : ∃ b, bs[i]? = some b := ⟨_, List.getElem?_eq_getElem (by rw [← lb]; exact (List.getElem?_eq_some_iff.mp ex).1)⟩
  obtain ⟨ba, rfl, hba⟩ := xV p1 eb ex
  refine ⟨ba, _, rfl, SqT.of (hk _ _ hba), rfl, _, _, rfl, _, _, rfl, rfl, ⟨[some (.str b.1), some (.int b.2)], rfl, rfl⟩, ?_⟩
  refine ⟨_, rfl, hDy, ?_, hN _ _ qW ⟨?_, fun b o e => ?_⟩⟩
  ·rw [xA, List.length_map, List.length_take]; exact small (by omega)
  ·rw [List.take_add_one, eb, List.map_append, strsV_app]; rfl
  ·rw [qA (qB e hD)]; exact hk _ _ e
 obtain ⟨rfl, hk2⟩ := hP
 rw [lb, List.take_length] at hDy
 exact q wd H2 hk2 hDy
noncomputable def Fits (bs : List (Str × Int)) (vals : List Int) : Prop := vals.length = bs.length ∧ ∀ (i : Nat) b v, bs[i]? = some b → vals[i]? = some v → 0 ≤ v ∧ v < b.2
theorem draw_read {σ : St} {H : Hp} {Q : VK} {j : Nat} {bx dk : Addr} {d : Int} {us : List V} {bs : List (Str × Int)} (e1 : H bx = some (.lst us)) (p1 : Paired (BoxIn H) bs us) (hl : bs.length ≤ 1000) (h25 : ∀ b ∈ bs, 2 ≤ b.2 ∧ b.2 ≤ 5)
  (edk : H dk = some (.lst [.int d])) (nb : bx ≠ dk) (hj : σ.getD j none = some (.ref dk))
  (q : ∀ (D : Addr) (vals : List Int) (d' : Int) (H' : Hp), Fits bs vals → H D = none → But dk H H' → H' D = some (.lst (intsV vals)) → H' dk = some (.lst [.int d']) → Q (.ref D) H') :
  rdC 2 [j] (gTup K 2 (gCons (gName 0) (gCons (gName 1) gNil))) tYes (tCall spTake [] E0 (tCons (tVar 2) (tCons (tVar 1) tNil))) (Itl K bx) σ H Q := by
 have lb : us.length = bs.length := p1.length.symm
 have fr : frees [j] σ = [some (.ref dk)] := by show [σ.getD j none] = _; rw [hj]
 refine comp_list (xs := us) (fun D i ys H' => ∃ (vals : List Int) (d' : Int), ys = intsV vals ∧ vals.length = i ∧ (∀ (i : Nat) b v, bs[i]? = some b → vals[i]? = some v → 0 ≤ v ∧ v < b.2) ∧ H' dk = some (.lst [.int d']) ∧ But dk H H')
  (fun D hD => ⟨[], d, rfl, rfl, (fun i b v _ hv => by simp at hv), qV hD _ _ _ edk, (qV hD _).but⟩)
  (fun D i ys H' _ hP => ?_) (fun D i x ys H' N hD hDy ex hP hN => ?_) (fun D ys H7 hD hDy hP => ?_)
 ·obtain ⟨vals, d', _, _, _, _, hb⟩ := hP
  exact SqL.of (hb _ _ nb e1)
 ·obtain ⟨vals, d', rfl, hvl, hva, hdk', hb⟩ := hP
  obtain ⟨b, eb⟩ : ∃ b, bs[i]? = some b := ⟨_, List.getElem?_eq_getElem (by rw [← lb]; exact (List.getElem?_eq_some_iff.mp ex).1)⟩
  obtain ⟨ba, rfl, hba⟩ := xV p1 eb ex
  have hb25' := h25 b (List.mem_of_getElem? eb)
  have iu : i < us.length := (List.getElem?_eq_some_iff.mp ex).1
  refine ⟨ba, _, rfl, SqT.of (hb _ _ (ne_of hba edk (by intro z; cases z)) hba), rfl, _, _, rfl, _, _, rfl, rfl, ⟨[some (.str b.1), some (.int b.2)], rfl, rfl⟩, ?_⟩
  have Dd : dk ≠ D := qB edk hD
  refine ⟨_, (by show (([some (V.str b.1), some (.int b.2)] : St) ++ frees [j] σ)[2]? = _; rw [fr]; rfl), _, rfl, dk, b.2, d', rfl, hdk', by omega, big _ (by omega) (Int.lt_of_le_of_lt (b := 10) (by omega) (by decide +kernel)), fun x d'' hx0 hx1 => ?_⟩
  refine ⟨by rw [qA (Ne.symm Dd)]; exact hDy, by rw [intsV_len]; exact small (by omega), hN _ _ qW ⟨vals ++ [x], d'', by rw [intsV_snoc], by simp [hvl], fun i' b' v eb' hv => ?_, by rw [qA Dd]; exact qW, fun b o hb' e => ?_⟩⟩
  ·by_cases hi : i' < vals.length
   ·rw [List.getElem?_append_left hi] at hv
    exact hva i' b' v eb' hv
   ·rw [List.getElem?_append_right (by omega)] at hv
    have : i' - vals.length = 0 := by
     have := (List.getElem?_eq_some_iff.mp hv).1
     simp at this
     omega
    rw [this] at hv
    have hv : some x = some v := hv
    cases hv
    have : i' = i := by omega
    subst this
    rw [eb] at eb'
    cases eb'
    exact ⟨hx0, hx1⟩
  ·have nD : b ≠ D := qB e hD
   rw [qA nD, qA hb']; exact hb _ _ hb' e
 obtain ⟨vals, d', rfl, hvl, hva, hdk', hb⟩ := hP
 exact q D vals d' H7 ⟨by omega, hva⟩ hD hb hDy hdk'
theorem Fits.stands {bs : List (Str × Int)} {vals : List Int} (f : Fits bs vals) (h25 : ∀ b ∈ bs, 2 ≤ b.2 ∧ b.2 ≤ 5) : Stands bs vals := ⟨f.1, fun v hv => by
 obtain ⟨i, hi⟩ := List.mem_iff_getElem?.mp hv
 have hl : i < bs.length := by rw [← f.1]; exact (List.getElem?_eq_some_iff.mp hi).1
 have := f.2 i _ v (List.getElem?_eq_getElem hl) hi
 have := h25 _ (List.getElem_mem hl)
 omega⟩
theorem refs_of {H : Hp} {bs : List (Str × Int)} {us : List V} (p1 : Paired (BoxIn H) bs us) : ∀ (j : Nat) x, us[j]? = some x → ∃ y, x = .ref y := fun j x ex => by
 obtain ⟨b, eb⟩ : ∃ b, bs[j]? = some b := ⟨_, List.getElem?_eq_getElem (by rw [p1.length]; exact (List.getElem?_eq_some_iff.mp ex).1)⟩
 obtain ⟨y, ey, _⟩ := xV p1 eb ex
 exact ⟨y, ey⟩
theorem small2 {n : Nat} (h : n ≤ 100000) : n < sizeLine := Nat.lt_of_le_of_lt h (by decide)
theorem small2E {n : Nat} (h : n ≤ 100000) : n ≤ sizeLine := Nat.le_of_lt (small2 h)
noncomputable def rowsBy (acc : List (List Int)) (n : Nat) : List (List Int) := acc.flatMap fun r => (List.range n).map fun v => r ++ [((v : Nat) : Int)]
noncomputable def allV (bs : List (Str × Int)) : List (List Int) := (bs.map fun b => b.2.toNat).foldl rowsBy [[]]
theorem allV_snoc {bs : List (Str × Int)} {i : Nat} {b : Str × Int} (h : bs[i]? = some b) : allV (bs.take (i + 1)) = rowsBy (allV (bs.take i)) b.2.toNat := by
 unfold allV
 rw [List.take_add_one, h, List.map_append, List.foldl_append]
 rfl
theorem rowsBy_take {acc : List (List Int)} {n j : Nat} {r : List Int} (h : acc[j]? = some r) : rowsBy (acc.take (j + 1)) n = rowsBy (acc.take j) n ++ (List.range n).map fun v => r ++ [((v : Nat) : Int)] := by
 unfold rowsBy
 rw [List.take_add_one, h, List.flatMap_append]
 simp
theorem rowsBy_len (n : Nat) : ∀ acc : List (List Int), (rowsBy acc n).length = acc.length * n
 | [] => by simp [rowsBy]
 | r :: acc => by
  have := rowsBy_len n acc
  unfold rowsBy at this ⊢
  rw [List.flatMap_cons, List.length_append, this, List.length_map, List.length_range, List.length_cons, Nat.succ_mul]
  omega
theorem rowsBy_take_len (acc : List (List Int)) (n j : Nat) : (rowsBy (acc.take j) n).length ≤ acc.length * n := by
 rw [rowsBy_len, List.length_take]
 exact Nat.mul_le_mul_right _ (Nat.min_le_right _ _)
theorem allV_len {bs : List (Str × Int)} (h : ∀ b ∈ bs, 2 ≤ b.2 ∧ b.2 ≤ 5) : ∀ i : Nat, i ≤ bs.length → (allV (bs.take i)).length ≤ 5 ^ i
 | 0, _ => by simp [allV]
 | i + 1, hi => by
  have hb : bs[i]? = some (bs[i]'(by omega)) := List.getElem?_eq_getElem (by omega)
  rw [allV_snoc hb, rowsBy_len, Nat.pow_succ]
  have := h _ (List.getElem_mem (h := (by omega : i < bs.length)))
  exact Nat.mul_le_mul (allV_len h i (by omega)) (by omega)
theorem rowsBy_row {n k : Nat} {acc : List (List Int)} (h : ∀ r ∈ acc, r.length = k) : ∀ r ∈ rowsBy acc n, r.length = k + 1 := fun r hr => by
 obtain ⟨x, hx, hr⟩ := List.mem_flatMap.mp hr
 obtain ⟨v, _, rfl⟩ := List.mem_map.mp hr
 rw [List.length_append, h x hx]; rfl
theorem allV_row (bs : List (Str × Int)) : ∀ i : Nat, i ≤ bs.length → ∀ r ∈ allV (bs.take i), r.length = i
 | 0, _ => fun r hr => by simp [allV] at hr; subst hr; rfl
 | i + 1, hi => by
  have hb : bs[i]? = some (bs[i]'(by omega)) := List.getElem?_eq_getElem (by omega)
  rw [allV_snoc hb]
  exact rowsBy_row (allV_row bs i (by omega))
theorem pow56 {i : Nat} (h : i ≤ 6) : 5 ^ i ≤ 15625 := Nat.le_trans (Nat.pow_le_pow_right (by decide) h) (by decide)
theorem fits_snoc {bs : List (Str × Int)} {i : Nat} {b : Str × Int} {r : List Int} {v : Nat} (hb : bs[i]? = some b) (h : Fits (bs.take i) r) (hv : (v : Int) < b.2) : Fits (bs.take (i + 1)) (r ++ [((v : Nat) : Int)]) := by
 have hl := h.1
 have hib : i < bs.length := (List.getElem?_eq_some_iff.mp hb).1
 have lt : (bs.take i).length = i := by rw [List.length_take]; omega
 refine ⟨by rw [List.take_add_one, hb, List.length_append, List.length_append, hl]; rfl, fun j c x ec ex => ?_⟩
 rw [List.take_add_one, hb] at ec
 by_cases hj : j < i
 ·rw [List.getElem?_append_left (by omega)] at ec ex
  exact h.2 j c x ec ex
 ·have hj' : j = i := by
   have := (List.getElem?_eq_some_iff.mp ex).1
   rw [List.length_append, List.length_singleton] at this
   omega
  subst hj'
  rw [List.getElem?_append_right (by omega)] at ec ex
  have e1 : j - (bs.take j).length = 0 := by omega
  have e2 : j - r.length = 0 := by omega
  rw [e1] at ec
  rw [e2] at ex
  cases ec; cases ex
  exact ⟨by omega, hv⟩
theorem allV_fits {bs : List (Str × Int)} : ∀ i : Nat, i ≤ bs.length → ∀ r ∈ allV (bs.take i), Fits (bs.take i) r
 | 0, _ => fun r hr => by
  simp [allV] at hr
  subst hr
  exact ⟨rfl, fun j b v e => by simp at e⟩
 | i + 1, hi => fun r hr => by
  have hb : bs[i]? = some (bs[i]'(by omega)) := List.getElem?_eq_getElem (by omega)
  rw [allV_snoc hb] at hr
  obtain ⟨x, hx, hr⟩ := List.mem_flatMap.mp hr
  obtain ⟨v, hv, rfl⟩ := List.mem_map.mp hr
  have hv := List.mem_range.mp hv
  exact fits_snoc hb (allV_fits i (by omega) x hx) (by omega)
theorem allV_ok {bs : List (Str × Int)} {r : List Int} (h : r ∈ allV bs) : Fits bs r := by
 have := allV_fits (bs := bs) bs.length (Nat.le_refl _) r
 rw [List.take_length] at this
 exact this h
noncomputable def TupIn (H : Hp) (vals : List Int) (u : V) : Prop := ∃ a, u = .ref a ∧ H a = some (.tup (intsV vals))
theorem xY {H H' : Hp} (h : Tups H H') {rs : List (List Int)} {us : List V} (p : Paired (TupIn H) rs us) : Paired (TupIn H') rs us := Paired.mapP p fun _ _ x => let ⟨a, e, q⟩ := x; ⟨a, e, h _ _ q⟩
theorem row_read {σ : St} {H : Hp} {Q : VK} {j : Nat} {ra : Addr} {r : List Int} {n : Nat} (era : H ra = some (.tup (intsV r))) (hj : σ.getD j none = some (.ref ra)) (hr : r.length ≤ 100) (hn : n ≤ 1000)
  (q : ∀ (D : Addr) (us : List V) (H' : Hp), H D = none → Same H H' → H' D = some (.lst us) → Paired (TupIn H') ((List.range n).map fun v => r ++ [((v : Nat) : Int)]) us → Q (.ref D) H') :
  rdC 1 [j] (gName 0) tYes (tOp (rCatN K) (tVar 1) (tTup (tCons (tVar 0) tNil))) (Itr 0 n) σ H Q := by
 have fr : frees [j] σ = [some (.ref ra)] := by show [σ.getD j none] = _; rw [hj]
 refine comp_range (fun D i ys H' => Paired (TupIn H') ((List.range i).map fun v => r ++ [((v : Nat) : Int)]) ys ∧ Same H H') (fun D hD => ⟨.nil, qV hD _⟩) (fun D i ys H' N hD hDy hi hP hN => ?_) (fun D ys H2 hD hDy hP => ?_)
 ·obtain ⟨hp, hk⟩ := hP
  have lp := hp.length
  rw [List.length_map, List.length_range] at lp
  have e0 : (0 : Int) + (i : Int) = (i : Int) := Int.zero_add _
  rw [e0]
  refine ⟨⟨[some (.int (i : Int))], rfl, rfl⟩, ?_⟩
  refine ⟨.ref ra, (by show (([some (V.int (i : Int))] : St) ++ frees [j] σ)[1]? = _; rw [fr]; rfl), _, rfl, (by show 1 ≤ sizeLine; decide), fun t ht => ?_⟩
  have Dt : D ≠ t := qB hDy ht
  have fin : ∀ (a : Addr) (H3 : Hp), Same H' H3 → H3 a = some (.tup (intsV (r ++ [((i : Nat) : Int)]))) → H3 D = some (.lst ys) ∧ ys.length < sizeLine ∧ N (ys ++ [.ref a]) (upd H3 D (.lst (ys ++ [.ref a]))) := fun a H3 S3 ea => by
   have eD := S3 _ _ hDy
   refine ⟨eD, small (by omega), hN _ _ qW ⟨?_, fun b o e => ?_⟩⟩
   ·have T1 : Tups H' (upd H3 D (.lst (ys ++ [.ref a]))) := fun b xs e => by rw [qA (ne_of e hDy (by intro z; cases z))]; exact S3 _ _ e
    rw [List.range_succ, List.map_append]
    exact Paired.snoc (xY T1 hp) ⟨a, rfl, by rw [qA (ne_of ea eD (by intro z; cases z))]; exact ea⟩
   ·rw [qA (qB e hD)]; exact S3 _ _ (hk _ _ e)
  refine ⟨ra, t, _, _, rfl, rfl, SqT.of (qV ht _ _ _ (hk _ _ era)), SqT.of qW, by simp, ?_, fun z => ?_, fun z p hp' => ?_⟩
  ·rw [intsV_len]; exact smallE (by show r.length + 1 ≤ _; omega)
  ·have z' : r = [] := List.map_eq_nil_iff.mp z
   subst z'
   exact fin t _ (qV ht _) qW
  ·refine fin p _ ((qV ht _).trans (qV hp' _)) ?_
   rw [intsV_snoc]; exact qW
 ·exact q D ys H2 hD hP.2 hDy hP.1
noncomputable def spStands : Sp := fun vs H Q _ => ∃ (bx : Addr) (bs : List (Str × Int)) (us : List V), vs = [.ref bx] ∧ H bx = some (.lst us) ∧ Paired (BoxIn H) bs us ∧ bs.length ≤ 6 ∧ (∀ b ∈ bs, 2 ≤ b.2 ∧ b.2 ≤ 5) ∧
 ∀ (r : Addr) (ss : List V) (H' : Hp), H r = none → Same H H' → H' r = some (.lst ss) → Paired (TupIn H') (allV bs) ss → Q (.ref r) H'

theorem sc_standings_of_boxes : FnScope ["boxes", "rows", "name", "size", "longer", "row"] ["boxes"] (xB (top 27)) := ⟨rfl, rfl, rfl, by decide +kernel, rfl, by decide +kernel, by decide +kernel⟩
theorem co_standings_of_boxes1 : CompOk (xB (top 27)) ["boxes", "rows", "name", "size", "longer", "row"] (scAt (xC (top 27)) [1, 1, 0] [1]) ["value", "row"] 1 [5] :=
 ⟨by decide +kernel, by decide +kernel, by decide +kernel, by decide +kernel, by decide +kernel, by decide +kernel, by decide +kernel, by decide +kernel⟩
theorem dn_sob (F : Fd K mg "standings_of_boxes" (top 27) ["boxes"]) (B : Bl mg) : Dn P w K mg base "standings_of_boxes" 1 ["boxes"] spStands := by
 refine F.ok sc_standings_of_boxes (fun vs H Q E h => ?_) (fun f cdv A outer s H vs Q E hr h => ?_)
 ·obtain ⟨_, _, _, rfl, _⟩ := h
  rfl
 obtain ⟨bx, bs, us, rfl, ebx, pb, h6, h25, q⟩ := h
 have lb : us.length = bs.length := pb.length.symm
 refine ⟨_, (qZ (qN (i := 1) sc_standings_of_boxes.nd rfl (by wtm_at "zo") (pe_lst (qQ (pe_tup qX) qX)))
  (qZ (ps_for PassesOwn.never rfl (xQ (K := K) (pv 0)) (pg_tupK (K := K) (n := 2) rfl (qI (qH (i := 2) sc_standings_of_boxes.nd rfl (by wtm_at "zo")) (qI (qH (i := 3) sc_standings_of_boxes.nd rfl (by wtm_at "zo")) qM))) (qZ (qN (i := 4) sc_standings_of_boxes.nd rfl (by wtm_at "zo") (pe_lst qX))
  (qZ (ps_for PassesOwn.never rfl (xQ (K := K) (pv 1)) (qH (i := 5) sc_standings_of_boxes.nd rfl (by wtm_at "zo")) (qJ (qR (pe_bmK (K := K) PySem.F.plainAttrs_list PySem.F.slot_list_extend PySem.F.type_list_extend mt_extend (pv 4) (qQ (pe_comp rfl co_standings_of_boxes1 (pi_range1 rfl B.range' (qQ (pv 3) qX)) (fun cl fp s H => (qH (i := 0) co_standings_of_boxes1.nd rfl (Or.inl rfl) (.inr rfl))) (fun cl fp s H => pts_nil) (fun cl fp s H => (xX (op_catTK (K := K)) (pv 1) (pe_tup (qQ (pv 0) qX))))) qX)))))
  (qJ (qN (i := 1) sc_standings_of_boxes.nd rfl (by wtm_at "zo") (pv 4))))))
  (qJ (qO (pv 1))))), ?_⟩
 wtm_at "zw"
 refine ⟨(by show 0 ≤ sizeLine; decide), fun t0 ht0 => ?_⟩
 wtm_at "zw"
 refine ⟨(by show 1 ≤ sizeLine; decide), fun r0 hr0 => ?_⟩
 wtm_at "zw"
 have S0 : Same H (upd (upd H t0 (.tup [])) r0 (.lst [.ref t0])) := (qV ht0 _).trans (qV hr0 _)
 refine ⟨_, rfl, bx, rfl, ⟨us, SqL.of (S0 _ _ ebx)⟩, ?_⟩
 refine for_listN (xs := us) (fun i σ' H' => ∃ (ro : Addr) (ss : List V) (z2 z3 z4 z5 : Option V), σ' = [some (.ref bx), some (.ref ro), z2, z3, z4, z5] ∧ Same H H' ∧ H ro = none ∧ H' ro = some (.lst ss) ∧ Paired (TupIn H') (allV (bs.take i)) ss)
  ⟨r0, [.ref t0], none, none, none, none, rfl, S0, (qV ht0 _).free hr0, qW, .cons ⟨t0, rfl, qV hr0 _ _ _ qW⟩ .nil⟩
  (fun i σ' H' _ hP => ?_) (fun N rt bk i x σ' H' ex hP hN => ?_) (fun σ' H' hP => ?_)
 ·obtain ⟨ro, ss, z2, z3, z4, z5, rfl, S1, _⟩ := hP
  exact SqL.of (S1 _ _ ebx)
 ·obtain ⟨ro, ss, z2, z3, z4, z5, rfl, S1, nro, ero, prs⟩ := hP
  have hi : i < bs.length := by rw [← lb]; exact (List.getElem?_eq_some_iff.mp ex).1
  obtain ⟨b, eb⟩ : ∃ b, bs[i]? = some b := ⟨_, List.getElem?_eq_getElem hi⟩
  obtain ⟨ba, rfl, hba⟩ := xV pb eb ex
  have hb25 := h25 b (List.mem_of_getElem? eb)
  have rl := allV_len h25 i (by omega)
  have p5 := pow56 (i := i) (by omega)
  refine ⟨ba, _, rfl, SqT.of (S1 _ _ hba), rfl, _, _, rfl, _, _, rfl, rfl, ?_⟩
  wtm_at "zw"
  refine ⟨(by show 0 ≤ sizeLine; decide), fun lo hlo => ?_⟩
  wtm_at "zw"
  have lr := prs.length
  refine ⟨_, rfl, ro, rfl, ⟨ss, SqL.of (qV hlo _ _ _ ero)⟩, ?_⟩
  refine for_listN (xs := ss) (fun j σ'' H'' => ∃ (ls : List V) (z5 : Option V), σ'' = [some (.ref bx), some (.ref ro), some (.str b.1), some (.int b.2), some (.ref lo), z5] ∧ (∀ c o, H' c = some o → H'' c = some o) ∧ H'' lo = some (.lst ls) ∧ Paired (TupIn H'') (rowsBy ((allV (bs.take i)).take j) b.2.toNat) ls)
   ⟨[], z5, rfl, qV hlo _, qW, .nil⟩ (fun j σ'' H'' _ hP => ?_) (fun N2 rt2 bk2 j x σ'' H'' ex2 hP hN2 => ?_) (fun σ'' H'' hP => ?_)
  ·obtain ⟨ls, z5, rfl, k2, _⟩ := hP
   exact SqL.of (k2 _ _ ero)
  ·obtain ⟨ls, z5, rfl, k2, elo, pls⟩ := hP
   have hj : j < (allV (bs.take i)).length := by rw [lr]; exact (List.getElem?_eq_some_iff.mp ex2).1
   obtain ⟨row, erow⟩ : ∃ row, (allV (bs.take i))[j]? = some row := ⟨_, List.getElem?_eq_getElem hj⟩
   obtain ⟨ra, rfl, hra⟩ := xV prs erow ex2
   have hrl := allV_row bs i (by omega) row (List.mem_of_getElem? erow)
   have ll := pls.length
   have lm := rowsBy_take_len (allV (bs.take i)) b.2.toNat j
   have l5 : (allV (bs.take i)).length * b.2.toNat ≤ 15625 * 5 := Nat.mul_le_mul (by omega) (by omega)
   wtm_at "zw"
   refine ⟨.inl ⟨rfl, _, SqL.of elo⟩, ?_⟩
   wtm_at "zw"
   refine ⟨_, rfl, b.2, rfl, by omega, by omega, row_read (k2 _ _ hra) rfl (by omega) (by omega) fun D zs H3 nD S3 eD pz => ?_⟩
   have lz := pz.length
   rw [List.length_map, List.length_range] at lz
   have elo3 := S3 _ _ elo
   refine ⟨lo, D, ls, zs, rfl, rfl, elo3, eD, by rw [← ll, ← lz]; exact small2E (by omega), ?_⟩
   have T3 : Tups H3 (upd H3 lo (.lst (ls ++ zs))) := fun c xs e => by rw [qA (ne_of e elo3 (by intro z; cases z))]; exact e
   refine hN2 _ _ ⟨ls ++ zs, _, rfl, fun c o e => ?_, qW, ?_⟩
   ·rw [qA (qB e hlo)]; exact S3 _ _ (k2 _ _ e)
   ·rw [rowsBy_take erow]
    exact paired_app (xY T3 (xY (qC S3) pls)) (xY T3 pz)
  ·obtain ⟨ls, z5, rfl, k2, elo, pls⟩ := hP
   rw [← lr, List.take_length, ← allV_snoc eb] at pls
   wtm_at "zw"
   exact hN _ _ ⟨lo, ls, _, _, _, _, rfl, S1.trans k2, S1.free hlo, elo, pls⟩
 ·obtain ⟨ro, ss, z2, z3, z4, z5, rfl, S1, nro, ero, prs⟩ := hP
  rw [lb, List.take_length] at prs
  wtm_at "zw"
  exact q ro ss H' nro S1 ero prs

theorem sc_law_standings : FnScope ["boxes", "found", "name", "size", "longer", "one"] ["boxes"] (xB (top 51)) := ⟨rfl, rfl, rfl, by decide +kernel, rfl, by decide +kernel, by decide +kernel⟩
theorem co_law_standings1 : CompOk (xB (top 51)) ["boxes", "found", "name", "size", "longer", "one"] (scAt (xC (top 51)) [1, 1, 0] [1]) ["value", "one"] 1 [5] :=
 ⟨by decide +kernel, by decide +kernel, by decide +kernel, by decide +kernel, by decide +kernel, by decide +kernel, by decide +kernel, by decide +kernel⟩
theorem dn_lstand (F : Fd K mg "_law_standings" (top 51) ["boxes"]) (B : Bl mg) : Dn P w K mg base "_law_standings" 1 ["boxes"] spStands := by
 refine F.ok sc_law_standings (fun vs H Q E h => ?_) (fun f cdv A outer s H vs Q E hr h => ?_)
 ·obtain ⟨_, _, _, rfl, _⟩ := h
  rfl
 obtain ⟨bx, bs, us, rfl, ebx, pb, h6, h25, q⟩ := h
 have lb : us.length = bs.length := pb.length.symm
 refine ⟨_, (qZ (qN (i := 1) sc_law_standings.nd rfl (by wtm_at "zo") (pe_lst (qQ (pe_tup qX) qX)))
  (qZ (ps_for PassesOwn.never rfl (xQ (K := K) (pv 0)) (pg_tupK (K := K) (n := 2) rfl (qI (qH (i := 2) sc_law_standings.nd rfl (by wtm_at "zo")) (qI (qH (i := 3) sc_law_standings.nd rfl (by wtm_at "zo")) qM))) (qZ (qN (i := 4) sc_law_standings.nd rfl (by wtm_at "zo") (pe_lst qX))
  (qZ (ps_for PassesOwn.never rfl (xQ (K := K) (pv 1)) (qH (i := 5) sc_law_standings.nd rfl (by wtm_at "zo")) (qJ (qN (i := 4) sc_law_standings.nd rfl (by wtm_at "zo") (xX op_cat (pv 4) (pe_comp rfl co_law_standings1 (pi_range1 rfl B.range' (qQ (pv 3) qX)) (fun cl fp s H => (qH (i := 0) co_law_standings1.nd rfl (Or.inl rfl) (.inr rfl))) (fun cl fp s H => pts_nil) (fun cl fp s H => (xX (op_catTK (K := K)) (pv 1) (pe_tup (qQ (pv 0) qX)))))))))
  (qJ (qN (i := 1) sc_law_standings.nd rfl (by wtm_at "zo") (pv 4))))))
  (qJ (qO (pv 1))))), ?_⟩
 wtm_at "zw"
 refine ⟨(by show 0 ≤ sizeLine; decide), fun t0 ht0 => ?_⟩
 wtm_at "zw"
 refine ⟨(by show 1 ≤ sizeLine; decide), fun r0 hr0 => ?_⟩
 wtm_at "zw"
 have S0 : Same H (upd (upd H t0 (.tup [])) r0 (.lst [.ref t0])) := (qV ht0 _).trans (qV hr0 _)
 refine ⟨_, rfl, bx, rfl, ⟨us, SqL.of (S0 _ _ ebx)⟩, ?_⟩
 refine for_listN (xs := us) (fun i σ' H' => ∃ (ro : Addr) (ss : List V) (z2 z3 z4 z5 : Option V), σ' = [some (.ref bx), some (.ref ro), z2, z3, z4, z5] ∧ Same H H' ∧ H ro = none ∧ H' ro = some (.lst ss) ∧ Paired (TupIn H') (allV (bs.take i)) ss)
  ⟨r0, [.ref t0], none, none, none, none, rfl, S0, (qV ht0 _).free hr0, qW, .cons ⟨t0, rfl, qV hr0 _ _ _ qW⟩ .nil⟩
  (fun i σ' H' _ hP => ?_) (fun N rt bk i x σ' H' ex hP hN => ?_) (fun σ' H' hP => ?_)
 ·obtain ⟨ro, ss, z2, z3, z4, z5, rfl, S1, _⟩ := hP
  exact SqL.of (S1 _ _ ebx)
 ·obtain ⟨ro, ss, z2, z3, z4, z5, rfl, S1, nro, ero, prs⟩ := hP
  have hi : i < bs.length := by rw [← lb]; exact (List.getElem?_eq_some_iff.mp ex).1
  obtain ⟨b, eb⟩ : ∃ b, bs[i]? = some b := ⟨_, List.getElem?_eq_getElem hi⟩
  obtain ⟨ba, rfl, hba⟩ := xV pb eb ex
  have hb25 := h25 b (List.mem_of_getElem? eb)
  have rl := allV_len h25 i (by omega)
  have p5 := pow56 (i := i) (by omega)
  refine ⟨ba, _, rfl, SqT.of (S1 _ _ hba), rfl, _, _, rfl, _, _, rfl, rfl, ?_⟩
  wtm_at "zw"
  refine ⟨(by show 0 ≤ sizeLine; decide), fun lo0 hlo0 => ?_⟩
  wtm_at "zw"
  have lr := prs.length
  refine ⟨_, rfl, ro, rfl, ⟨ss, SqL.of (qV hlo0 _ _ _ ero)⟩, ?_⟩
  refine for_listN (xs := ss) (fun j σ'' H'' => ∃ (lo : Addr) (ls : List V) (z5 : Option V), σ'' = [some (.ref bx), some (.ref ro), some (.str b.1), some (.int b.2), some (.ref lo), z5] ∧ Same H' H'' ∧ H' lo = none ∧ H'' lo = some (.lst ls) ∧ Paired (TupIn H'') (rowsBy ((allV (bs.take i)).take j) b.2.toNat) ls)
   ⟨lo0, [], z5, rfl, qV hlo0 _, hlo0, qW, .nil⟩ (fun j σ'' H'' _ hP => ?_) (fun N2 rt2 bk2 j x σ'' H'' ex2 hP hN2 => ?_) (fun σ'' H'' hP => ?_)
  ·obtain ⟨lo, ls, z5, rfl, k2, _⟩ := hP
   exact SqL.of (k2 _ _ ero)
  ·obtain ⟨lo, ls, z5, rfl, k2, nlo, elo, pls⟩ := hP
   have hj : j < (allV (bs.take i)).length := by rw [lr]; exact (List.getElem?_eq_some_iff.mp ex2).1
   obtain ⟨row, erow⟩ : ∃ row, (allV (bs.take i))[j]? = some row := ⟨_, List.getElem?_eq_getElem hj⟩
   obtain ⟨ra, rfl, hra⟩ := xV prs erow ex2
   have hrl := allV_row bs i (by omega) row (List.mem_of_getElem? erow)
   have ll := pls.length
   have lm := rowsBy_take_len (allV (bs.take i)) b.2.toNat j
   have l5 : (allV (bs.take i)).length * b.2.toNat ≤ 15625 * 5 := Nat.mul_le_mul (by omega) (by omega)
   wtm_at "zw"
   refine ⟨_, rfl, b.2, rfl, by omega, by omega, row_read (k2 _ _ hra) rfl (by omega) (by omega) fun D zs H3 nD S3 eD pz => ?_⟩
   have lz := pz.length
   rw [List.length_map, List.length_range] at lz
   refine ⟨lo, D, ls, zs, rfl, rfl, S3 _ _ elo, eD, by rw [← ll, ← lz]; exact small2E (by omega), fun p hp => ?_⟩
   have S4 : Same H3 (upd H3 p (.lst (ls ++ zs))) := qV hp _
   refine hN2 _ _ ⟨p, ls ++ zs, _, rfl, k2.trans (S3.trans S4), k2.free (S3.free hp), qW, ?_⟩
   rw [rowsBy_take erow]
   exact paired_app (xY (qC (S3.trans S4)) pls) (xY (qC S4) pz)
  ·obtain ⟨lo, ls, z5, rfl, k2, nlo, elo, pls⟩ := hP
   rw [← lr, List.take_length, ← allV_snoc eb] at pls
   wtm_at "zw"
   exact hN _ _ ⟨lo, ls, _, _, _, _, rfl, S1.trans k2, S1.free nlo, elo, pls⟩
 ·obtain ⟨ro, ss, z2, z3, z4, z5, rfl, S1, nro, ero, prs⟩ := hP
  rw [lb, List.take_length] at prs
  wtm_at "zw"
  exact q ro ss H' nro S1 ero prs

noncomputable def ChangeIn (H : Hp) (c : Str × Th) (u : V) : Prop := ∃ a v, u = .ref a ∧ H a = some (.tup [.str c.1, v]) ∧ c.2.At H v
noncomputable def WayIn (H : Hp) (wy : List (Str × Th)) (u : V) : Prop := ∃ a us, u = .ref a ∧ H a = some (.lst us) ∧ Paired (ChangeIn H) wy us
structure Deed where
 name : Str
 price : Int
 need : Th
 ways : List (List (Str × Th))
noncomputable def DeedIn (H : Hp) (d : Deed) (u : V) : Prop := ∃ a nv wa us, u = .ref a ∧ H a = some (.tup [.str d.name, .int d.price, nv, .ref wa]) ∧ d.need.At H nv ∧ H wa = some (.lst us) ∧ Paired (WayIn H) d.ways us
structure Look where
 name : Str
 price : Int
 part : Th
noncomputable def LookIn (H : Hp) (l : Look) (u : V) : Prop := ∃ a v, u = .ref a ∧ H a = some (.tup [.str l.name, .int l.price, v]) ∧ l.part.At H v
structure WayOk (ws : List Str) (wy : List (Str × Th)) : Prop where
 nd : (wy.map (·.1)).Nodup
 le : wy.length ≤ 100
 ok : ∀ c ∈ wy, c.1 ∈ ws ∧ Expr' ws c.2 ∧ c.2.dep ≤ 12
structure DeedOk (ws : List Str) (d : Deed) : Prop where
 price : 1 ≤ d.price
 need : Cond' ws d.need
 dep : d.need.dep ≤ 12
 ne : d.ways ≠ []
 le : d.ways.length ≤ 100
 ways : ∀ wy ∈ d.ways, WayOk ws wy
structure LookOk (ws : List Str) (l : Look) : Prop where
 price : 1 ≤ l.price
 part : Expr' ws l.part
 dep : l.part.dep ≤ 12
section
variable {H H' : Hp}
theorem ChangeIn.same (s : Same H H') {c : Str × Th} {u : V} (x : ChangeIn H c u) : ChangeIn H' c u := let ⟨a, v, e, q, r⟩ := x; ⟨a, v, e, s _ _ q, r.mono (qC s)⟩
theorem WayIn.same (s : Same H H') {c : List (Str × Th)} {u : V} (x : WayIn H c u) : WayIn H' c u := let ⟨a, us, e, q, r⟩ := x; ⟨a, us, e, s _ _ q, Paired.mapP r fun _ _ y => y.same s⟩
theorem DeedIn.same (s : Same H H') {c : Deed} {u : V} (x : DeedIn H c u) : DeedIn H' c u := let ⟨a, nv, wa, us, e, q, r, q2, p⟩ := x; ⟨a, nv, wa, us, e, s _ _ q, r.mono (qC s), s _ _ q2, Paired.mapP p fun _ _ y => y.same s⟩
theorem LookIn.same (s : Same H H') {c : Look} {u : V} (x : LookIn H c u) : LookIn H' c u := let ⟨a, v, e, q, r⟩ := x; ⟨a, v, e, s _ _ q, r.mono (qC s)⟩
end
structure Wd where
 bs : List (Str × Int)
 ds : List Deed
 ls : List Look
 bt : Th
 gt : Th
noncomputable abbrev Wd.ws (W : Wd) : List Str := W.bs.map (·.1)
structure WAt (H : Hp) (W : Wd) (bx dx lx : Addr) (bv gv : V) : Prop where
 boxes : ∃ us, H bx = some (.lst us) ∧ Paired (BoxIn H) W.bs us
 deeds : ∃ us, H dx = some (.lst us) ∧ Paired (DeedIn H) W.ds us
 looks : ∃ us, H lx = some (.lst us) ∧ Paired (LookIn H) W.ls us
 beg : W.bt.At H bv
 goal : W.gt.At H gv
structure WOk (W : Wd) : Prop where
 b1 : 1 ≤ W.bs.length
 b6 : W.bs.length ≤ 6
 b25 : ∀ b ∈ W.bs, 2 ≤ b.2 ∧ b.2 ≤ 5
 b200 : (W.bs.map (·.2)).foldl (· * ·) 1 ≤ 200
 named : Named W.ws
 dl : W.ds.length ≤ 100
 ll : W.ls.length ≤ 100
 nd : (W.ds.map Deed.name ++ W.ls.map Look.name).Nodup
 deeds : ∀ d ∈ W.ds, DeedOk W.ws d
 looks : ∀ l ∈ W.ls, LookOk W.ws l
 beg : Cond' W.ws W.bt
 begd : W.bt.dep ≤ 12
 goal : Cond' W.ws W.gt
 goald : W.gt.dep ≤ 12
 some' : ∃ vals ∈ allV W.bs, W.bt.truth (envOf (kvsOf W.bs vals)) = true
 sh : ∀ x ∈ W.ds.map Deed.name ++ W.ls.map Look.name, Lw x
theorem WAt.same {H H' : Hp} {W : Wd} {bx dx lx : Addr} {bv gv : V} (s : Same H H') (x : WAt H W bx dx lx bv gv) : WAt H' W bx dx lx bv gv := by
 obtain ⟨u1, e1, p1⟩ := x.boxes
 obtain ⟨u2, e2, p2⟩ := x.deeds
 obtain ⟨u3, e3, p3⟩ := x.looks
 exact ⟨⟨u1, s _ _ e1, xK (qC s) p1⟩, ⟨u2, s _ _ e2, Paired.mapP p2 fun _ _ y => y.same s⟩, ⟨u3, s _ _ e3, Paired.mapP p3 fun _ _ y => y.same s⟩, x.beg.mono (qC s), x.goal.mono (qC s)⟩
theorem Expr'.in {ws : List Str} : ∀ {t : Th}, Expr' ws t → ∀ x ∈ t.names, x ∈ ws
 | .num _, _, x, h => by cases h
 | .box y, h, x, hx => by
  have hx : x ∈ [y] := hx
  rw [List.mem_singleton.mp hx]; exact h
 | .nul _, h, _, _ => h.elim
 | .un _ _, h, _, _ => h.elim
 | .bin k a b, ⟨_, ha, hb⟩, x, hx => by
  have hx : x ∈ a.names ++ b.names := hx
  rcases List.mem_append.mp hx with h | h
  ·exact Expr'.in ha x h
  ·exact Expr'.in hb x h
theorem Cond'.in {ws : List Str} : ∀ {t : Th}, Cond' ws t → ∀ x ∈ t.names, x ∈ ws
 | .num _, h, _, _ => h.elim
 | .box _, h, _, _ => h.elim
 | .nul _, _, x, h => by cases h
 | .un k a, ⟨_, ha⟩, x, hx => Cond'.in ha x hx
 | .bin k a b, h, x, hx => by
  have hx : x ∈ a.names ++ b.names := hx
  rcases h with ⟨_, ha, hb⟩ | ⟨_, ha, hb⟩
  ·rcases List.mem_append.mp hx with h | h
   ·exact ha.in x h
   ·exact hb.in x h
  ·rcases List.mem_append.mp hx with h | h
   ·exact Cond'.in ha x h
   ·exact Cond'.in hb x h
theorem flat_strs (ws : List Str) : (strsV ws).all flatV = true := List.all_eq_true.mpr fun x hx => by
 obtain ⟨y, _, rfl⟩ := List.mem_map.mp hx
 rfl
theorem inV_strs (x : Str) (ws : List Str) : inV (.str x) (strsV ws) = decide (x ∈ ws) := by
 unfold inV
 rw [List.any_map]
 by_cases h : x ∈ ws
 ·rw [decide_eq_true h]
  refine List.any_eq_true.mpr ⟨x, h, ?_⟩
  show (x == x) = true
  exact beq_self_eq_true x
 ·rw [decide_eq_false h]
  refine Bool.eq_false_iff.mpr fun z => ?_
  obtain ⟨y, hy, e⟩ := List.any_eq_true.mp z
  have e : (y == x) = true := e
  exact h (eq_of_beq e ▸ hy)

theorem sc_is_whole : FnScope ["thing"] ["thing"] (xB (top 30)) := ⟨rfl, rfl, rfl, by decide +kernel, rfl, by decide +kernel, by decide +kernel⟩
noncomputable def spWhole : Sp := fun vs H Q _ => ∃ i : Int, vs = [.int i] ∧ Q (.bl true) H
theorem kit_ib : PySem.W.kitOne K (.type "int") (.type "bool") = some false := by with_unfolding_all rfl
theorem dn_whole (F : Fd K mg "is_whole" (top 30) ["thing"]) (B : Bl mg) : Dn P w K mg base "is_whole" 1 ["thing"] spWhole := by
 refine F.ok sc_is_whole (fun vs H Q E h => ?_) (fun f cdv A outer s H vs Q E hr h => ?_)
 ·obtain ⟨_, rfl, _⟩ := h
  rfl
 obtain ⟨i, rfl, q⟩ := h
 refine ⟨_, (qJ (qO (pe_and (xJ (call_isinstK (K := K)) rfl B.isinstance' bt_isinstance (qQ (pv 0) (qQ (pe_ty rfl B.int' bt_int) qX))) (pe_one (pe_not (xJ (call_isinstK (K := K)) rfl B.isinstance' bt_isinstance (qQ (pv 0) (qQ (pe_ty rfl B.bool' bt_bool) qX)))))))), ?_⟩
 wtm_at "zw"
 refine ⟨.int i, "int", _, true, rfl, .int i, kit_of, ?_⟩
 wtm_at "zw"
 refine ⟨.int i, "bool", _, false, rfl, .int i, kit_ib, ?_⟩
 wtm_at "zw"
 exact q
theorem sc_refuse_price : FnScope ["name", "price"] ["name", "price"] (xB (top 33)) := ⟨rfl, rfl, rfl, by decide +kernel, rfl, by decide +kernel, by decide +kernel⟩
noncomputable def spPrice : Sp := fun vs H Q _ => ∃ (x : V) (p : Int), vs = [x, .int p] ∧ 1 ≤ p ∧ Q .non H
theorem dn_price (F : Fd K mg "refuse_price" (top 33) ["name", "price"]) (D_is_whole : Dn P w K mg base "is_whole" 1 ["thing"] spWhole) (GL_LEAST_PRICE : Gi mg "LEAST_PRICE" 1) : Dn P w K mg base "refuse_price" 2 ["name", "price"] spPrice := by
 refine F.ok sc_refuse_price (fun vs H Q E h => ?_) (fun f cdv A outer s H vs Q E hr h => ?_)
 ·obtain ⟨_, _, rfl, _⟩ := h
  rfl
 obtain ⟨x, p, rfl, hp, q⟩ := h
 refine ⟨_, (qJ (ps_if (PW.pt (pw_or (pt_not (pt_val (qD D_is_whole hr (qQ (pv 1) qX)))) (pw_or1 (qS op_lt (pv 1) (pe_gi GL_LEAST_PRICE) (xE _))))) (qJ ps_never) qY)), ?_⟩
 wtm_at "zw"
 refine ⟨p, rfl, ?_⟩
 wtm_at "zw"
 refine w_false (decide_eq_false (by omega)) ?_
 wtm_at "zw"
 exact q
theorem sc_refuse_strange_name : FnScope ["name", "names"] ["name", "names"] (xB (top 35)) := ⟨rfl, rfl, rfl, by decide +kernel, rfl, by decide +kernel, by decide +kernel⟩
noncomputable def spStrange1 : Sp := fun vs H Q _ => ∃ (x : Str) (nl : Addr) (ws : List Str), vs = [.str x, .ref nl] ∧ H nl = some (.lst (strsV ws)) ∧ x ∈ ws ∧ Q .non H
theorem dn_strange1 (F : Fd K mg "refuse_strange_name" (top 35) ["name", "names"]) : Dn P w K mg base "refuse_strange_name" 1 ["name", "names"] spStrange1 := by
 refine F.ok sc_refuse_strange_name (fun vs H Q E h => ?_) (fun f cdv A outer s H vs Q E hr h => ?_)
 ·obtain ⟨_, _, _, rfl, _⟩ := h
  rfl
 obtain ⟨x, nl, ws, rfl, hn, hx, q⟩ := h
 refine ⟨_, (qJ (ps_if (qS (op_notInK (K := K)) (pv 0) (pv 1) (by with_unfolding_all rfl)) (qJ ps_never) qY)), ?_⟩
 wtm_at "zw"
 refine ⟨nl, _, rfl, .inl (SqL.of hn), rfl, flat_strs ws, ?_⟩
 wtm_at "zw"
 rw [if_pos rfl, inV_strs, decide_eq_true hx]
 refine iteF ?_
 wtm_at "zw"
 exact q
theorem sc_refuse_strange_names : FnScope ["thing", "names", "name"] ["thing", "names"] (xB (top 36)) := ⟨rfl, rfl, rfl, by decide +kernel, rfl, by decide +kernel, by decide +kernel⟩
noncomputable def spStrange : Sp := fun vs H Q _ => ∃ (t : Th) (v : V) (nl : Addr) (ws : List Str), vs = [v, .ref nl] ∧ t.At H v ∧ t.Ok ∧ t.dep ≤ 12 ∧ H nl = some (.lst (strsV ws)) ∧ (∀ x ∈ t.names, x ∈ ws) ∧ ∀ H', Same H H' → Q .non H'
theorem dn_strange (F : Fd K mg "refuse_strange_names" (top 36) ["thing", "names"]) (D_refuse_strange_name : Dn P w K mg base "refuse_strange_name" 1 ["name", "names"] spStrange1)
  (D_names_in : Dn P w K mg base "names_in" 13 ["thing"] (spNames 12)) : Dn P w K mg base "refuse_strange_names" 14 ["thing", "names"] spStrange := by
 refine F.ok sc_refuse_strange_names (fun vs H Q E h => ?_) (fun f cdv A outer s H vs Q E hr h => ?_)
 ·obtain ⟨_, _, _, _, rfl, _⟩ := h
  rfl
 obtain ⟨t, v, nl, ws, rfl, at', ok, dp, hn, hin, q⟩ := h
 refine ⟨_, (qJ (ps_for PassesOwn.never rfl (xQ (K := K) (qD D_names_in hr (qQ (pv 0) qX))) (qH (i := 2) sc_refuse_strange_names.nd rfl (by wtm_at "zo")) (qJ (qR (qD D_refuse_strange_name hr (qQ (pv 2) (qQ (pv 1) qX))))))), ?_⟩
 wtm_at "zf"
 refine ⟨t, v, rfl, at', ok, dp, dp, fun r H1 hr1 S1 er => ?_⟩
 refine ⟨r, rfl, ⟨_, SqL.of er⟩, ?_⟩
 refine for_list (xs := strsV t.names) (fun i σ' H' => ∃ z : Option V, σ' = [some v, some (.ref nl), z] ∧ H' = H1) ⟨none, rfl, rfl⟩ (fun i σ' H' _ hP => ?_) (fun i x σ' H' ex hP => ?_) (fun σ' H' hP => ?_)
 ·obtain ⟨z, rfl, rfl⟩ := hP
  exact SqL.of er
 ·obtain ⟨z, rfl, rfl⟩ := hP
  obtain ⟨y, hy, rfl⟩ := List.mem_map.mp (List.mem_of_getElem? ex)
  wtm_at "zw"
  refine ⟨y, nl, ws, rfl, S1 _ _ hn, hin y hy, ?_⟩
  exact ⟨_, rfl, rfl⟩
 ·obtain ⟨z, rfl, rfl⟩ := hP
  exact q _ S1
theorem sc_refuse_twice : FnScope ["names", "kind"] ["names", "kind"] (xB (top 32)) := ⟨rfl, rfl, rfl, by decide +kernel, rfl, by decide +kernel, by decide +kernel⟩
noncomputable def spTwice : Sp := fun vs H Q _ => ∃ (nl : Addr) (ws : List Str) (x : V), vs = [.ref nl, x] ∧ H nl = some (.lst (strsV ws)) ∧ ws.Nodup ∧ ws.length ≤ 1000 ∧ ∀ H', Same H H' → Q .non H'
theorem dn_twice (F : Fd K mg "refuse_twice" (top 32) ["names", "kind"]) (B : Bl mg) (B_set : mg "set" = none) : Dn P w K mg base "refuse_twice" 1 ["names", "kind"] spTwice := by
 refine F.ok sc_refuse_twice (fun vs H Q E h => ?_) (fun f cdv A outer s H vs Q E hr h => ?_)
 ·obtain ⟨_, _, _, rfl, _⟩ := h
  rfl
 obtain ⟨nl, ws, x, rfl, hn, nd, hl, q⟩ := h
 refine ⟨_, (qJ (ps_if (qS op_lt (xJ (call_lenS (P := P) (w := w)) rfl B.len' bt_len (qQ (xZ (call_setK (P := P) (w := w) (K := K) rfl) rfl B_set bt_set (qQ (pv 0) qX)) qX)) (xJ (call_lenK (K := K)) rfl B.len' bt_len (qQ (pv 0) qX)) (xE _)) (qJ ps_never) qY)), ?_⟩
 wtm_at "zw"
 refine ⟨nl, ws, rfl, SqL.of hn, nd, hl, fun p hp => ?_⟩
 wtm_at "zw"
 refine ⟨p, ws.length, rfl, qW, hl, ?_⟩
 wtm_at "zw"
 refine w_false (decide_eq_false (by rw [xA]; omega)) ?_
 wtm_at "zw"
 exact q _ (qV hp _)
theorem sc_refuse_boxes : FnScope ["boxes", "name", "size"] ["boxes"] (xB (top 31)) := ⟨rfl, rfl, rfl, by decide +kernel, rfl, by decide +kernel, by decide +kernel⟩
theorem co_refuse_boxes1 : CompOk (xB (top 31)) ["boxes", "name", "size"] (scAt (xC (top 31)) [1] [1]) ["name", "size"] 2 [] :=
 ⟨by decide +kernel, by decide +kernel, by decide +kernel, by decide +kernel, by decide +kernel, by decide +kernel, by decide +kernel, by decide +kernel⟩
noncomputable def spRBoxes : Sp := fun vs H Q _ => ∃ (bx : Addr) (bs : List (Str × Int)) (us : List V), vs = [.ref bx] ∧ H bx = some (.lst us) ∧ Paired (BoxIn H) bs us ∧ 1 ≤ bs.length ∧ bs.length ≤ 1000 ∧ (∀ b ∈ bs, 2 ≤ b.2 ∧ b.2 ≤ 5) ∧ Named (bs.map (·.1)) ∧ ∀ H', Same H H' → Q .non H'
theorem dn_rboxes (F : Fd K mg "refuse_boxes" (top 31) ["boxes"]) (B : Bl mg) (D_refuse_twice : Dn P w K mg base "refuse_twice" 1 ["names", "kind"] spTwice) (D_is_whole : Dn P w K mg base "is_whole" 1 ["thing"] spWhole)
  (GL_LEAST_SIZE : Gi mg "LEAST_SIZE" 2) (GL_GREATEST_SIZE : Gi mg "GREATEST_SIZE" 5) (GL_WORDS_OF_CONDITIONS : Gs K mg "WORDS_OF_CONDITIONS" ["not", "and", "yes"]) : Dn P w K mg base "refuse_boxes" 2 ["boxes"] spRBoxes := by
 refine F.ok sc_refuse_boxes (fun vs H Q E h => ?_) (fun f cdv A outer s H vs Q E hr h => ?_)
 ·obtain ⟨_, _, _, rfl, _⟩ := h
  rfl
 obtain ⟨bx, bs, us, rfl, ebx, pb, h1, h1000, h25, nmd, q⟩ := h
 have lb : us.length = bs.length := pb.length.symm
 refine ⟨_, (qZ (ps_if (qS op_eq (xJ (call_lenK (K := K)) rfl B.len' bt_len (qQ (pv 0) qX)) qF (xE _)) (qJ ps_never) qY)
  (qZ (qR (qD D_refuse_twice hr (qQ (pe_comp rfl co_refuse_boxes1 (xQ (K := K) (pv 0)) (fun cl fp s H => (pg_tupK (K := K) (n := 2) rfl (qI (qH (i := 0) co_refuse_boxes1.nd rfl (Or.inl rfl) (.inr rfl)) (qI (qH (i := 1) co_refuse_boxes1.nd rfl (Or.inl rfl) (.inr rfl)) qM)))) (fun cl fp s H => pts_nil) (fun cl fp s H => (pv 0))) (qQ qG qX))))
  (qJ (ps_for PassesOwn.never rfl (xQ (K := K) (pv 0)) (pg_tupK (K := K) (n := 2) rfl (qI (qH (i := 1) sc_refuse_boxes.nd rfl (by wtm_at "zo")) (qI (qH (i := 2) sc_refuse_boxes.nd rfl (by wtm_at "zo")) qM))) (qZ (ps_if (qS (op_inK (K := K)) (pv 1) (pe_gs GL_WORDS_OF_CONDITIONS) (by with_unfolding_all rfl)) (qJ ps_never) qY)
  (qJ (ps_if (PW.pt (pw_or (pt_not (pt_val (qD D_is_whole hr (qQ (pv 2) qX)))) (pw_or (qS op_lt (pv 2) (pe_gi GL_LEAST_SIZE) (xE _)) (pw_or1 (qS op_gt (pv 2) (pe_gi GL_GREATEST_SIZE) (xE _)))))) (qJ ps_never) qY))))))), ?_⟩
 wtm_at "zw"
 refine w_false (decide_eq_false (by intro z; injection z with z; omega)) ?_
 wtm_at "zw"
 refine ⟨_, rfl, bx, rfl, ⟨us, SqL.of ebx⟩, names_read ebx pb h1000 fun D H1 S1 eD => ?_⟩
 wtm_at "zw"
 refine ⟨D, _, _, rfl, eD, nmd.nd, by rw [List.length_map]; omega, fun H2 S2 => ?_⟩
 have S12 := S1.trans S2
 wtm_at "zw"
 refine ⟨_, rfl, bx, rfl, ⟨us, SqL.of (S12 _ _ ebx)⟩, ?_⟩
 refine for_listN (xs := us) (fun i σ' H' => ∃ z1 z2 : Option V, σ' = [some (.ref bx), z1, z2] ∧ H' = H2) ⟨none, none, rfl, rfl⟩ (fun i σ' H' _ hP => ?_) (fun N rt bk i x σ' H' ex hP hN => ?_) (fun σ' H' hP => ?_)
 ·obtain ⟨z1, z2, rfl, rfl⟩ := hP
  exact SqL.of (S12 _ _ ebx)
 ·obtain ⟨z1, z2, rfl, rfl⟩ := hP
  obtain ⟨b, eb⟩ : ∃ b, bs[i]? = some b := ⟨_, List.getElem?_eq_getElem (by rw [← lb]; exact (List.getElem?_eq_some_iff.mp ex).1)⟩
  obtain ⟨ba, rfl, hba⟩ := xV pb eb ex
  have hb25 := h25 b (List.mem_of_getElem? eb)
  have hno := nmd.no b.1 (List.mem_map.mpr ⟨b, List.mem_of_getElem? eb, rfl⟩)
  refine ⟨ba, _, rfl, SqT.of (S12 _ _ hba), rfl, _, _, rfl, _, _, rfl, rfl, ?_⟩
  wtm_at "zw"
  intro p sq
  refine ⟨p, _, rfl, .inr sq, rfl, flat_strs _, ?_⟩
  wtm_at "zw"
  rw [if_neg Bool.false_ne_true, inV_strs, decide_eq_false (p := b.1 ∈ ([("not" : Str), "and", "yes"] : List Str)) hno]
  refine iteF ?_
  wtm_at "zw"
  refine ⟨b.2, rfl, ?_⟩
  wtm_at "zw"
  refine w_false (decide_eq_false (by omega)) ?_
  wtm_at "zw"
  refine w_false (decide_eq_false (by omega)) ?_
  exact hN _ _ ⟨_, _, rfl, rfl⟩
 ·obtain ⟨z1, z2, rfl, rfl⟩ := hP
  exact q _ S12
theorem sc_refuse_ways : FnScope ["deed_name", "ways", "names", "way", "name", "expression"] ["deed_name", "ways", "names"] (xB (top 34)) := ⟨rfl, rfl, rfl, by decide +kernel, rfl, by decide +kernel, by decide +kernel⟩
theorem co_refuse_ways1 : CompOk (xB (top 34)) ["deed_name", "ways", "names", "way", "name", "expression"] (scAt (xC (top 34)) [1, 0] [1]) ["name", "expression"] 2 [] :=
 ⟨by decide +kernel, by decide +kernel, by decide +kernel, by decide +kernel, by decide +kernel, by decide +kernel, by decide +kernel, by decide +kernel⟩
noncomputable def spWays : Sp := fun vs H Q _ => ∃ (x : V) (wa nl : Addr) (us : List V) (ws : List Str) (wys : List (List (Str × Th))), vs = [x, .ref wa, .ref nl] ∧ H wa = some (.lst us) ∧ Paired (WayIn H) wys us ∧ wys ≠ [] ∧ wys.length ≤ 100 ∧ (∀ wy ∈ wys, WayOk ws wy) ∧
 H nl = some (.lst (strsV ws)) ∧ ∀ H', Same H H' → Q .non H'
theorem heads_read {σ : St} {H : Hp} {Q : VK} {wa : Addr} {us : List V} {wy : List (Str × Th)} (e1 : H wa = some (.lst us)) (p1 : Paired (ChangeIn H) wy us) (hl : wy.length ≤ 1000)
  (q : ∀ (D : Addr) (H' : Hp), Same H H' → H' D = some (.lst (strsV (wy.map (·.1)))) → Q (.ref D) H') :
  rdC 2 [] (gTup K 2 (gCons (gName 0) (gCons (gName 1) gNil))) tYes (tVar 0) (Itl K wa) σ H Q := by
 have lb : us.length = wy.length := p1.length.symm
 refine comp_list (xs := us) (fun D i ys H' => ys = strsV ((wy.take i).map (·.1)) ∧ ∀ b o, H b = some o → H' b = some o) (fun D hD => ⟨rfl, qV hD _⟩)
  (fun D i ys H' _ hP => (show Same H H' from hP.2).seq (SqL.of e1)) (fun D i x ys H' N hD hDy ex hP hN => ?_) (fun wd ys H2 hD hDy hP => ?_)
 ·obtain ⟨rfl, hk⟩ := hP
  obtain ⟨b, eb⟩ : ∃ b, wy[i]? = some b := ⟨_, List.getElem?_eq_getElem (by rw [← lb]; exact (List.getElem?_eq_some_iff.mp ex).1)⟩
  obtain ⟨ba, bv, rfl, hba, _⟩ := xV p1 eb ex
  refine ⟨ba, _, rfl, SqT.of (hk _ _ hba), rfl, _, _, rfl, _, _, rfl, rfl, ⟨[some (.str b.1), some bv], rfl, rfl⟩, ?_⟩
  refine ⟨_, rfl, hDy, ?_, hN _ _ qW ⟨?_, fun b o e => ?_⟩⟩
  ·rw [xA, List.length_map, List.length_take]; exact small (by omega)
  ·rw [List.take_add_one, eb, List.map_append, strsV_app]; rfl
  ·rw [qA (qB e hD)]; exact hk _ _ e
 obtain ⟨rfl, hk2⟩ := hP
 rw [lb, List.take_length] at hDy
 exact q wd H2 hk2 hDy
theorem dn_ways (F : Fd K mg "refuse_ways" (top 34) ["deed_name", "ways", "names"]) (B : Bl mg) (D_refuse_twice : Dn P w K mg base "refuse_twice" 1 ["names", "kind"] spTwice) (D_refuse_strange_name : Dn P w K mg base "refuse_strange_name" 1 ["name", "names"] spStrange1)
  (D_refuse_strange_names : Dn P w K mg base "refuse_strange_names" 14 ["thing", "names"] spStrange) : Dn P w K mg base "refuse_ways" 15 ["deed_name", "ways", "names"] spWays := by
 refine F.ok sc_refuse_ways (fun vs H Q E h => ?_) (fun f cdv A outer s H vs Q E hr h => ?_)
 ·obtain ⟨_, _, _, _, _, _, rfl, _⟩ := h
  rfl
 obtain ⟨x, wa, nl, us, ws, wys, rfl, ewa, pw, hne, hle, hok, hn, q⟩ := h
 have lw : us.length = wys.length := pw.length.symm
 have l1 := List.length_pos_iff.mpr hne
 refine ⟨_, (qZ (ps_if (qS op_eq (xJ (call_lenK (K := K)) rfl B.len' bt_len (qQ (pv 1) qX)) qF (xE _)) (qJ ps_never) qY)
  (qJ (ps_for PassesOwn.never rfl (xQ (K := K) (pv 1)) (qH (i := 3) sc_refuse_ways.nd rfl (by wtm_at "zo")) (qZ (qR (qD D_refuse_twice hr (qQ (pe_comp rfl co_refuse_ways1 (xQ (K := K) (pv 3)) (fun cl fp s H => (pg_tupK (K := K) (n := 2) rfl (qI (qH (i := 0) co_refuse_ways1.nd rfl (Or.inl rfl) (.inr rfl)) (qI (qH (i := 1) co_refuse_ways1.nd rfl (Or.inl rfl) (.inr rfl)) qM)))) (fun cl fp s H => pts_nil) (fun cl fp s H => (pv 0))) (qQ qG qX))))
  (qJ (ps_for PassesOwn.never rfl (xQ (K := K) (pv 3)) (pg_tupK (K := K) (n := 2) rfl (qI (qH (i := 4) sc_refuse_ways.nd rfl (by wtm_at "zo")) (qI (qH (i := 5) sc_refuse_ways.nd rfl (by wtm_at "zo")) qM))) (qZ (qR (qD D_refuse_strange_name hr (qQ (pv 4) (qQ (pv 2) qX))))
  (qJ (qR (qD D_refuse_strange_names hr (qQ (pv 5) (qQ (pv 2) qX)))))))))))), ?_⟩
 wtm_at "zw"
 refine w_false (decide_eq_false (by intro z; injection z with z; omega)) ?_
 wtm_at "zw"
 refine ⟨_, rfl, wa, rfl, ⟨us, SqL.of ewa⟩, ?_⟩
 refine for_listN (xs := us) (fun i σ' H' => ∃ z1 z2 z3 : Option V, σ' = [some x, some (.ref wa), some (.ref nl), z1, z2, z3] ∧ Same H H') ⟨none, none, none, rfl, Same.refl _⟩ (fun i σ' H' _ hP => ?_) (fun N rt bk i u σ' H' ex hP hN => ?_) (fun σ' H' hP => ?_)
 ·obtain ⟨_, _, _, rfl, S⟩ := hP
  exact SqL.of (S _ _ ewa)
 ·obtain ⟨z1, z2, z3, rfl, S1⟩ := hP
  obtain ⟨wy, ewy⟩ : ∃ b, wys[i]? = some b := ⟨_, List.getElem?_eq_getElem (by rw [← lw]; exact (List.getElem?_eq_some_iff.mp ex).1)⟩
  obtain ⟨ya, cs, rfl, eya, pc⟩ := xV pw ewy ex
  have wok := hok wy (List.mem_of_getElem? ewy)
  have lc : cs.length = wy.length := pc.length.symm
  have wle := wok.le
  wtm_at "zw"
  refine ⟨_, rfl, ya, rfl, ⟨cs, SqL.of (S1 _ _ eya)⟩, heads_read (S1 _ _ eya) (Paired.mapP pc fun _ _ y => y.same S1) (by omega) fun D H2 S2 eD => ?_⟩
  wtm_at "zw"
  refine ⟨D, _, _, rfl, eD, wok.nd, by rw [List.length_map]; omega, fun H3 S3 => ?_⟩
  have S13 := S1.trans (S2.trans S3)
  wtm_at "zw"
  refine ⟨_, rfl, ya, rfl, ⟨cs, SqL.of (S13 _ _ eya)⟩, ?_⟩
  refine for_listN (xs := cs) (fun j σ'' H'' => ∃ z2 z3 : Option V, σ'' = [some x, some (.ref wa), some (.ref nl), some (.ref ya), z2, z3] ∧ Same H H'') ⟨z2, z3, rfl, S13⟩ (fun j σ'' H'' _ hP => ?_) (fun N2 rt2 bk2 j u σ'' H'' ex2 hP hN2 => ?_) (fun σ'' H'' hP => ?_)
  ·obtain ⟨_, _, rfl, S⟩ := hP
   exact SqL.of (S _ _ eya)
  ·obtain ⟨z2, z3, rfl, S4⟩ := hP
   obtain ⟨c, ec⟩ : ∃ b, wy[j]? = some b := ⟨_, List.getElem?_eq_getElem (by rw [← lc]; exact (List.getElem?_eq_some_iff.mp ex2).1)⟩
   obtain ⟨ca, cv, rfl, eca, cat⟩ := xV pc ec ex2
   obtain ⟨o1, o2, o3⟩ := wok.ok c (List.mem_of_getElem? ec)
   refine ⟨ca, _, rfl, SqT.of (S4 _ _ eca), rfl, _, _, rfl, _, _, rfl, rfl, ?_⟩
   wtm_at "zw"
   refine ⟨c.1, nl, ws, rfl, S4 _ _ hn, o1, ?_⟩
   wtm_at "zw"
   refine ⟨c.2, cv, nl, ws, rfl, cat.mono (qC S4), o2.ok, o3, S4 _ _ hn, o2.in, fun H5 S5 => ?_⟩
   exact hN2 _ _ ⟨_, _, rfl, S4.trans S5⟩
  ·obtain ⟨z2, z3, rfl, S4⟩ := hP
   exact hN _ _ ⟨_, _, _, rfl, S4⟩
 ·obtain ⟨_, _, _, rfl, S1⟩ := hP
  exact q _ S1
theorem sc_refuse_begin : FnScope ["begin", "boxes", "standing"] ["begin", "boxes"] (xB (top 37)) := ⟨rfl, rfl, rfl, by decide +kernel, rfl, by decide +kernel, by decide +kernel⟩
noncomputable def spBegin : Sp := fun vs H Q _ => ∃ (t : Th) (v : V) (bx : Addr) (bs : List (Str × Int)) (us : List V), vs = [v, .ref bx] ∧ t.At H v ∧ Cond' (bs.map (·.1)) t ∧ t.dep ≤ 12 ∧ H bx = some (.lst us) ∧ Paired (BoxIn H) bs us ∧ bs.length ≤ 6 ∧ (∀ b ∈ bs, 2 ≤ b.2 ∧ b.2 ≤ 5) ∧
 (∃ vals ∈ allV bs, t.truth (envOf (kvsOf bs vals)) = true) ∧ ∀ H', Same H H' → Q .non H'
theorem dn_begin (F : Fd K mg "refuse_begin" (top 37) ["begin", "boxes"]) (D_standings_of_boxes : Dn P w K mg base "standings_of_boxes" 1 ["boxes"] spStands) (D_holds : Dn P w K mg base "holds" 26 ["condition", "boxes", "standing"] spHolds) :
  Dn P w K mg base "refuse_begin" 27 ["begin", "boxes"] spBegin := by
 refine F.ok sc_refuse_begin (fun vs H Q E h => ?_) (fun f cdv A outer s H vs Q E hr h => ?_)
 ·obtain ⟨_, _, _, _, _, rfl, _⟩ := h
  rfl
 obtain ⟨t, v, bx, bs, us, rfl, at', cx, dp, ebx, pb, h6, h25, ⟨vals0, hv0, ht0⟩, q⟩ := h
 refine ⟨_, (qZ (ps_for PassesOwn.never rfl (xQ (K := K) (qD D_standings_of_boxes hr (qQ (pv 1) qX))) (qH (i := 2) sc_refuse_begin.nd rfl (by wtm_at "zo")) (qJ (ps_if (pt_val (qD D_holds hr (qQ (pv 0) (qQ (pv 1) (qQ (pv 2) qX))))) (qJ ps_retN) qY)))
  (qJ ps_never)), ?_⟩
 wtm_at "zf"
 refine ⟨bx, bs, us, rfl, ebx, pb, h6, h25, fun r ss H1 nr S1 er pr => ?_⟩
 have lr := pr.length
 refine ⟨r, rfl, ⟨ss, SqL.of er⟩, ?_⟩
 refine for_list (xs := ss) (fun i σ' H' => ∃ z : Option V, σ' = [some v, some (.ref bx), z] ∧ Same H1 H' ∧ ∀ x ∈ (allV bs).take i, t.truth (envOf (kvsOf bs x)) = false) ⟨none, rfl, Same.refl _, fun x hx => by cases hx⟩
  (fun i σ' H' _ hP => ?_) (fun i x σ' H' ex hP => ?_) (fun σ' H' hP => ?_)
 ·obtain ⟨_, rfl, S, _⟩ := hP
  exact SqL.of (S _ _ er)
 ·obtain ⟨z, rfl, S2, hno⟩ := hP
  obtain ⟨vals, ev⟩ : ∃ b, (allV bs)[i]? = some b := ⟨_, List.getElem?_eq_getElem (by rw [lr]; exact (List.getElem?_eq_some_iff.mp ex).1)⟩
  obtain ⟨st, rfl, est⟩ := xV pr ev ex
  have S12 := S1.trans S2
  have fv := allV_ok (List.mem_of_getElem? ev)
  wtm_at "zw"
  refine ⟨t, v, bx, st, bs, vals, rfl, at'.mono (qC S12), cx, dp, ⟨⟨us, S12 _ _ ebx, xK (qC S12) pb⟩, S2 _ _ est, fv.stands h25, by omega⟩, fun H3 S3 => ?_⟩
  wtm_at "zw"
  cases e : t.truth (envOf (kvsOf bs vals)) with
  | true =>
   refine iteT ?_
   exact q _ (S12.trans S3)
  | false =>
   refine iteF ?_
   refine ⟨_, rfl, S2.trans S3, fun x hx => ?_⟩
   rw [List.take_add_one, ev] at hx
   rcases List.mem_append.mp hx with h | h
   ·exact hno x h
   ·have h : x ∈ [vals] := h
    rw [List.mem_singleton.mp h]; exact e
 ·obtain ⟨z, rfl, S2, hno⟩ := hP
  rw [← lr, List.take_length] at hno
  rw [hno vals0 hv0] at ht0
  cases ht0

noncomputable def LstIn (ok : Addr → Prop) (H : Hp) (cs : List V) (u : V) : Prop := ∃ l, u = .ref l ∧ ok l ∧ H l = some (.lst cs)
noncomputable def DeedAt (ok : Addr → Prop) (H : Hp) (x : Str) (p : Int) (dc : V × List (List V)) (u : V) : Prop := ∃ a wa us, u = .ref a ∧ H a = some (.tup [.str x, .int p, dc.1, .ref wa]) ∧ ok wa ∧ H wa = some (.lst us) ∧ Paired (LstIn ok H) dc.2 us
noncomputable def DeedDat (H : Hp) (d : Deed) (dc : V × List (List V)) : Prop := d.need.At H dc.1 ∧ Paired (fun wy cs => Paired (ChangeIn H) wy cs) d.ways dc.2
theorem LstIn.move {ok ok' : Addr → Prop} {H H' : Hp} (h : ∀ b o, ok b → H b = some o → H' b = some o) (i : ∀ b, ok b → ok' b) {cs : List V} {u : V} (x : LstIn ok H cs u) : LstIn ok' H' cs u := let ⟨l, e, o, q⟩ := x; ⟨l, e, i l o, h l _ o q⟩
theorem DeedAt.move {ok ok' : Addr → Prop} {H H' : Hp} (h : ∀ b o, ok b → H b = some o → H' b = some o) (t : Tups H H') (i : ∀ b, ok b → ok' b) {x : Str} {p : Int} {dc : V × List (List V)} {u : V} (z : DeedAt ok H x p dc u) : DeedAt ok' H' x p dc u :=
 let ⟨a, wa, us, e, q, o, q2, r⟩ := z; ⟨a, wa, us, e, t _ _ q, i wa o, h wa _ o q2, Paired.mapP r fun _ _ y => y.move h i⟩
theorem paired_split {H : Hp} {wys : List (List (Str × Th))} {us : List V} (p : Paired (WayIn H) wys us) : ∃ css, Paired (fun wy cs => Paired (ChangeIn H) wy cs) wys css ∧ Paired (LstIn (fun _ => True) H) css us := by
 induction p with
 | nil => exact ⟨[], .nil, .nil⟩
 | cons h _ ih =>
  obtain ⟨a, cs, e, q, r⟩ := h
  obtain ⟨css, h1, h2⟩ := ih
  exact ⟨cs :: css, .cons r h1, .cons ⟨a, e, trivial, q⟩ h2⟩
theorem paired_join {ok : Addr → Prop} {H : Hp} {wys : List (List (Str × Th))} {css : List (List V)} {us : List V} (p : Paired (fun wy cs => Paired (ChangeIn H) wy cs) wys css) (h : Paired (LstIn ok H) css us) : Paired (WayIn H) wys us := by
 induction p generalizing us with
 | nil => cases h; exact .nil
 | cons r _ ih =>
  cases h with
  | cons x t =>
   obtain ⟨l, e, _, q⟩ := x
   exact .cons ⟨l, _, e, q, r⟩ (ih t)
theorem deed_split {H : Hp} {d : Deed} {u : V} (h : DeedIn H d u) : ∃ dc, DeedDat H d dc ∧ DeedAt (fun _ => True) H d.name d.price dc u := by
 obtain ⟨a, nv, wa, us, e, q, r, q2, p⟩ := h
 obtain ⟨css, h1, h2⟩ := paired_split p
 exact ⟨(nv, css), ⟨r, h1⟩, a, wa, us, e, q, trivial, q2, h2⟩
theorem deed_join {ok : Addr → Prop} {H : Hp} {d : Deed} {dc : V × List (List V)} {u : V} (h1 : DeedDat H d dc) (h2 : DeedAt ok H d.name d.price dc u) : DeedIn H d u := by
 obtain ⟨a, wa, us, e, q, _, q2, p⟩ := h2
 exact ⟨a, dc.1, wa, us, e, q, h1.1, q2, paired_join h1.2 p⟩
theorem deeds_split {H : Hp} {ds : List Deed} {us : List V} (p : Paired (DeedIn H) ds us) : ∃ ps : List (Deed × V × List (List V)), ps.map (·.1) = ds ∧ (∀ p ∈ ps, DeedDat H p.1 p.2) ∧ Paired (fun p u => DeedAt (fun _ => True) H p.1.name p.1.price p.2 u) ps us := by
 induction p with
 | nil => exact ⟨[], rfl, (fun p hp => by cases hp), .nil⟩
 | cons h t ih =>
  obtain ⟨ps, e, h1, h2⟩ := ih
  obtain ⟨dc, h3, h4⟩ := deed_split h
  refine ⟨(_, dc) :: ps, by rw [List.map_cons, e], fun p hp => ?_, .cons h4 h2⟩
  rcases List.mem_cons.mp hp with rfl | hp
  ·exact h3
  ·exact h1 p hp
theorem deeds_join {ok : Addr → Prop} {H : Hp} {ps : List (Deed × V × List (List V))} {us : List V} (h : ∀ p ∈ ps, DeedDat H p.1 p.2) (t : Paired (fun p u => DeedAt ok H p.1.name p.1.price p.2 u) ps us) : Paired (DeedIn H) (ps.map (·.1)) us := by
 induction t with
 | nil => exact .nil
 | cons x t ih => exact .cons (deed_join (h _ List.mem_cons_self) x) (ih fun p hp => h p (List.mem_cons_of_mem _ hp))
theorem changes_refs {H : Hp} {wy : List (Str × Th)} {cs : List V} (p : Paired (ChangeIn H) wy cs) : ∀ (j : Nat) x, cs[j]? = some x → ∃ y, x = .ref y := fun j x ex => by
 obtain ⟨b, eb⟩ : ∃ b, wy[j]? = some b := ⟨_, List.getElem?_eq_getElem (by rw [p.length]; exact (List.getElem?_eq_some_iff.mp ex).1)⟩
 obtain ⟨y, _, ey, _⟩ := xV p eb ex
 exact ⟨y, ey⟩
noncomputable def Refs (us : List V) : Prop := ∀ (j : Nat) x, us[j]? = some x → ∃ y, x = .ref y
theorem Refs.same {H : Hp} {us : List V} {n : Nat} (h : Refs us) : ∀ (j : Nat) x y, us[j]? = some x → us[j]? = some y → DEq K H n x y := fun j x y e1 e2 => by
 rw [e1] at e2
 cases e2
 obtain ⟨y, rfl⟩ := h j x e1
 exact .same y
theorem At.ref {H : Hp} {t : Th} {v : V} (h : t.At H v) : ∃ a, v = .ref a := by
 cases t with
 | num _ => obtain ⟨a, e, _⟩ := h; exact ⟨a, e⟩
 | box _ => obtain ⟨a, e, _⟩ := h; exact ⟨a, e⟩
 | nul _ => obtain ⟨a, e, _⟩ := h; exact ⟨a, e⟩
 | un _ _ => obtain ⟨a, _, e, _⟩ := h; exact ⟨a, e⟩
 | bin _ _ _ => obtain ⟨a, _, _, e, _⟩ := h; exact ⟨a, e⟩
theorem deq_at {H H' : Hp} {t : Th} {v : V} {n : Nat} (h : t.At H v) : DEq K H' n v v := by
 obtain ⟨a, rfl⟩ := At.ref h
 exact .same a
theorem lists_deq {ok ok' : Addr → Prop} {H : Hp} {css : List (List V)} {us us' : List V} (rf : ∀ cs ∈ css, Refs cs) (p1 : Paired (LstIn ok H) css us) (p2 : Paired (LstIn ok' H) css us') : ∀ (j : Nat) x y, us[j]? = some x → us'[j]? = some y → DEq K H 1 x y := fun j x y e1 e2 => by
 obtain ⟨cs, ec⟩ : ∃ b, css[j]? = some b := ⟨_, List.getElem?_eq_getElem (by rw [p1.length]; exact (List.getElem?_eq_some_iff.mp e1).1)⟩
 obtain ⟨l, rfl, _, h1⟩ := xV p1 ec e1
 obtain ⟨l', rfl, _, h2⟩ := xV p2 ec e2
 exact .lst (SqL.of h1) (SqL.of h2) rfl (rf cs (List.mem_of_getElem? ec)).same
theorem idx4 {C : V → V → Prop} {a b c d a' b' c' d' : V} (h0 : C a a') (h1 : C b b') (h2 : C c c') (h3 : C d d') (j : Nat) (x y : V) (e1 : [a, b, c, d][j]? = some x) (e2 : [a', b', c', d'][j]? = some y) : C x y := by
 cases j with
 | zero => cases e1; cases e2; exact h0
 | succ j =>
  cases j with
  | zero => cases e1; cases e2; exact h1
  | succ j =>
   cases j with
   | zero => cases e1; cases e2; exact h2
   | succ j =>
    cases j with
    | zero => cases e1; cases e2; exact h3
    | succ j => cases e1
theorem deed_deq {ok ok' : Addr → Prop} {H H0 : Hp} {d : Deed} {dc : V × List (List V)} {u u' : V} (h : DeedDat H0 d dc) (h1 : DeedAt ok H d.name d.price dc u) (h2 : DeedAt ok' H d.name d.price dc u') : DEq K H 3 u u' := by
 obtain ⟨a, wa, us, rfl, q, _, q2, p⟩ := h1
 obtain ⟨a', wa', us', rfl, q', _, q2', p'⟩ := h2
 have rf : ∀ cs ∈ dc.2, Refs cs := fun cs hc => by
  obtain ⟨j, hj⟩ := List.mem_iff_getElem?.mp hc
  obtain ⟨wy, ew⟩ : ∃ b, d.ways[j]? = some b := ⟨_, List.getElem?_eq_getElem (by rw [h.2.length]; exact (List.getElem?_eq_some_iff.mp hj).1)⟩
  exact changes_refs (xV h.2 ew hj)
 exact .tup (SqT.of q) (SqT.of q') rfl (idx4 (.str _) (.int _) (deq_at h.1) (.lst (SqL.of q2) (SqL.of q2') (by rw [← p.length, ← p'.length]) (lists_deq rf p p')))
theorem _root_.L2.DEq.same' {H H' : Hp} (s : Same H H') {n : Nat} {x y : V} (h : DEq K H n x y) : DEq K H' n x y := by
 induction h with
 | int i => exact .int i
 | str i => exact .str i
 | bl i => exact .bl i
 | non => exact .non
 | same a => exact .same a
 | lst h1 h2 hl _ ih => exact .lst (s.seq h1) (s.seq h2) hl ih
 | tup h1 h2 hl _ ih => exact .tup (Same.tup s h1) (Same.tup s h2) hl ih
theorem DeedDat.same {H H' : Hp} (s : Same H H') {d : Deed} {dc : V × List (List V)} (h : DeedDat H d dc) : DeedDat H' d dc := ⟨h.1.mono (qC s), Paired.mapP h.2 fun _ _ y => Paired.mapP y fun _ _ z => z.same s⟩
theorem sc_copied_deed : FnScope ["deed"] ["deed"] (xB (top 29)) := ⟨rfl, rfl, rfl, by decide +kernel, rfl, by decide +kernel, by decide +kernel⟩
theorem co_copied_deed1 : CompOk (xB (top 29)) ["deed"] (scAt (xC (top 29)) [0] [3]) ["way"] 1 [] :=
 ⟨by decide +kernel, by decide +kernel, by decide +kernel, by decide +kernel, by decide +kernel, by decide +kernel, by decide +kernel, by decide +kernel⟩
noncomputable def spCopied : Sp := fun vs H Q _ => ∃ (u : V) (x : Str) (p : Int) (dc : V × List (List V)), vs = [u] ∧ DeedAt (fun _ => True) H x p dc u ∧ dc.2.length ≤ 100 ∧
 ∀ (y : V) (H' : Hp), Same H H' → DeedAt (fun b => H b = none) H' x p dc y → Q y H'
theorem dn_copied (F : Fd K mg "copied_deed" (top 29) ["deed"]) (B : Bl mg) : Dn P w K mg base "copied_deed" 1 ["deed"] spCopied := by
 refine F.ok sc_copied_deed (fun vs H Q E h => ?_) (fun f cdv A outer s H vs Q E hr h => ?_)
 ·obtain ⟨_, _, _, _, rfl, _⟩ := h
  rfl
 obtain ⟨u, x, p, dc, rfl, ⟨a, wa, us, rfl, ea, _, ewa, pus⟩, hl, q⟩ := h
 refine ⟨_, (qJ (qO (pe_tup (qQ (pe_ix (qT (K := K)) (pv 0) qF (fun _ _ => rfl)) (qQ (pe_ix (qT (K := K)) (pv 0) qF (fun _ _ => rfl)) (qQ (pe_ix (qT (K := K)) (pv 0) qF (fun _ _ => rfl)) (qQ (pe_comp rfl co_copied_deed1 (xQ (K := K) (pe_ix (qT (K := K)) (pv 0) qF (fun _ _ => rfl))) (fun cl fp s H => (qH (i := 0) co_copied_deed1.nd rfl (Or.inl rfl) (.inr rfl))) (fun cl fp s H => pts_nil) (fun cl fp s H => (xZ (call_listK (K := K)) rfl B.list' bt_list (qQ (pv 0) qX)))) qX))))))), ?_⟩
 wtm_at "zf"
 refine ⟨wa, rfl, ⟨us, SqL.of ewa⟩, ?_⟩
 have lu := pus.length
 refine comp_list (xs := us) (fun D i ys H' => Paired (LstIn (fun b => H b = none ∧ b ≠ D) H') (dc.2.take i) ys ∧ ∀ b o, H b = some o → H' b = some o) (fun D hD => ⟨.nil, qV hD _⟩)
  (fun D i ys H' _ hP => (show Same H H' from hP.2).seq (SqL.of ewa)) (fun D i x ys H' N hD hDy ex hP hN => ?_) (fun D ys H2 hD hDy hP => ?_)
 ·obtain ⟨pl, hk⟩ := hP
  have hi : i < dc.2.length := by rw [lu]; exact (List.getElem?_eq_some_iff.mp ex).1
  obtain ⟨cs, ec⟩ : ∃ b, dc.2[i]? = some b := ⟨_, List.getElem?_eq_getElem hi⟩
  obtain ⟨l0, rfl, _, el0⟩ := xV pus ec ex
  have ll := pl.length
  rw [List.length_take] at ll
  refine ⟨⟨[some (.ref l0)], rfl, rfl⟩, ?_⟩
  refine ⟨_, rfl, l0, cs, rfl, .inl (SqL.of (hk _ _ el0)), fun l hl' => ?_⟩
  have Dl : D ≠ l := qB hDy hl'
  refine ⟨by rw [qA Dl]; exact hDy, small (by omega), hN _ _ qW ⟨?_, fun b o e => ?_⟩⟩
  ·rw [List.take_add_one, ec]
   refine Paired.snoc (Paired.mapP pl fun _ _ z => z.move (fun b o ok e => ?_) fun _ z => z) ⟨l, rfl, ⟨(show Same H H' from hk).free hl', Ne.symm Dl⟩, by rw [qA (Ne.symm Dl)]; exact qW⟩
   rw [qA ok.2, qA (qB e hl')]; exact e
  ·rw [qA (qB e hD), qA (qB (hk _ _ e) hl')]; exact hk _ _ e
 obtain ⟨pl, hk⟩ := hP
 rw [← lu, List.take_length] at pl
 refine ⟨(by show 4 ≤ sizeLine; decide), fun t ht => ?_⟩
 have S2 : Same H (upd H2 t (.tup [.str x, .int p, dc.1, .ref D])) := (show Same H H2 from hk).trans (qV ht _)
 refine q (.ref t) _ S2 ⟨t, D, ys, rfl, qW, hD, qV ht _ _ _ hDy, Paired.mapP pl fun _ _ z => z.move (fun b o _ e => qV ht _ _ _ e) fun _ z => z.1⟩
theorem sc_world_of : FnScope ["boxes", "deeds", "looks", "begin", "goal", "names", "name", "price", "need", "ways", "expression"] ["boxes", "deeds", "looks", "begin", "goal"] (xB (top 23)) := ⟨rfl, rfl, rfl, by decide +kernel, rfl, by decide +kernel, by decide +kernel⟩
theorem co_world_of1 : CompOk (xB (top 23)) ["boxes", "deeds", "looks", "begin", "goal", "names", "name", "price", "need", "ways", "expression"] (scAt (xC (top 23)) [1] [1, 0]) ["deed"] 1 [] :=
 ⟨by decide +kernel, by decide +kernel, by decide +kernel, by decide +kernel, by decide +kernel, by decide +kernel, by decide +kernel, by decide +kernel⟩
theorem co_world_of2 : CompOk (xB (top 23)) ["boxes", "deeds", "looks", "begin", "goal", "names", "name", "price", "need", "ways", "expression"] (scAt (xC (top 23)) [1] [1, 1]) ["look"] 1 [] :=
 ⟨by decide +kernel, by decide +kernel, by decide +kernel, by decide +kernel, by decide +kernel, by decide +kernel, by decide +kernel, by decide +kernel⟩
theorem co_world_of3 : CompOk (xB (top 23)) ["boxes", "deeds", "looks", "begin", "goal", "names", "name", "price", "need", "ways", "expression"] (scAt (xC (top 23)) [2] []) ["name", "size"] 2 [] :=
 ⟨by decide +kernel, by decide +kernel, by decide +kernel, by decide +kernel, by decide +kernel, by decide +kernel, by decide +kernel, by decide +kernel⟩
theorem co_world_of4 : CompOk (xB (top 23)) ["boxes", "deeds", "looks", "begin", "goal", "names", "name", "price", "need", "ways", "expression"] (scAt (xC (top 23)) [8] [1]) ["deed"] 1 [] :=
 ⟨by decide +kernel, by decide +kernel, by decide +kernel, by decide +kernel, by decide +kernel, by decide +kernel, by decide +kernel, by decide +kernel⟩
structure Told (K : PySem.W.Frag) (H : Hp) (bx dx lx bx' dx' lx' : Addr) : Prop where
 boxes : DEq K H 4 (.ref bx') (.ref bx)
 deeds : DEq K H 4 (.ref dx') (.ref dx)
 looks : DEq K H 4 (.ref lx') (.ref lx)
theorem Told.same {H H' : Hp} (s : Same H H') {bx dx lx bx' dx' lx' : Addr} (t : Told K H bx dx lx bx' dx' lx') : Told K H' bx dx lx bx' dx' lx' := ⟨t.boxes.same' s, t.deeds.same' s, t.looks.same' s⟩
noncomputable def spWorldOf (K : PySem.W.Frag) : Sp := fun vs H Q _ => ∃ (W : Wd) (bx dx lx : Addr) (bv gv : V), vs = [.ref bx, .ref dx, .ref lx, bv, gv] ∧ WAt H W bx dx lx bv gv ∧ WOk W ∧
 ∀ (p bx' dx' lx' : Addr) (H' : Hp), Same H H' → H' p = some (.tup [.ref bx', .ref dx', .ref lx', bv, gv]) → WAt H' W bx' dx' lx' bv gv → Told K H' bx dx lx bx' dx' lx' → Q (.ref p) H'
theorem firsts_read {σ : St} {H : Hp} {Q : VK} {la : Addr} {us : List V} {xs : List Str} (e1 : H la = some (.lst us)) (p1 : Paired (fun x u => ∃ a ys, u = .ref a ∧ H a = some (.tup (.str x :: ys))) xs us) (hl : xs.length ≤ 1000)
  (q : ∀ (D : Addr) (H' : Hp), H D = none → Same H H' → H' D = some (.lst (strsV xs)) → Q (.ref D) H') :
  rdC 1 [] (gName 0) tYes (tOp (rIxT K) (tVar 0) (tC (.int 0))) (Itl K la) σ H Q := by
 have lb : us.length = xs.length := p1.length.symm
 refine comp_list (xs := us) (fun D i ys H' => ys = strsV (xs.take i) ∧ ∀ b o, H b = some o → H' b = some o) (fun D hD => ⟨rfl, qV hD _⟩)
  (fun D i ys H' _ hP => (show Same H H' from hP.2).seq (SqL.of e1)) (fun D i x ys H' N hD hDy ex hP hN => ?_) (fun wd ys H2 hD hDy hP => ?_)
 ·obtain ⟨rfl, hk⟩ := hP
  obtain ⟨b, eb⟩ : ∃ b, xs[i]? = some b := ⟨_, List.getElem?_eq_getElem (by rw [← lb]; exact (List.getElem?_eq_some_iff.mp ex).1)⟩
  obtain ⟨ba, zs, rfl, hba⟩ := xV p1 eb ex
  refine ⟨⟨[some (.ref ba)], rfl, rfl⟩, ?_⟩
  refine ⟨_, rfl, ba, _, 0, .str b, rfl, rfl, SqT.of (hk _ _ hba), at_head _ _, hDy, ?_, hN _ _ qW ⟨?_, fun b o e => ?_⟩⟩
  ·rw [xA, List.length_take]; exact small (by omega)
  ·rw [List.take_add_one, eb, strsV_app]; rfl
  ·rw [qA (qB e hD)]; exact hk _ _ e
 obtain ⟨rfl, hk2⟩ := hP
 rw [lb, List.take_length] at hDy
 exact q wd H2 hD hk2 hDy
theorem deed_firsts {H : Hp} {ds : List Deed} {us : List V} (p : Paired (DeedIn H) ds us) : Paired (fun x u => ∃ a ys, u = .ref a ∧ H a = some (.tup (.str x :: ys))) (ds.map Deed.name) us := by
 induction p with
 | nil => exact .nil
 | cons h _ ih =>
  obtain ⟨a, _, _, _, e, q, _⟩ := h
  exact .cons ⟨a, _, e, q⟩ ih
theorem look_firsts {H : Hp} {ds : List Look} {us : List V} (p : Paired (LookIn H) ds us) : Paired (fun x u => ∃ a ys, u = .ref a ∧ H a = some (.tup (.str x :: ys))) (ds.map Look.name) us := by
 induction p with
 | nil => exact .nil
 | cons h _ ih =>
  obtain ⟨a, _, e, q, _⟩ := h
  exact .cons ⟨a, _, e, q⟩ ih
theorem look_refs {H : Hp} {ls : List Look} {us : List V} (p : Paired (LookIn H) ls us) : Refs us := fun j x ex => by
 obtain ⟨b, eb⟩ : ∃ b, ls[j]? = some b := ⟨_, List.getElem?_eq_getElem (by rw [p.length]; exact (List.getElem?_eq_some_iff.mp ex).1)⟩
 obtain ⟨y, _, ey, _⟩ := xV p eb ex
 exact ⟨y, ey⟩
theorem deeds_read {σ : St} {H : Hp} {Q : VK} {dx : Addr} {us : List V} {ps : List (Deed × V × List (List V))} (e1 : H dx = some (.lst us)) (p1 : Paired (fun p u => DeedAt (fun _ => True) H p.1.name p.1.price p.2 u) ps us) (hl : ps.length ≤ 1000)
  (h2 : ∀ p ∈ ps, p.2.2.length ≤ 100)
  (q : ∀ (D : Addr) (ys : List V) (H' : Hp), H D = none → Same H H' → H' D = some (.lst ys) → Paired (fun p u => DeedAt (fun b => b ≠ D) H' p.1.name p.1.price p.2 u) ps ys → Q (.ref D) H') :
  rdC 1 [] (gName 0) tYes (tCall spCopied [] E0 (tCons (tVar 0) tNil)) (Itl K dx) σ H Q := by
 have lb : us.length = ps.length := p1.length.symm
 refine comp_list (xs := us) (fun D i ys H' => Paired (fun p u => DeedAt (fun b => b ≠ D) H' p.1.name p.1.price p.2 u) (ps.take i) ys ∧ ∀ b o, H b = some o → H' b = some o) (fun D hD => ⟨.nil, qV hD _⟩)
  (fun D i ys H' _ hP => (show Same H H' from hP.2).seq (SqL.of e1)) (fun D i x ys H' N hD hDy ex hP hN => ?_) (fun D ys H2 hD hDy hP => ?_)
 ·obtain ⟨pl, hk⟩ := hP
  have hi : i < ps.length := by rw [← lb]; exact (List.getElem?_eq_some_iff.mp ex).1
  obtain ⟨b, eb⟩ : ∃ b, ps[i]? = some b := ⟨_, List.getElem?_eq_getElem hi⟩
  have db := xV p1 eb ex
  have ll := pl.length
  rw [List.length_take] at ll
  refine ⟨⟨[some x], rfl, rfl⟩, ?_⟩
  refine ⟨_, rfl, x, b.1.name, b.1.price, b.2, rfl, db.move (fun b o _ e => hk _ _ e) (qC hk) (fun _ z => z), h2 b (List.mem_of_getElem? eb), fun y H4 S4 dy => ?_⟩
  have eD := S4 _ _ hDy
  refine ⟨eD, small (by omega), hN _ _ qW ⟨?_, fun b o e => ?_⟩⟩
  ·have T4 : Tups H4 (upd H4 D (.lst (ys ++ [y]))) := fun b xs e => by rw [qA (ne_of e eD (by intro z; cases z))]; exact e
   rw [List.take_add_one, eb]
   refine Paired.snoc (Paired.mapP pl fun _ _ z => z.move (fun b o ok e => ?_) ((qC S4).trans T4) fun _ z => z) (dy.move (fun b o ok e => ?_) T4 fun b ok => ?_)
   ·rw [qA ok]; exact S4 _ _ e
   ·rw [qA (fun z => by subst z; rw [hDy] at ok; cases ok)]; exact e
   ·intro z; subst z; rw [hDy] at ok; cases ok
  ·rw [qA (qB e hD)]; exact S4 _ _ (hk _ _ e)
 obtain ⟨pl, hk⟩ := hP
 rw [lb, List.take_length] at pl
 exact q D ys H2 hD hk hDy pl
theorem dn_world_of (F : Fd K mg "world_of" (top 23) ["boxes", "deeds", "looks", "begin", "goal"]) (B : Bl mg) (D_refuse_boxes : Dn P w K mg base "refuse_boxes" 2 ["boxes"] spRBoxes) (D_refuse_twice : Dn P w K mg base "refuse_twice" 1 ["names", "kind"] spTwice)
  (D_refuse_price : Dn P w K mg base "refuse_price" 2 ["name", "price"] spPrice) (D_refuse_strange_names : Dn P w K mg base "refuse_strange_names" 14 ["thing", "names"] spStrange) (D_refuse_ways : Dn P w K mg base "refuse_ways" 15 ["deed_name", "ways", "names"] spWays)
  (D_refuse_begin : Dn P w K mg base "refuse_begin" 27 ["begin", "boxes"] spBegin) (D_copied_deed : Dn P w K mg base "copied_deed" 1 ["deed"] spCopied) : Dn P w K mg base "world_of" 28 ["boxes", "deeds", "looks", "begin", "goal"] (spWorldOf K) := by
 refine F.ok sc_world_of (fun vs H Q E h => ?_) (fun f cdv A outer s H vs Q E hr h => ?_)
 ·obtain ⟨_, _, _, _, _, _, rfl, _⟩ := h
  rfl
 obtain ⟨W, bx, dx, lx, bv, gv, rfl, A0, ok, q⟩ := h
 obtain ⟨us, ebx, pb⟩ := A0.boxes
 obtain ⟨du, edx, pd⟩ := A0.deeds
 obtain ⟨lu, elx, pl⟩ := A0.looks
 have b6 := ok.b6
 have dl := ok.dl
 have ll := ok.ll
 refine ⟨_, (qZ (qR (qD D_refuse_boxes hr (qQ (pv 0) qX)))
  (qZ (qR (qD D_refuse_twice hr (qQ (xX op_cat (pe_comp rfl co_world_of1 (xQ (K := K) (pv 1)) (fun cl fp s H => (qH (i := 0) co_world_of1.nd rfl (Or.inl rfl) (.inr rfl))) (fun cl fp s H => pts_nil) (fun cl fp s H => (pe_ix (qT (K := K)) (pv 0) qF (fun _ _ => rfl)))) (pe_comp rfl co_world_of2 (xQ (K := K) (pv 2)) (fun cl fp s H => (qH (i := 0) co_world_of2.nd rfl (Or.inl rfl) (.inr rfl))) (fun cl fp s H => pts_nil) (fun cl fp s H => (pe_ix (qT (K := K)) (pv 0) qF (fun _ _ => rfl))))) (qQ qG qX))))
  (qZ (ps_setComp (i := 5) sc_world_of.nd rfl (by wtm_at "zo") rfl co_world_of3 (xQ (K := K) (pv 0)) (fun cl fp s H => (pg_tupK (K := K) (n := 2) rfl (qI (qH (i := 0) co_world_of3.nd rfl (Or.inl rfl) (.inr rfl)) (qI (qH (i := 1) co_world_of3.nd rfl (Or.inl rfl) (.inr rfl)) qM)))) (fun cl fp s H => pts_nil) (fun cl fp s H => (pv 0)))
  (qZ (ps_for PassesOwn.never rfl (xQ (K := K) (pv 1)) (pg_tupK (K := K) (n := 4) rfl (qI (qH (i := 6) sc_world_of.nd rfl (by wtm_at "zo")) (qI (qH (i := 7) sc_world_of.nd rfl (by wtm_at "zo")) (qI (qH (i := 8) sc_world_of.nd rfl (by wtm_at "zo")) (qI (qH (i := 9) sc_world_of.nd rfl (by wtm_at "zo")) qM))))) (qZ (qR (qD D_refuse_price hr (qQ (pv 6) (qQ (pv 7) qX))))
  (qZ (qR (qD D_refuse_strange_names hr (qQ (pv 8) (qQ (pv 5) qX))))
  (qJ (qR (qD D_refuse_ways hr (qQ (pv 6) (qQ (pv 9) (qQ (pv 5) qX)))))))))
  (qZ (ps_for PassesOwn.never rfl (xQ (K := K) (pv 2)) (pg_tupK (K := K) (n := 3) rfl (qI (qH (i := 6) sc_world_of.nd rfl (by wtm_at "zo")) (qI (qH (i := 7) sc_world_of.nd rfl (by wtm_at "zo")) (qI (qH (i := 10) sc_world_of.nd rfl (by wtm_at "zo")) qM)))) (qZ (qR (qD D_refuse_price hr (qQ (pv 6) (qQ (pv 7) qX))))
  (qJ (qR (qD D_refuse_strange_names hr (qQ (pv 10) (qQ (pv 5) qX)))))))
  (qZ (qR (qD D_refuse_strange_names hr (qQ (pv 3) (qQ (pv 5) qX))))
  (qZ (qR (qD D_refuse_strange_names hr (qQ (pv 4) (qQ (pv 5) qX))))
  (qZ (qR (qD D_refuse_begin hr (qQ (pv 3) (qQ (pv 0) qX))))
  (qJ (qO (pe_tup (qQ (xZ (call_listK (K := K)) rfl B.list' bt_list (qQ (pv 0) qX)) (qQ (pe_comp rfl co_world_of4 (xQ (K := K) (pv 1)) (fun cl fp s H => (qH (i := 0) co_world_of4.nd rfl (Or.inl rfl) (.inr rfl))) (fun cl fp s H => pts_nil) (fun cl fp s H => (qD D_copied_deed hr (qQ (pv 0) qX)))) (qQ (xZ (call_listK (K := K)) rfl B.list' bt_list (qQ (pv 2) qX)) (qQ (pv 3) (qQ (pv 4) qX)))))))))))))))), ?_⟩
 wtm_at "zw"
 refine ⟨bx, W.bs, us, rfl, ebx, pb, ok.b1, by omega, ok.b25, ok.named, fun H1 S1 => ?_⟩
 wtm_at "zw"
 refine ⟨_, rfl, dx, rfl, ⟨du, SqL.of (S1 _ _ edx)⟩, firsts_read (S1 _ _ edx) (deed_firsts (Paired.mapP pd fun _ _ y => y.same S1)) (by rw [List.length_map]; omega) fun d1 H2 nd1 S2 ed1 => ?_⟩
 have S12 := S1.trans S2
 refine ⟨_, rfl, lx, rfl, ⟨lu, SqL.of (S12 _ _ elx)⟩, firsts_read (S12 _ _ elx) (look_firsts (Paired.mapP pl fun _ _ y => y.same S12)) (by rw [List.length_map]; omega) fun d2 H3 nd2 S3 ed2 => ?_⟩
 have S13 := S12.trans S3
 refine ⟨d1, d2, _, _, rfl, rfl, S3 _ _ ed1, ed2, ?_, fun d3 hd3 => ?_⟩
 ·rw [xA, xA, List.length_map, List.length_map]; exact smallE (by omega)
 have S14 := S13.trans (qV hd3 (.lst (strsV (W.ds.map Deed.name) ++ strsV (W.ls.map Look.name))))
 wtm_at "zw"
 refine ⟨d3, W.ds.map Deed.name ++ W.ls.map Look.name, _, rfl, by rw [strsV_app]; exact qW, ok.nd, by rw [List.length_append, List.length_map, List.length_map]; omega, fun H5 S5 => ?_⟩
 have S15 := S14.trans S5
 wtm_at "zw"
 refine ⟨_, rfl, bx, rfl, ⟨us, SqL.of (S15 _ _ ebx)⟩, names_read (S15 _ _ ebx) (xK (qC S15) pb) (by omega) fun nl H6 S6 enl => ?_⟩
 have S16 := S15.trans S6
 wtm_at "zf"
 refine ⟨dx, rfl, ⟨du, SqL.of (S16 _ _ edx)⟩, ?_⟩
 refine for_listN (xs := du) (fun i σ' H' => ∃ z6 z7 z8 z9 z10 : Option V, σ' = [some (.ref bx), some (.ref dx), some (.ref lx), some bv, some gv, some (.ref nl), z6, z7, z8, z9, z10] ∧ Same H6 H') ⟨none, none, none, none, none, rfl, Same.refl _⟩
  (fun i σ' H' _ hP => ?_) (fun N rt bk i x σ' H' ex hP hN => ?_) (fun σ' H' hP => ?_)
 ·obtain ⟨_, _, _, _, _, rfl, S⟩ := hP
  exact SqL.of (S _ _ (S16 _ _ edx))
 ·obtain ⟨z6, z7, z8, z9, z10, rfl, S7⟩ := hP
  obtain ⟨d, ed⟩ : ∃ b, W.ds[i]? = some b := ⟨_, List.getElem?_eq_getElem (by rw [pd.length]; exact (List.getElem?_eq_some_iff.mp ex).1)⟩
  have S17 := S16.trans S7
  obtain ⟨a, nv, wa, wu, rfl, ea, nat, ewa, pw⟩ := (xV pd ed ex).same S17
  have dok := ok.deeds d (List.mem_of_getElem? ed)
  wtm_at "zw"
  refine ⟨.str d.name, d.price, rfl, dok.price, ?_⟩
  wtm_at "zw"
  refine ⟨d.need, nv, nl, _, rfl, nat, dok.need.ok, dok.dep, S7 _ _ enl, dok.need.in, fun H8 S8 => ?_⟩
  wtm_at "zw"
  refine ⟨.str d.name, wa, nl, wu, _, d.ways, rfl, S8 _ _ ewa, Paired.mapP pw fun _ _ y => y.same S8, dok.ne, dok.le, dok.ways, S8 _ _ (S7 _ _ enl), fun H9 S9 => ?_⟩
  exact hN _ _ ⟨_, _, _, _, _, rfl, S7.trans (S8.trans S9)⟩
 obtain ⟨z6, z7, z8, z9, z10, rfl, S7⟩ := hP
 have S17 := S16.trans S7
 wtm_at "zf"
 refine ⟨lx, rfl, ⟨lu, SqL.of (S17 _ _ elx)⟩, ?_⟩
 refine for_listN (xs := lu) (fun i σ' H' => ∃ z6 z7 z8 z9 z10 : Option V, σ' = [some (.ref bx), some (.ref dx), some (.ref lx), some bv, some gv, some (.ref nl), z6, z7, z8, z9, z10] ∧ Same H6 H') ⟨z6, z7, z8, z9, z10, rfl, S7⟩
  (fun i σ' H' _ hP => ?_) (fun N rt bk i x σ' H' ex hP hN => ?_) (fun σ' H' hP => ?_)
 ·obtain ⟨_, _, _, _, _, rfl, S⟩ := hP
  exact SqL.of (S _ _ (S16 _ _ elx))
 ·obtain ⟨z6, z7, z8, z9, z10, rfl, S8⟩ := hP
  obtain ⟨d, ed⟩ : ∃ b, W.ls[i]? = some b := ⟨_, List.getElem?_eq_getElem (by rw [pl.length]; exact (List.getElem?_eq_some_iff.mp ex).1)⟩
  have S18 := S16.trans S8
  obtain ⟨a, nv, rfl, ea, nat⟩ := (xV pl ed ex).same S18
  have dok := ok.looks d (List.mem_of_getElem? ed)
  wtm_at "zw"
  refine ⟨.str d.name, d.price, rfl, dok.price, ?_⟩
  wtm_at "zw"
  refine ⟨d.part, nv, nl, _, rfl, nat, dok.part.ok, dok.dep, S8 _ _ enl, dok.part.in, fun H9 S9 => ?_⟩
  exact hN _ _ ⟨_, _, _, _, _, rfl, S8.trans S9⟩
 obtain ⟨z6, z7, z8, z9, z10, rfl, S8⟩ := hP
 have S18 := S16.trans S8
 wtm_at "zw"
 refine ⟨W.bt, bv, nl, _, rfl, A0.beg.mono (qC S18), ok.beg.ok, ok.begd, S8 _ _ enl, ok.beg.in, fun H9 S9 => ?_⟩
 wtm_at "zw"
 have S19 := S18.trans S9
 refine ⟨W.gt, gv, nl, _, rfl, A0.goal.mono (qC S19), ok.goal.ok, ok.goald, S9 _ _ (S8 _ _ enl), ok.goal.in, fun H10 S10 => ?_⟩
 wtm_at "zw"
 have S110 := S19.trans S10
 refine ⟨W.bt, bv, bx, W.bs, us, rfl, A0.beg.mono (qC S110), ok.beg, ok.begd, S110 _ _ ebx, xK (qC S110) pb, ok.b6, ok.b25, ok.some', fun H11 S11 => ?_⟩
 have S111 := S110.trans S11
 wtm_at "zw"
 refine ⟨bx, us, rfl, .inl (SqL.of (S111 _ _ ebx)), fun bx' hbx' => ?_⟩
 have S112 := S111.trans (qV hbx' (.lst us))
 have ebx' : upd H11 bx' (.lst us) bx' = some (.lst us) := qW
 generalize upd H11 bx' (.lst us) = H12 at S112 ebx'
 obtain ⟨ps, eps, dat, pds⟩ := deeds_split (Paired.mapP pd fun _ _ y => y.same S112)
 have lps : ps.length = W.ds.length := by rw [← eps, List.length_map]
 have p100 : ∀ p ∈ ps, p.2.2.length ≤ 100 := fun p hp => by
  have h1 := (dat p hp).2.length
  have h2 := (ok.deeds p.1 (by rw [← eps]; exact List.mem_map.mpr ⟨p, hp, rfl⟩)).le
  omega
 refine ⟨_, rfl, dx, rfl, ⟨du, SqL.of (S112 _ _ edx)⟩, deeds_read (S112 _ _ edx) pds (by omega) p100 fun dx' ys H13 ndx' S13' edx' pys => ?_⟩
 have S113 := S112.trans S13'
 wtm_at "zw"
 refine ⟨lx, lu, rfl, .inl (SqL.of (S113 _ _ elx)), fun lx' hlx' => ?_⟩
 wtm_at "zw"
 refine ⟨(by show 5 ≤ sizeLine; decide), fun p hp => ?_⟩
 have Sf : Same H13 (upd (upd H13 lx' (.lst lu)) p (.tup [.ref bx', .ref dx', .ref lx', bv, gv])) := (qV hlx' _).trans (qV hp _)
 have S114 := S113.trans Sf
 have elx' : upd (upd H13 lx' (.lst lu)) p (.tup [.ref bx', .ref dx', .ref lx', bv, gv]) lx' = some (.lst lu) := qV hp _ _ _ qW
 have ep : upd (upd H13 lx' (.lst lu)) p (.tup [.ref bx', .ref dx', .ref lx', bv, gv]) p = some (.tup [.ref bx', .ref dx', .ref lx', bv, gv]) := qW
 generalize upd (upd H13 lx' (.lst lu)) p (.tup [.ref bx', .ref dx', .ref lx', bv, gv]) = H14 at Sf S114 elx' ep
 have pys' := Paired.mapP pys fun _ _ z => z.move (ok' := fun b => b ≠ dx') (fun b o _ e => Sf _ _ e) (qC Sf) fun _ z => z
 have pds' := Paired.mapP pds fun _ _ z => z.move (ok' := fun _ => True) (fun b o _ e => Sf _ _ (S13' _ _ e)) (qC (S13'.trans Sf)) fun _ z => z
 have dat' : ∀ p ∈ ps, DeedDat H14 p.1 p.2 := fun p hp => (dat p hp).same (S13'.trans Sf)
 have pdj := deeds_join dat' pys'
 rw [eps] at pdj
 refine q p bx' dx' lx' H14 S114 ep ⟨⟨us, Sf _ _ (S13' _ _ ebx'), xK (qC S114) pb⟩, ⟨ys, Sf _ _ edx', pdj⟩, ⟨lu, elx', Paired.mapP pl fun _ _ y => y.same S114⟩, A0.beg.mono (qC S114), A0.goal.mono (qC S114)⟩
  ⟨.lst (SqL.of (Sf _ _ (S13' _ _ ebx'))) (SqL.of (S114 _ _ ebx)) rfl (Refs.same (refs_of pb)), .lst (SqL.of (Sf _ _ edx')) (SqL.of (S114 _ _ edx)) (by rw [← pys.length, ← pds.length]) fun j x y e1 e2 => ?_, .lst (SqL.of elx') (SqL.of (S114 _ _ elx)) rfl (look_refs pl).same⟩
 obtain ⟨pp, epp⟩ : ∃ b, ps[j]? = some b := ⟨_, List.getElem?_eq_getElem (by rw [pys.length]; exact (List.getElem?_eq_some_iff.mp e1).1)⟩
 have g1 := xV pys' epp e1
 have g2 := xV pds' epp e2
 exact deed_deq (dat' pp (List.mem_of_getElem? epp)) g1 g2

theorem price_pick {x : Int} (h0 : 0 ≤ x) (h1 : x < 3) : ∃ m : Int, 0 < m ∧ m.natAbs < 2 ^ 1000 ∧ atI [V.int 1, V.int 9, V.int (10 ^ (29 : Int).toNat)] x = some (.int m) := by
 have : x = 0 ∨ x = 1 ∨ x = 2 := by omega
 rcases this with rfl | rfl | rfl
 ·exact ⟨1, by decide, by decide +kernel, rfl⟩
 ·exact ⟨9, by decide, by decide +kernel, rfl⟩
 ·exact ⟨10 ^ (29 : Int).toNat, by decide +kernel, by decide +kernel, rfl⟩
theorem price_read {σ : St} {H : Hp} {Q : VK} {j : Nat} {dk : Addr} {d : Int} (hj : σ[j]? = some (some (.ref dk))) (hd : H dk = some (.lst [.int d]))
  (q : ∀ (p d' : Int) (H' : Hp), 1 ≤ p → But dk H H' → H' dk = some (.lst [.int d']) → Q (.int p) H') :
  tOp (rI0 fun i j => V.int (i + j)) (tC (.int 1)) (tCall spTake [] E0 (tCons (tVar j) (tCons (tOp (rIxL K) (tLst (tCons (tC (.int 1)) (tCons (tC (.int 9)) (tCons (tOp (rI CPow fun i j => V.int (i ^ j.toNat)) (tC (.int 10)) (tC (.int 29))) tNil))))
   (tCall spTake [] E0 (tCons (tVar j) (tCons (tC (.int 3)) tNil)))) tNil))) σ H Q := by
 refine ⟨_, hj, 10, 29, rfl, rfl, ⟨by decide, by decide, by decide⟩, (by show 3 ≤ sizeLine; decide), fun l hl => ?_⟩
 have nld : l ≠ dk := fun z => by subst z; rw [hd] at hl; cases hl
 refine ⟨_, hj, dk, 3, d, rfl, qV hl _ _ _ hd, by decide, by decide +kernel, fun x d1 hx0 hx1 => ?_⟩
 obtain ⟨m, m0, m1, em⟩ := price_pick hx0 hx1
 refine ⟨l, _, x, .int m, rfl, rfl, SqL.of (by rw [qA nld]; exact qW), em, ?_⟩
 refine ⟨dk, m, d1, rfl, qW, m0, m1, fun y d2 hy0 hy1 => ⟨1, y, rfl, rfl, ?_⟩⟩
 exact q (1 + y) d2 _ (by omega) (((qV hl _).but.trans But.upd).trans But.upd) qW
theorem sc_law_deed : FnScope ["deck", "name", "words", "price", "need", "ways", "k", "way", "word"] ["deck", "name", "words"] (xB (top 52)) := ⟨rfl, rfl, rfl, by decide +kernel, rfl, by decide +kernel, by decide +kernel⟩
noncomputable def spDeed : Sp := fun vs H Q _ => ∃ (dk wd : Addr) (x : Str) (ws : List Str), vs = [.ref dk, .str x, .ref wd] ∧ Dk H dk wd ws ∧ ws.Nodup ∧
 ∀ (d : Deed) (dc : V × List (List V)) (u : V) (H' : Hp), d.name = x → DeedOk ws d → But dk H H' → DeedDat H' d dc → DeedAt (fun b => H b = none) H' d.name d.price dc u → Q u H'
theorem cut_strs (ws : List Str) (lo hi : Option Int) : ∃ zs : List Str, cutV (strsV ws) lo hi = strsV zs ∧ List.Sublist zs ws := by
 unfold cutV
 refine ⟨(ws.drop (HT.sIx (strsV ws).length 0 lo)).take (HT.sIx (strsV ws).length (strsV ws).length hi - HT.sIx (strsV ws).length 0 lo), ?_, ?_⟩
 ·rw [← List.map_drop, ← List.map_take]
 ·exact (List.take_sublist _ _).trans (List.drop_sublist _ _)
theorem dats_mono {H H' : Hp} (t : Tups H H') {wys : List (List (Str × Th))} {css : List (List V)} (p : Paired (fun wy cs => Paired (ChangeIn H) wy cs) wys css) : Paired (fun wy cs => Paired (ChangeIn H') wy cs) wys css :=
 Paired.mapP p fun _ _ y => Paired.mapP y fun _ _ z => let ⟨a, v, e, q, r⟩ := z; ⟨a, v, e, t _ _ q, r.mono t⟩
theorem changes_mono {H H' : Hp} (t : Tups H H') {wy : List (Str × Th)} {cs : List V} (p : Paired (ChangeIn H) wy cs) : Paired (ChangeIn H') wy cs := Paired.mapP p fun _ _ z => let ⟨a, v, e, q, r⟩ := z; ⟨a, v, e, t _ _ q, r.mono t⟩
theorem dn_deed (F : Fd K mg "_law_deed" (top 52) ["deck", "name", "words"]) (B : Bl mg) (D_law_take : Dn P w K mg base "_law_take" 1 ["deck", "many"] spTake) (D_law_cond : Dn P w K mg base "_law_cond" 8 ["deck", "words", "deep"] (spCond 3)) (D_law_expr : Dn P w K mg base "_law_expr" 4 ["deck", "words", "deep"] (spExpr 3)) :
  Dn P w K mg base "_law_deed" 9 ["deck", "name", "words"] spDeed := by
 refine F.ok sc_law_deed (fun vs H Q E h => ?_) (fun f cdv A outer s H vs Q E hr h => ?_)
 ·obtain ⟨_, _, _, _, rfl, _⟩ := h
  rfl
 obtain ⟨dk, wd, x, ws, rfl, D0, wnd, q⟩ := h
 obtain ⟨d0, hd0⟩ := D0.deck
 have wpos := List.length_pos_iff.mpr D0.ne
 have wle := D0.le
 refine ⟨_, (qZ (qN (i := 3) sc_law_deed.nd rfl (by wtm_at "zo") (xX op_add qF (qD D_law_take hr (qQ (pv 0) (qQ (pe_ix (qU (K := K)) (pe_lst (qQ qF (qQ qF (qQ (xX op_pow qF qF) qX)))) (qD D_law_take hr (qQ (pv 0) (qQ qF qX))) (fun _ _ => rfl)) qX)))))
  (qZ (qN (i := 4) sc_law_deed.nd rfl (by wtm_at "zo") (pe_tup (qQ qG qX)))
  (qK (ps_if (qS op_eq (qD D_law_take hr (qQ (pv 0) (qQ qF qX))) qF (xE _)) (qJ (qN (i := 4) sc_law_deed.nd rfl (by wtm_at "zo") (qD D_law_cond hr (qQ (pv 0) (qQ (pv 2) (qQ qF qX)))))) qY)
  (qZ (qN (i := 5) sc_law_deed.nd rfl (by wtm_at "zo") (pe_lst qX))
  (qZ (ps_for PassesOwn.never rfl (pi_range1 rfl B.range' (qQ (xX op_add qF (qD D_law_take hr (qQ (pv 0) (qQ qF qX)))) qX)) (qH (i := 6) sc_law_deed.nd rfl (by wtm_at "zo")) (qZ (qN (i := 7) sc_law_deed.nd rfl (by wtm_at "zo") (pe_lst qX))
  (qZ (ps_for PassesOwn.never rfl (xQ (K := K) (pe_slice (sl_listK (K := K)) (pe_slice (sl_listK (K := K)) (pv 2) (po_some (qD D_law_take hr (qQ (pv 0) (qQ (xJ (call_lenK (K := K)) rfl B.len' bt_len (qQ (pv 2) qX)) qX)))) po_none) po_none (po_some qF))) (qH (i := 8) sc_law_deed.nd rfl (by wtm_at "zo")) (qJ (ps_if (qS op_eq (qD D_law_take hr (qQ (pv 0) (qQ qF qX))) qF (xE _)) (qJ (qR (pe_bmK (K := K) PySem.F.plainAttrs_list PySem.F.slot_list_append PySem.F.type_list_append mt_append (pv 7) (qQ (pe_tup (qQ (pv 8) (qQ (qD D_law_expr hr (qQ (pv 0) (qQ (pv 2) (qQ qF qX)))) qX))) qX)))) qY)))
  (qJ (qR (pe_bmK (K := K) PySem.F.plainAttrs_list PySem.F.slot_list_append PySem.F.type_list_append mt_append (pv 5) (qQ (pv 7) qX)))))))
  (qJ (qO (pe_tup (qQ (pv 1) (qQ (pv 3) (qQ (pv 4) (qQ (pv 5) qX)))))))))))), ?_⟩
 refine price_read rfl hd0 fun p d1 H1 hp B1 e1 => ?_
 wtm_at "zw"
 refine ⟨(by show 1 ≤ sizeLine; decide), fun ya hya => ?_⟩
 have B2 : But dk H (upd H1 ya (.tup [.str "yes"])) := B1.trans (qV hya _).but
 have e2 := qV hya (.tup [.str "yes"]) _ _ e1
 have ey : upd H1 ya (.tup [.str "yes"]) ya = some (.tup [.str "yes"]) := qW
 generalize upd H1 ya (.tup [.str "yes"]) = H2 at B2 e2 ey
 wtm_at "zw"
 refine ⟨fun σ' H' => ∃ (nv : V) (t : Th) (d' : Int), σ' = [some (.ref dk), some (.str x), some (.ref wd), some (.int p), some nv, none, none, none, none] ∧ But dk H H' ∧ H' dk = some (.lst [.int d']) ∧ t.At H' nv ∧ Cond' ws t ∧ t.dep ≤ 12, ?_, ?_⟩
 ·wtm_at "zw"
  refine ⟨dk, 2, d1, rfl, e2, by decide, by decide +kernel, fun y d3 hy0 hy1 => ?_⟩
  have B3 : But dk H (upd H2 dk (.lst [.int d3])) := B2.trans But.upd
  have e3 : upd H2 dk (.lst [.int d3]) dk = some (.lst [.int d3]) := qW
  have ey3 : upd H2 dk (.lst [.int d3]) ya = some (.tup [.str "yes"]) := by rw [qA (ne_of ey e2 (by intro z; cases z))]; exact ey
  generalize upd H2 dk (.lst [.int d3]) = H3 at B3 e3 ey3
  wtm_at "zw"
  refine ite2 (fun _ => ?_) (fun _ => ?_)
  ·wtm_at "zw"
   refine ⟨dk, wd, ws, 1, rfl, D0.but B3 e3, by decide, by decide, fun t v H4 B4 D4 At Cx Dep => ?_⟩
   obtain ⟨d4, e4⟩ := D4.deck
   have e5 : (1 : Int).toNat + 4 = 5 := rfl
   exact ⟨v, t, d4, rfl, B3.trans B4, e4, At, Cx, by omega⟩
  ·exact ⟨.ref ya, .nul "yes", d3, rfl, B3, e3, ⟨ya, rfl, ey3⟩, rfl, by show 1 ≤ 12; decide⟩
 rintro σ' H3 ⟨nv, nt, d3, rfl, B3, e3, nat, ncx, ndep⟩
 wtm_at "zw"
 refine ⟨(by show 0 ≤ sizeLine; decide), fun wa hwa => ?_⟩
 have nwa : H wa = none := by
  cases z : H wa with
  | none => rfl
  | some o =>
   by_cases hz : wa = dk
   ·subst hz; rw [e3] at hwa; cases hwa
   ·rw [B3 _ _ hz z] at hwa; cases hwa
 have B4 : But dk H (upd H3 wa (.lst [])) := B3.trans (qV hwa _).but
 have e4 := qV hwa (.lst []) _ _ e3
 have nat4 := nat.mono (qC (qV hwa (.lst [])))
 have ewa : upd H3 wa (.lst []) wa = some (.lst []) := qW
 have wad : wa ≠ dk := fun z => by subst z; rw [e3] at hwa; cases hwa
 generalize upd H3 wa (.lst []) = H4 at B4 e4 nat4 ewa
 wtm_at "zf"
 refine ⟨dk, 4, d3, rfl, e4, by decide, by decide +kernel, fun y d5 hy0 hy1 => ?_⟩
 have B5 : But dk H (upd H4 dk (.lst [.int d5])) := B4.trans But.upd
 have e5 : upd H4 dk (.lst [.int d5]) dk = some (.lst [.int d5]) := qW
 have nat5 : nt.At (upd H4 dk (.lst [.int d5])) nv := nat4.mono (tups_but But.upd e4)
 have ewa5 : upd H4 dk (.lst [.int d5]) wa = some (.lst []) := by rw [qA wad]; exact ewa
 generalize upd H4 dk (.lst [.int d5]) = H5 at B5 e5 nat5 ewa5
 wtm_at "zw"
 refine ⟨_, rfl, by omega, by omega, ?_⟩
 refine for_rangeN (fun i σ' H' => ∃ (wus : List V) (css : List (List V)) (wys : List (List (Str × Th))) (d' : Int) (z6 z7 z8 : Option V), σ' = [some (.ref dk), some (.str x), some (.ref wd), some (.int p), some nv, some (.ref wa), z6, z7, z8] ∧
   But dk H H' ∧ H' dk = some (.lst [.int d']) ∧ nt.At H' nv ∧ H' wa = some (.lst wus) ∧ Paired (LstIn (fun b => H b = none ∧ b ≠ wa) H') css wus ∧ Paired (fun wy cs => Paired (ChangeIn H') wy cs) wys css ∧ (∀ wy ∈ wys, WayOk ws wy) ∧ wys.length = i)
  ⟨[], [], [], d5, none, none, none, rfl, B5, e5, nat5, ewa5, .nil, .nil, (fun wy hw => by cases hw), rfl⟩ ?_ ?_
 ·rintro N rt bk i σ' H6 hi ⟨wus, css, wys, d6, z6, z7, z8, rfl, B6, e6, nat6, ewa6, pl, pd, wok, wl⟩ hN
  have lpl := pl.length
  have lpd := pd.length
  wtm_at "zw"
  refine ⟨(by show 0 ≤ sizeLine; decide), fun yy hyy => ?_⟩
  have yd : yy ≠ dk := fun z => by subst z; rw [e6] at hyy; cases hyy
  have yw : yy ≠ wa := fun z => by subst z; rw [ewa6] at hyy; cases hyy
  have nyy : H yy = none := by
   cases z : H yy with
   | none => rfl
   | some o => rw [B6 _ _ yd z] at hyy; cases hyy
  have B7 : But dk H (upd H6 yy (.lst [])) := B6.trans (qV hyy _).but
  have D7 : Dk (upd H6 yy (.lst [])) dk wd ws := D0.but B7 (qV hyy _ _ _ e6)
  have ewd7 := D7.words
  wtm_at "zf"
  refine ⟨dk, _, d6, rfl, qV hyy _ _ _ e6, by rw [xA]; omega, by rw [xA]; exact big _ (by omega) (Int.lt_of_le_of_lt (b := 100) (by omega) (by decide +kernel)), fun y2 d7 hy20 hy21 => ?_⟩
  wtm_at "zw"
  have ewd8 : upd (upd H6 yy (.lst [])) dk (.lst [.int d7]) wd = some (.lst (strsV ws)) := by rw [qA D7.ap]; exact D7.words
  refine ⟨wd, _, rfl, SqL.of ewd8, fun s1 hs1 => ?_⟩
  obtain ⟨zs1, ez1, sub1⟩ := cut_strs ws (some y2) none
  rw [ez1]
  wtm_at "zw"
  refine ⟨s1, _, rfl, SqL.of qW, fun s2 hs2 => ?_⟩
  obtain ⟨zs, ez, sub2⟩ := cut_strs zs1 none (some 4)
  rw [ez]
  have sub := sub2.trans sub1
  have znd := sub.nodup wnd
  have zle := sub.length_le
  have B9 : But dk H6 (upd (upd (upd (upd H6 yy (.lst [])) dk (.lst [.int d7])) s1 (.lst (strsV zs1))) s2 (.lst (strsV zs))) := (((qV hyy _).but.trans But.upd).trans (qV hs1 _).but).trans (qV hs2 _).but
  have e9 : upd (upd (upd (upd H6 yy (.lst [])) dk (.lst [.int d7])) s1 (.lst (strsV zs1))) s2 (.lst (strsV zs)) dk = some (.lst [.int d7]) := qV hs2 _ _ _ (qV hs1 _ _ _ qW)
  have ey9 : upd (upd (upd (upd H6 yy (.lst [])) dk (.lst [.int d7])) s1 (.lst (strsV zs1))) s2 (.lst (strsV zs)) yy = some (.lst []) := qV hs2 _ _ _ (qV hs1 _ _ _ (by rw [qA yd]; exact qW))
  have es9 : upd (upd (upd (upd H6 yy (.lst [])) dk (.lst [.int d7])) s1 (.lst (strsV zs1))) s2 (.lst (strsV zs)) s2 = some (.lst (strsV zs)) := qW
  have sd : s2 ≠ dk := fun z => by subst z; rw [qV hs1 _ _ _ qW] at hs2; cases hs2
  have sy : s2 ≠ yy := fun z => by subst z; rw [qV hs1 _ _ _ (show upd (upd H6 s2 (.lst [])) dk (.lst [.int d7]) s2 = some (.lst []) by rw [qA yd]; exact qW)] at hs2; cases hs2
  generalize upd (upd (upd (upd H6 yy (.lst [])) dk (.lst [.int d7])) s1 (.lst (strsV zs1))) s2 (.lst (strsV zs)) = H9 at B9 e9 ey9 es9
  refine ⟨s2, rfl, ⟨_, SqL.of es9⟩, ?_⟩
  refine for_listN (xs := strsV zs) (fun j σ'' H' => ∃ (cs : List V) (wy : List (Str × Th)) (d' : Int) (z8 : Option V), σ'' = [some (.ref dk), some (.str x), some (.ref wd), some (.int p), some nv, some (.ref wa), some (.int (0 + (i : Int))), some (.ref yy), z8] ∧
    But dk H6 H' ∧ H' dk = some (.lst [.int d']) ∧ H' s2 = some (.lst (strsV zs)) ∧ H' yy = some (.lst cs) ∧ Paired (ChangeIn H') wy cs ∧ List.Sublist (wy.map (·.1)) (zs.take j) ∧ ∀ c ∈ wy, c.1 ∈ ws ∧ Expr' ws c.2 ∧ c.2.dep ≤ 12)
   ⟨[], [], d7, z8, rfl, B9, e9, es9, ey9, .nil, List.nil_sublist _, fun c hc => by cases hc⟩ (fun j σ'' H' _ hP => ?_) (fun N2 rt2 bk2 j u σ'' H10 ex hP hN2 => ?_) (fun σ'' H10 hP => ?_)
  ·obtain ⟨_, _, _, _, _, _, _, e, _⟩ := hP
   exact SqL.of e
  ·obtain ⟨cs, wy, d10, z8, rfl, B10, e10, es10, ey10, pc, sb, cok⟩ := hP
   obtain ⟨word, hword, rfl⟩ : ∃ word, zs[j]? = some word ∧ u = .str word := by
    rw [List.getElem?_map] at ex
    cases z : zs[j]? with
    | none => rw [z] at ex; cases ex
    | some v => rw [z] at ex; exact ⟨v, rfl, (Option.some.inj ex).symm⟩
   have lsb := sb.length_le
   rw [List.length_map, List.length_take] at lsb
   have lpc := pc.length
   wtm_at "zw"
   refine ⟨dk, 2, d10, rfl, e10, by decide, by decide +kernel, fun y3 d11 hy30 hy31 => ?_⟩
   have B11 : But dk H10 (upd H10 dk (.lst [.int d11])) := But.upd
   have e11 : upd H10 dk (.lst [.int d11]) dk = some (.lst [.int d11]) := qW
   have es11 : upd H10 dk (.lst [.int d11]) s2 = some (.lst (strsV zs)) := by rw [qA sd]; exact es10
   have ey11 : upd H10 dk (.lst [.int d11]) yy = some (.lst cs) := by rw [qA yd]; exact ey10
   have pc11 : Paired (ChangeIn (upd H10 dk (.lst [.int d11]))) wy cs := changes_mono (tups_but B11 e10) pc
   generalize upd H10 dk (.lst [.int d11]) = H11 at B11 e11 es11 ey11 pc11
   wtm_at "zw"
   refine ite2 (fun _ => ?_) (fun _ => ?_)
   ·wtm_at "zw"
    refine ⟨.inl ⟨rfl, _, SqL.of ey11⟩, ?_⟩
    wtm_at "zw"
    have B06 : But dk H H11 := B6.trans (B10.trans B11)
    refine ⟨dk, wd, ws, 1, rfl, D0.but B06 e11, by decide, by decide, fun t v H12 B12 D12 At Ex Dep => ?_⟩
    obtain ⟨d12, e12⟩ := D12.deck
    wtm_at "zw"
    refine ⟨(by show 2 ≤ sizeLine; decide), fun ta hta => ?_⟩
    have T12 : Tups H11 H12 := tups_but B12 e11
    have ey12 := B12 _ _ yd ey11
    have yta : yy ≠ ta := qB ey12 hta
    refine ⟨yy, cs, .ref ta, rfl, rfl, qV hta _ _ _ ey12, small (by omega), ?_⟩
    have T13 : Tups H12 (upd (upd H12 ta (.tup [.str word, v])) yy (.lst (cs ++ [.ref ta]))) := fun b xs e => by
     rw [qA (ne_of e ey12 (by intro z; cases z))]; exact qV hta _ _ _ e
    have e5 : (1 : Int).toNat + 1 = 2 := rfl
    refine hN2 _ _ ⟨cs ++ [.ref ta], wy ++ [(word, t)], d12, _, rfl, fun b o hb e => ?_, ?_, ?_, qW, Paired.snoc (changes_mono T13 (changes_mono T12 pc11)) ⟨ta, v, rfl, by rw [qA (Ne.symm yta)]; exact qW, At.mono T13⟩, ?_, fun c hc => ?_⟩
    ·rw [qA (qB e hyy)]; exact qV hta _ _ _ (B12 _ _ hb (B11 _ _ hb (B10 _ _ hb e)))
    ·rw [qA (Ne.symm yd)]; exact qV hta _ _ _ e12
    ·rw [qA sy]; exact qV hta _ _ _ (B12 _ _ sd es11)
    ·rw [List.map_append, List.take_add_one, hword]
     exact List.Sublist.append sb (List.Sublist.refl _)
    ·rcases List.mem_append.mp hc with h | h
     ·exact cok c h
     ·rw [List.mem_singleton.mp h]
      exact ⟨sub.subset (List.mem_of_getElem? hword), Ex, by show t.dep ≤ 12; omega⟩
   ·refine hN2 _ _ ⟨cs, wy, d11, _, rfl, B10.trans B11, e11, es11, ey11, pc11, sb.trans ?_, cok⟩
    rw [List.take_add_one]; exact List.sublist_append_left _ _
  ·obtain ⟨cs, wy, d10, z8, rfl, B10, e10, es10, ey10, pc, sb, cok⟩ := hP
   have ewa10 := B10 _ _ wad ewa6
   have T10 : Tups H6 H10 := tups_but B10 e6
   wtm_at "zw"
   refine ⟨.inl ⟨rfl, _, SqL.of ewa10⟩, ?_⟩
   wtm_at "zw"
   refine ⟨wa, wus, .ref yy, rfl, rfl, ewa10, small (by omega), ?_⟩
   have T11 : Tups H10 (upd H10 wa (.lst (wus ++ [.ref yy]))) := fun b xs e => by rw [qA (ne_of e ewa10 (by intro z; cases z))]; exact e
   refine hN _ _ ⟨wus ++ [.ref yy], css ++ [cs], wys ++ [wy], d10, _, _, _, rfl, fun b o hb e => ?_, by rw [qA (Ne.symm wad)]; exact e10, nat6.mono (T10.trans T11), qW, ?_, ?_, fun wy' hw => ?_, by simp [wl]⟩
   ·rw [qA (qB e nwa)]; exact B10 _ _ hb (B6 _ _ hb e)
   ·refine Paired.snoc (Paired.mapP pl fun _ _ z => z.move (fun b o okb e => ?_) fun _ z => z) ⟨yy, rfl, ⟨nyy, yw⟩, by rw [qA yw]; exact ey10⟩
    have bd : b ≠ dk := fun z => by subst z; rw [hd0] at okb; cases okb.1
    rw [qA okb.2]; exact B10 _ _ bd e
   ·exact Paired.snoc (dats_mono (T10.trans T11) pd) (changes_mono T11 pc)
   ·rcases List.mem_append.mp hw with h | h
    ·exact wok wy' h
    ·rw [List.mem_singleton.mp h]
     have lz : (zs.take (strsV zs).length).length ≤ 100 := by rw [List.length_take]; omega
     have := sb.length_le
     rw [List.length_map] at this
     exact ⟨(sb.trans (List.take_sublist _ _)).nodup znd, by omega, cok⟩
 ·rintro σ' H6 ⟨wus, css, wys, d6, z6, z7, z8, rfl, B6, e6, nat6, ewa6, pl, pd, wok, wl⟩
  wtm_at "zw"
  refine ⟨(by show 4 ≤ sizeLine; decide), fun a ha => ?_⟩
  have S7 : Same H6 (upd H6 a (.tup [.str x, .int p, nv, .ref wa])) := qV ha _
  have T7 := qC S7
  refine q ⟨x, p, nt, wys⟩ (nv, css) (.ref a) _ rfl ⟨hp, ncx, ndep, ?_, ?_, wok⟩ (B6.trans S7.but) ⟨nat6.mono T7, dats_mono T7 pd⟩ ⟨a, wa, wus, rfl, qW, nwa, S7 _ _ ewa6, Paired.mapP pl fun _ _ z => z.move (fun b o _ e => S7 _ _ e) fun _ z => z.1⟩
  ·show wys ≠ []
   intro z
   rw [z] at wl
   simp only [List.length_nil] at wl
   omega
  ·show wys.length ≤ 100
   omega

theorem sc_law_world : FnScope ["script", "boxes", "words", "deck", "begin", "goal", "drawn", "names", "deeds", "k", "looks", "price"] ["script"] (xB (top 53)) := ⟨rfl, rfl, rfl, by decide +kernel, rfl, by decide +kernel, by decide +kernel⟩
theorem co_law_world1 : CompOk (xB (top 53)) ["script", "boxes", "words", "deck", "begin", "goal", "drawn", "names", "deeds", "k", "looks", "price"] (scAt (xC (top 53)) [1] []) ["box"] 1 [] :=
 ⟨by decide +kernel, by decide +kernel, by decide +kernel, by decide +kernel, by decide +kernel, by decide +kernel, by decide +kernel, by decide +kernel⟩
theorem co_law_world2 : CompOk (xB (top 53)) ["script", "boxes", "words", "deck", "begin", "goal", "drawn", "names", "deeds", "k", "looks", "price"] (scAt (xC (top 53)) [5] [0]) ["one", "begin", "boxes"] 1 [4, 1] :=
 ⟨by decide +kernel, by decide +kernel, by decide +kernel, by decide +kernel, by decide +kernel, by decide +kernel, by decide +kernel, by decide +kernel⟩
noncomputable def spLWorld (K : PySem.W.Frag) : Sp := fun vs H Q _ => ∃ (a : Addr) (ns : List Int), vs = [.ref a] ∧ SqL K H a (ns.map V.int) ∧ ns.length ≤ 63 ∧
 ∀ (p : Addr) (W : Wd) (bx dx lx : Addr) (bv gv : V) (H' : Hp), Same H H' → H' p = some (.tup [.ref bx, .ref dx, .ref lx, bv, gv]) → WAt H' W bx dx lx bv gv → WOk W → Q (.ref p) H'
theorem cut_take (ws : List Str) (k : Nat) : cutV (strsV ws) none (some (k : Int)) = strsV (ws.take k) := by
 unfold cutV
 rw [HT.sIx_none, HT.sIx_nat, List.drop_zero, Nat.sub_zero, ← List.map_take, xA]
 have e : ws.take (min k ws.length) = ws.take k := by
  by_cases h : k ≤ ws.length
  ·rw [Nat.min_eq_left h]
  ·rw [Nat.min_eq_right (by omega), List.take_of_length_le (Nat.le_refl _), List.take_of_length_le (by omega)]
 rw [e]
theorem cut_drop (ws : List Str) (k : Nat) : cutV (strsV ws) (some (k : Int)) none = strsV (ws.drop k) := by
 unfold cutV
 rw [HT.sIx_none, HT.sIx_nat, ← List.map_drop, ← List.map_take, xA]
 have e : (ws.drop (min k ws.length)).take (ws.length - min k ws.length) = ws.drop k := by
  rw [List.take_of_length_le (by rw [List.length_drop]; exact Nat.le_refl _)]
  by_cases h : k ≤ ws.length
  ·rw [Nat.min_eq_left h]
  ·rw [Nat.min_eq_right (by omega), List.drop_eq_nil_of_le (Nat.le_refl _), List.drop_eq_nil_of_le (by omega)]
 rw [e]
theorem odd_nodup {ws : List Str} (p : Plain ws) : (([("not" : Str), "and", "yes"] : List Str) ++ ws.take 5 ++ ([("way" : Str), "end", "one"] : List Str) ++ ws.drop 5).Nodup := by
 have h1 : (odd3 ++ ws).Nodup := List.nodup_append.mpr ⟨by decide +kernel, p.nd, fun a ha b hb e => p.no b hb (e ▸ ha)⟩
 have e0 : odd3 ++ ws = ([("not" : Str), "and", "yes"] : List Str) ++ ([("way" : Str), "end", "one"] : List Str) ++ ws.take 5 ++ ws.drop 5 := by
  rw [List.append_assoc, List.take_append_drop]; rfl
 rw [e0] at h1
 refine (List.Perm.nodup_iff ?_).mp h1
 refine List.Perm.append_right _ ?_
 rw [List.append_assoc, List.append_assoc]
 exact List.Perm.append_left _ List.perm_append_comm
theorem odd_low : ∀ x ∈ ([("not" : Str), "and", "yes"] : List Str) ++ [("way" : Str), "end", "one"], x.length ≤ 100 ∧ ∀ c ∈ x.cps.toList, (Builtin.Str.reprChar 34 c).length ≤ 1 ∧ (Builtin.Str.reprChar 39 c).length ≤ 1 := by decide +kernel
theorem allV_ne (bs : List (Str × Int)) (h : ∀ b ∈ bs, 2 ≤ b.2 ∧ b.2 ≤ 5) : ∃ v, v ∈ allV bs := by
 have key : ∀ i : Nat, i ≤ bs.length → 0 < (allV (bs.take i)).length := by
  intro i
  induction i with
  | zero => intro _; simp [allV]
  | succ i ih =>
   intro hi
   have hb : bs[i]? = some (bs[i]'(by omega)) := List.getElem?_eq_getElem (by omega)
   rw [allV_snoc hb, rowsBy_len]
   have := h _ (List.getElem_mem (h := (by omega : i < bs.length)))
   exact Nat.mul_pos (ih (by omega)) (by omega)
 have := key bs.length (Nat.le_refl _)
 rw [List.take_length] at this
 exact ⟨_, List.getElem_mem (h := this)⟩
theorem looks_mono {H H' : Hp} (t : Tups H H') {ls : List Look} {us : List V} (p : Paired (LookIn H) ls us) : Paired (LookIn H') ls us := Paired.mapP p fun _ _ z => let ⟨a, v, e, q, r⟩ := z; ⟨a, v, e, t _ _ q, r.mono t⟩
theorem DeedDat.tups {H H' : Hp} (t : Tups H H') {d : Deed} {dc : V × List (List V)} (h : DeedDat H d dc) : DeedDat H' d dc := ⟨h.1.mono t, dats_mono t h.2⟩
theorem dn_lworld (F : Fd K mg "_law_world" (top 53) ["script"]) (B : Bl mg) (D_law_cell_at : Dn P w K mg base "_law_cell_at" 1 ["script", "k"] (spCell K)) (D_law_boxes : Dn P w K mg base "_law_boxes" 3 ["cell"] spBoxes)
  (D_law_deck : Dn P w K mg base "_law_deck" 2 ["cell"] spDeck) (D_law_cond : Dn P w K mg base "_law_cond" 8 ["deck", "words", "deep"] (spCond 3)) (D_law_expr : Dn P w K mg base "_law_expr" 4 ["deck", "words", "deep"] (spExpr 3)) (D_law_take : Dn P w K mg base "_law_take" 1 ["deck", "many"] spTake)
  (D_law_standings : Dn P w K mg base "_law_standings" 1 ["boxes"] spStands) (D_law_holds : Dn P w K mg base "_law_holds" 13 ["cond", "values"] (spLHolds 12)) (D_law_values : Dn P w K mg base "_law_values" 1 ["boxes", "standing"] spValues)
  (D_law_drawn : Dn P w K mg base "_law_drawn" 2 ["cell", "sizes"] spDrawn) (D_law_unlike : Dn P w K mg base "_law_unlike" 1 ["number", "many"] spUnlike) (D_law_deed : Dn P w K mg base "_law_deed" 9 ["deck", "name", "words"] spDeed) :
  Dn P w K mg base "_law_world" 14 ["script"] (spLWorld K) := by
 refine F.ok sc_law_world (fun vs H Q E h => ?_) (fun f cdv A outer s H vs Q E hr h => ?_)
 ·obtain ⟨_, _, rfl, _⟩ := h
  rfl
 obtain ⟨a, ns, rfl, hS, h63, q⟩ := h
 refine ⟨_, (qZ (qN (i := 1) sc_law_world.nd rfl (by wtm_at "zo") (qD D_law_boxes hr (qQ (qD D_law_cell_at hr (qQ (pv 0) (qQ qF qX))) qX)))
  (qZ (ps_setComp (i := 2) sc_law_world.nd rfl (by wtm_at "zo") rfl co_law_world1 (xQ (K := K) (pv 1)) (fun cl fp s H => (qH (i := 0) co_law_world1.nd rfl (Or.inl rfl) (.inr rfl))) (fun cl fp s H => pts_nil) (fun cl fp s H => (pe_ix (qT (K := K)) (pv 0) qF (fun _ _ => rfl))))
  (qZ (qN (i := 3) sc_law_world.nd rfl (by wtm_at "zo") (qD D_law_deck hr (qQ (qD D_law_cell_at hr (qQ (pv 0) (qQ qF qX))) qX)))
  (qZ (qN (i := 4) sc_law_world.nd rfl (by wtm_at "zo") (qD D_law_cond hr (qQ (pv 3) (qQ (pv 2) (qQ qF qX)))))
  (qZ (qN (i := 5) sc_law_world.nd rfl (by wtm_at "zo") (qD D_law_cond hr (qQ (pv 3) (qQ (pv 2) (qQ qF qX)))))
  (qK (ps_if (qS (op_eqEK (K := K) hr.units) (pe_comp rfl co_law_world2 (xQ (K := K) (qD D_law_standings hr (qQ (pv 1) qX))) (fun cl fp s H => (qH (i := 0) co_law_world2.nd rfl (Or.inl rfl) (.inr rfl))) (fun cl fp s H => (pts_one (pt_val (qD D_law_holds hr (qQ (pv 1) (qQ (qD D_law_values hr (qQ (pv 2) (qQ (pv 0) qX))) qX)))))) (fun cl fp s H => (pv 0))) (pe_lst qX) (xE _)) (qJ (qN (i := 4) sc_law_world.nd rfl (by wtm_at "zo") (pe_tup (qQ qG qX)))) qY)
  (qZ (qN (i := 6) sc_law_world.nd rfl (by wtm_at "zo") (qD D_law_drawn hr (qQ (qD D_law_cell_at hr (qQ (pv 0) (qQ qF qX))) (qQ (pe_lst (qQ (xX op_pow qF qF) (qQ qF (qQ qF qX)))) qX))))
  (qZ (qN (i := 7) sc_law_world.nd rfl (by wtm_at "zo") (qD D_law_unlike hr (qQ (pe_ix (qU (K := K)) (pv 6) qF (fun _ _ => rfl)) (qQ qF qX))))
  (qK (ps_if (qS op_eq (xX op_mod (pe_ix (qU (K := K)) (pv 6) qF (fun _ _ => rfl)) qF) qF (xE _)) (qJ (qN (i := 7) sc_law_world.nd rfl (by wtm_at "zo") (xX op_cat (xX op_cat (xX op_cat (pe_lst (qQ qG (qQ qG (qQ qG qX)))) (pe_slice (sl_listK (K := K)) (pv 7) po_none (po_some qF))) (pe_lst (qQ qG (qQ qG (qQ qG qX))))) (pe_slice (sl_listK (K := K)) (pv 7) (po_some qF) po_none)))) qY)
  (qZ (qN (i := 8) sc_law_world.nd rfl (by wtm_at "zo") (pe_lst qX))
  (qZ (ps_for PassesOwn.never rfl (pi_range1 rfl B.range' (qQ (pe_ix (qU (K := K)) (pv 6) qF (fun _ _ => rfl)) qX)) (qH (i := 9) sc_law_world.nd rfl (by wtm_at "zo")) (qJ (qR (pe_bmK (K := K) PySem.F.plainAttrs_list PySem.F.slot_list_append PySem.F.type_list_append mt_append (pv 8) (qQ (qD D_law_deed hr (qQ (qD D_law_deck hr (qQ (xX op_add (qD D_law_cell_at hr (qQ (pv 0) (qQ (xX op_add qF (pv 9)) qX))) (pv 9)) qX)) (qQ (pe_ix (qU (K := K)) (pv 7) (pv 9) (fun _ _ => rfl)) (qQ (pv 2) qX)))) qX)))))
  (qZ (qN (i := 10) sc_law_world.nd rfl (by wtm_at "zo") (pe_lst qX))
  (qZ (ps_for PassesOwn.never rfl (pi_range1 rfl B.range' (qQ (pe_ix (qU (K := K)) (pv 6) qF (fun _ _ => rfl)) qX)) (qH (i := 9) sc_law_world.nd rfl (by wtm_at "zo")) (qZ (qN (i := 3) sc_law_world.nd rfl (by wtm_at "zo") (qD D_law_deck hr (qQ (xX op_add (qD D_law_cell_at hr (qQ (pv 0) (qQ (xX op_add qF (pv 9)) qX))) (xX op_mulB qF (pv 9))) qX)))
  (qZ (qN (i := 11) sc_law_world.nd rfl (by wtm_at "zo") (xX op_add qF (qD D_law_take hr (qQ (pv 3) (qQ (pe_ix (qU (K := K)) (pe_lst (qQ qF (qQ qF (qQ (xX op_pow qF qF) qX)))) (qD D_law_take hr (qQ (pv 3) (qQ qF qX))) (fun _ _ => rfl)) qX)))))
  (qJ (qR (pe_bmK (K := K) PySem.F.plainAttrs_list PySem.F.slot_list_append PySem.F.type_list_append mt_append (pv 10) (qQ (pe_tup (qQ (pe_ix (qU (K := K)) (pv 7) (xX op_add qF (pv 9)) (fun _ _ => rfl)) (qQ (pv 11) (qQ (qD D_law_expr hr (qQ (pv 3) (qQ (pv 2) (qQ qF qX)))) qX)))) qX)))))))
  (qJ (qO (pe_tup (qQ (pv 1) (qQ (pv 8) (qQ (pv 10) (qQ (pv 4) (qQ (pv 5) qX))))))))))))))))))))), ?_⟩
 wtm_at "zw"
 refine ⟨a, ns, 0, rfl, hS, Int.le_refl 0, fun c => ?_⟩
 wtm_at "zw"
 refine ⟨c, rfl, fun bx bs us H1 hr1 S1 e1 p1 hb1 hb6 hb25 hb200 nmd => ?_⟩
 wtm_at "zw"
 refine ⟨_, rfl, bx, rfl, ⟨us, SqL.of e1⟩, words_read e1 p1 (by omega) fun wd H2 S2 ewd => ?_⟩
 have S02 := S1.trans S2
 wtm_at "zw"
 refine ⟨a, ns, 1, rfl, S02.seq hS, by decide, fun c1 => ?_⟩
 wtm_at "zw"
 refine ⟨c1, rfl, fun dk d hdk => ?_⟩
 have S3 : Same H2 (upd H2 dk (.lst [.int d])) := qV hdk _
 have e3 : upd H2 dk (.lst [.int d]) dk = some (.lst [.int d]) := qW
 generalize upd H2 dk (.lst [.int d]) = H3 at S3 e3
 have wne : bs.map (·.1) ≠ [] := by intro z; have := congrArg List.length z; rw [List.length_map, List.length_nil] at this; omega
 have wle : (bs.map (·.1)).length ≤ 100 := by rw [List.length_map]; omega
 have D3 : Dk H3 dk wd (bs.map (·.1)) := ⟨⟨d, e3⟩, S3 _ _ ewd, wne, wle, qB ewd hdk⟩
 wtm_at "zw"
 refine ⟨dk, wd, bs.map (·.1), 2, rfl, D3, by decide, by decide, fun bt bv H4 B4 D4 bat bcx bdep => ?_⟩
 obtain ⟨d4, e4⟩ := D4.deck
 wtm_at "zw"
 refine ⟨dk, wd, bs.map (·.1), 2, rfl, D4, by decide, by decide, fun gt gv H5 B5 D5 gat gcx gdep => ?_⟩
 obtain ⟨d5, e5⟩ := D5.deck
 have i6 : (2 : Int).toNat + 4 = 6 := rfl
 have S25 : Same H2 H5 := fun b o e => B5 _ _ (qB e hdk) (B4 _ _ (qB e hdk) (S3 _ _ e))
 have bat5 := bat.mono (tups_but B5 e4)
 have ebx5 := S25 _ _ (S2 _ _ e1)
 have pbx5 : Paired (BoxIn H5) bs us := xK (qC (S2.trans S25)) p1
 wtm_at "zw"
 refine ⟨fun σ' H' => ∃ (bv' : V) (bt' : Th), σ' = [some (.ref a), some (.ref bx), some (.ref wd), some (.ref dk), some bv', some gv, none, none, none, none, none, none] ∧ Same H2 H' ∧ bt'.At H' bv' ∧ gt.At H' gv ∧ Cond' (bs.map (·.1)) bt' ∧ bt'.dep ≤ 12 ∧
   ∃ vals ∈ allV bs, bt'.truth (envOf (kvsOf bs vals)) = true, ?_, ?_⟩
 ·wtm_at "zf"
  refine ⟨bx, bs, us, rfl, ebx5, pbx5, hb6, hb25, fun r ss H6 nr S6 er pr => ?_⟩
  have lr := pr.length
  have lal := allV_len hb25 bs.length (Nat.le_refl _)
  rw [List.take_length] at lal
  have p5 := pow56 hb6
  refine ⟨r, rfl, ⟨ss, SqL.of er⟩, ?_⟩
  refine comp_list (xs := ss) (fun D i ys H' => (∀ b o, H6 b = some o → H' b = some o) ∧ ys.length ≤ i ∧ (ys ≠ [] → ∃ vals ∈ allV bs, bt.truth (envOf (kvsOf bs vals)) = true)) (fun D hD => ⟨qV hD _, Nat.le_refl _, fun z => absurd rfl z⟩)
   (fun D i ys H' _ hP => (show Same H6 H' from hP.1).seq (SqL.of er)) (fun D i x ys H' N hD hDy ex hP hN => ?_) (fun D ys H7 hD hDy hP => ?_)
  ·obtain ⟨hk, hyl, hys⟩ := hP
   obtain ⟨vals, ev⟩ : ∃ b, (allV bs)[i]? = some b := ⟨_, List.getElem?_eq_getElem (by rw [lr]; exact (List.getElem?_eq_some_iff.mp ex).1)⟩
   obtain ⟨st, rfl, est⟩ := xV pr ev ex
   have hi : i < ss.length := (List.getElem?_eq_some_iff.mp ex).1
   have S7 : Same H5 H' := S6.trans hk
   have fv := allV_ok (List.mem_of_getElem? ev)
   refine ⟨⟨[some (.ref st)], rfl, rfl⟩, ?_⟩
   refine ⟨_, rfl, _, rfl, _, rfl, bx, st, bs, vals, rfl, ⟨⟨us, S7 _ _ ebx5, xK (qC S7) pbx5⟩, hk _ _ est, fv.stands hb25, by omega⟩, fun p H8 S8 e8 => ?_⟩
   refine ⟨bt, bv, p, _, bs.map (·.1), envOf (kvsOf bs vals), rfl, bat5.mono (qC (S7.trans S8)), bcx, by omega, by omega, e8, env_of (fv.stands hb25), fun H9 S9 => ?_⟩
   have S89 := S8.trans S9
   refine ⟨_, rfl, ?_⟩
   cases et : bt.truth (envOf (kvsOf bs vals)) with
   | true =>
    refine iteT ?_
    refine ⟨_, rfl, S89 _ _ hDy, small2 (by omega), hN _ _ qW ⟨fun b o e => ?_, by rw [List.length_append]; show ys.length + 1 ≤ i + 1; omega, fun _ => ⟨vals, List.mem_of_getElem? ev, et⟩⟩⟩
    rw [qA (qB e hD)]; exact S89 _ _ (hk _ _ e)
   | false =>
    refine iteF ?_
    exact hN _ _ (S89 _ _ hDy) ⟨fun b o e => S89 _ _ (hk _ _ e), by omega, hys⟩
  ·obtain ⟨hk, hyl, hys⟩ := hP
   have S27 : Same H5 H7 := S6.trans hk
   wtm_at "zw"
   refine ⟨(by show 0 ≤ sizeLine; decide), fun e0 he0 => ?_⟩
   have S8 := S27.trans (qV he0 (.lst []))
   refine ⟨D, e0, ys, rfl, rfl, SqL.of (qV he0 _ _ _ hDy), SqL.of qW, ?_⟩
   generalize upd H7 e0 (.lst []) = H8 at S8
   cases ys with
   | nil =>
    refine ⟨true, rfl, iteT ?_⟩
    wtm_at "zw"
    refine ⟨(by show 1 ≤ sizeLine; decide), fun t ht => ?_⟩
    obtain ⟨v0, hv0⟩ := allV_ne bs hb25
    exact ⟨.ref t, .nul "yes", rfl, S25.trans (S8.trans (qV ht _)), ⟨t, rfl, qW⟩, gat.mono (qC (S8.trans (qV ht _))), rfl, by show 1 ≤ 12; decide, v0, hv0, rfl⟩
   | cons y0 yr =>
    refine ⟨false, rfl, iteF ?_⟩
    exact ⟨bv, bt, rfl, S25.trans S8, bat5.mono (qC S8), gat.mono (qC S8), bcx, by omega, hys (by simp)⟩
 rintro σ' H7 ⟨bv', bt', rfl, S7, bat', gat', bcx', bdep', hsome⟩
 have S07 := S02.trans S7
 wtm_at "zw"
 refine ⟨a, ns, 2, rfl, S07.seq hS, by decide, fun c2 => ?_⟩
 wtm_at "zw"
 refine w_I ⟨by decide, by decide, by decide⟩ ?_
 wtm_at "zw"
 refine ⟨(by show 3 ≤ sizeLine; decide), fun l hl => ?_⟩
 wtm_at "zw"
 refine ⟨c2, l, [10 ^ 9, 9, 7], rfl, qW, by decide, by decide, fun dr xs hdr hxl hxb => ?_⟩
 match xs, hxl, hxb with
 | [x0, x1, x2], _, hxb =>
 have b0 := hxb 0 x0 (10 ^ 9) rfl rfl
 have b1 := hxb 1 x1 9 rfl rfl
 have b2 := hxb 2 x2 7 rfl rfl
 have S8 := ((qV hl (.lst [.int (10 ^ (9 : Int).toNat), .int 9, .int 7])).trans (qV hdr (.lst (intsV [x0, x1, x2]))))
 have edr : upd (upd H7 l (.lst [.int (10 ^ (9 : Int).toNat), .int 9, .int 7])) dr (.lst (intsV [x0, x1, x2])) dr = some (.lst (intsV [x0, x1, x2])) := qW
 generalize upd (upd H7 l (.lst [.int (10 ^ (9 : Int).toNat), .int 9, .int 7])) dr (.lst (intsV [x0, x1, x2])) = H8 at S8 edr
 wtm_at "zw"
 refine ⟨x0, 14, rfl, b0.1, by decide, by decide, fun na nm hna hnl plain => ?_⟩
 have S9 := S8.trans (qV hna (.lst (strsV nm)))
 have edr9 := qV hna (.lst (strsV nm)) _ _ edr
 have ena : upd H8 na (.lst (strsV nm)) na = some (.lst (strsV nm)) := qW
 generalize upd H8 na (.lst (strsV nm)) = H9 at S9 edr9 ena
 have nl14 : nm.length = 14 := hnl
 wtm_at "zw"
 refine ⟨fun σ' H' => ∃ (na : Addr) (nm : List Str), σ' = [some (.ref a), some (.ref bx), some (.ref wd), some (.ref dk), some bv', some gv, some (.ref dr), some (.ref na), none, none, none, none] ∧ Same H9 H' ∧ H' na = some (.lst (strsV nm)) ∧ nm.Nodup ∧ 14 ≤ nm.length ∧ (∀ x ∈ nm, Lw x), ?_, ?_⟩
 ·wtm_at "zw"
  refine w_I (show (0 : Int) < 8 by decide) ?_
  wtm_at "zw"
  refine ite2 (fun _ => ?_) (fun _ => ?_)
  ·wtm_at "zw"
   refine ⟨(by show 3 ≤ sizeLine; decide), fun l1 hl1 => ?_⟩
   wtm_at "zw"
   refine ⟨na, _, rfl, SqL.of (qV hl1 _ _ _ ena), fun l2 hl2 => ?_⟩
   rw [show cutV (strsV nm) none (some 5) = strsV (nm.take 5) from cut_take nm 5]
   refine ⟨l1, l2, _, _, rfl, rfl, qV hl2 _ _ _ qW, qW, ?_, fun l3 hl3 => ?_⟩
   ·rw [xA, List.length_take]; exact smallE (by show 3 + _ ≤ _; omega)
   wtm_at "zw"
   refine ⟨(by show 3 ≤ sizeLine; decide), fun l4 hl4 => ?_⟩
   refine ⟨l3, l4, _, _, rfl, rfl, qV hl4 _ _ _ qW, qW, ?_, fun l5 hl5 => ?_⟩
   ·rw [List.length_append, xA, List.length_take]; exact smallE (by show 3 + _ + 3 ≤ _; omega)
   have Sx := (((((qV hl1 (.lst [.str "not", .str "and", .str "yes"])).trans (qV hl2 (.lst (strsV (nm.take 5))))).trans (qV hl3 (.lst ([.str "not", .str "and", .str "yes"] ++ strsV (nm.take 5))))).trans
    (qV hl4 (.lst [.str "way", .str "end", .str "one"]))).trans (qV hl5 (.lst ([.str "not", .str "and", .str "yes"] ++ strsV (nm.take 5) ++ [.str "way", .str "end", .str "one"]))))
   wtm_at "zw"
   refine ⟨na, _, rfl, SqL.of (Sx _ _ ena), fun l6 hl6 => ?_⟩
   rw [show cutV (strsV nm) (some 5) none = strsV (nm.drop 5) from cut_drop nm 5]
   refine ⟨l5, l6, _, _, rfl, rfl, qV hl6 _ _ _ qW, qW, ?_, fun l7 hl7 => ?_⟩
   ·rw [List.length_append, List.length_append, xA, xA, List.length_take, List.length_drop]; exact smallE (by show 3 + _ + 3 + _ ≤ _; omega)
   refine ⟨l7, ([("not" : Str), "and", "yes"] : List Str) ++ nm.take 5 ++ ([("way" : Str), "end", "one"] : List Str) ++ nm.drop 5, rfl, Sx.trans ((qV hl6 _).trans (qV hl7 _)), ?_, odd_nodup plain, ?_, fun x hx => ?_⟩
   ·rw [qW, strsV_app, strsV_app, strsV_app]; rfl
   ·rw [List.length_append, List.length_append, List.length_append, List.length_take, List.length_drop]
    show 14 ≤ 3 + _ + 3 + _
    omega
   ·rcases List.mem_append.mp hx with h | h
    ·rcases List.mem_append.mp h with h | h
     ·rcases List.mem_append.mp h with h | h
      ·exact odd_low x (List.mem_append.mpr (.inl h))
      ·exact ⟨plain.le x (List.mem_of_mem_take h), plain.low x (List.mem_of_mem_take h)⟩
     ·exact odd_low x (List.mem_append.mpr (.inr h))
    ·exact ⟨plain.le x (List.mem_of_mem_drop h), plain.low x (List.mem_of_mem_drop h)⟩
  ·exact ⟨na, nm, rfl, Same.refl _, ena, plain.nd, by omega, fun x hx => ⟨plain.le x hx, plain.low x hx⟩⟩
 rintro σ' H10 ⟨na, nm, rfl, S10, ena, ndn, nl, shn⟩
 have edr10 := S10 _ _ edr9
 have S0A : Same H H10 := S07.trans (S9.trans S10)
 have S2A : Same H2 H10 := S7.trans (S9.trans S10)
 have ewdA := S2A _ _ ewd
 wtm_at "zw"
 refine ⟨(by show 0 ≤ sizeLine; decide), fun da hda => ?_⟩
 have edr11 := qV hda (.lst []) _ _ edr10
 wtm_at "zf"
 refine ⟨x1, rfl, by omega, by omega, ?_⟩
 refine for_rangeN (fun i σ' H' => ∃ (du : List V) (ps : List (Deed × V × List (List V))) (z9 : Option V), σ' = [some (.ref a), some (.ref bx), some (.ref wd), some (.ref dk), some bv', some gv, some (.ref dr), some (.ref na), some (.ref da), z9, none, none] ∧
   (∀ b o, H10 b = some o → H' b = some o) ∧ H' da = some (.lst du) ∧ Paired (fun p u => DeedAt (fun b => b ≠ da) H' p.1.name p.1.price p.2 u) ps du ∧ (∀ p ∈ ps, DeedDat H' p.1 p.2 ∧ DeedOk (bs.map (·.1)) p.1) ∧ ps.map (fun p => p.1.name) = nm.take i)
  ⟨[], [], none, rfl, qV hda _, qW, .nil, (fun p hp => by cases hp), rfl⟩ ?_ ?_
 ·rintro N rt bk i σ' H11 hi ⟨du, ps, z9, rfl, k11, eda, pds, pok, pnm⟩ hN
  have S11 : Same H10 H11 := k11
  have hi8 : i < 8 := by omega
  have ldu := pds.length
  have lps := congrArg List.length pnm
  rw [List.length_map, List.length_take] at lps
  obtain ⟨nmi, enmi⟩ : ∃ x, nm[i]? = some x := ⟨_, List.getElem?_eq_getElem (by omega)⟩
  have atn : atI (strsV nm) (0 + (i : Int)) = some (.str nmi) := by rw [Int.zero_add]; exact atI_nat (by rw [List.getElem?_map, enmi]; rfl)
  wtm_at "zw"
  refine ⟨.inl ⟨rfl, _, SqL.of eda⟩, ?_⟩
  wtm_at "zw"
  refine ⟨a, ns, _, rfl, (S0A.trans S11).seq hS, by omega, fun c3 => ?_⟩
  wtm_at "zw"
  refine ⟨_, rfl, fun dk2 d2 hdk2 => ?_⟩
  have ewd12 := qV hdk2 (.lst [.int d2]) _ _ (S11 _ _ ewdA)
  have ndd : da ≠ dk2 := qB eda hdk2
  wtm_at "zw"
  refine ⟨dk2, wd, nmi, bs.map (·.1), rfl, ⟨⟨d2, qW⟩, ewd12, wne, wle, qB (S11 _ _ ewdA) hdk2⟩, nmd.nd, fun dd dc u H12 en dok B12 dat dat2 => ?_⟩
  have K12 : ∀ b o, H11 b = some o → H12 b = some o := fun b o e => B12 _ _ (qB e hdk2) (qV hdk2 _ _ _ e)
  have eda12 := K12 _ _ eda
  refine ⟨da, du, u, rfl, rfl, eda12, small (by omega), ?_⟩
  have T12 : Tups H12 (upd H12 da (.lst (du ++ [u]))) := fun b xs e => by rw [qA (ne_of e eda12 (by intro z; cases z))]; exact e
  have T11 : Tups H11 (upd H12 da (.lst (du ++ [u]))) := (qC (show Same H11 H12 from K12)).trans T12
  refine hN _ _ ⟨du ++ [u], ps ++ [(dd, dc)], _, rfl, fun b o e => ?_, qW, ?_, fun p hp => ?_, ?_⟩
  ·rw [qA (qB e hda)]; exact K12 _ _ (k11 _ _ e)
  ·refine Paired.snoc (Paired.mapP pds fun _ _ z => z.move (fun b o okb e => ?_) T11 fun _ z => z) (dat2.move (fun b o okb e => ?_) T12 fun b okb => ?_)
   ·rw [qA okb]; exact K12 _ _ e
   ·rw [qA (fun z => by subst z; rw [qV hdk2 _ _ _ eda] at okb; cases okb)]; exact e
   ·intro z; subst z; rw [qV hdk2 _ _ _ eda] at okb; cases okb
  ·rcases List.mem_append.mp hp with h | h
   ·exact ⟨(pok p h).1.tups T11, (pok p h).2⟩
   ·rw [List.mem_singleton.mp h]; exact ⟨dat.tups T12, dok⟩
  ·rw [List.map_append, pnm, List.take_add_one, enmi, ← en]; rfl
 rintro σ' H11 ⟨du, ps, z9, rfl, k11, eda, pds, pok, pnm⟩
 have S11 : Same H10 H11 := k11
 have edr12 := S11 _ _ edr10
 wtm_at "zw"
 refine ⟨(by show 0 ≤ sizeLine; decide), fun la hla => ?_⟩
 have edr13 := qV hla (.lst []) _ _ edr12
 wtm_at "zf"
 refine ⟨x2, rfl, by omega, by omega, ?_⟩
 refine for_rangeN (fun i σ' H' => ∃ (lu : List V) (lks : List Look) (z3 z9 z11 : Option V), σ' = [some (.ref a), some (.ref bx), some (.ref wd), z3, some bv', some gv, some (.ref dr), some (.ref na), some (.ref da), z9, some (.ref la), z11] ∧
   (∀ b o, H11 b = some o → H' b = some o) ∧ H' la = some (.lst lu) ∧ Paired (LookIn H') lks lu ∧ (∀ l ∈ lks, LookOk (bs.map (·.1)) l) ∧ lks.map Look.name = (nm.drop 8).take i)
  ⟨[], [], _, _, none, rfl, qV hla _, qW, .nil, (fun p hp => by cases hp), rfl⟩ ?_ ?_
 ·rintro N rt bk i σ' H12 hi ⟨lu, lks, z3, z9, z11, rfl, k12, ela, pls, lok, lnm⟩ hN
  have S12 : Same H11 H12 := k12
  have hi6 : i < 6 := by omega
  have llu := pls.length
  have lls := congrArg List.length lnm
  rw [List.length_map, List.length_take, List.length_drop] at lls
  obtain ⟨nmi, enmi⟩ : ∃ x, (nm.drop 8)[i]? = some x := ⟨_, List.getElem?_eq_getElem (by rw [List.length_drop]; omega)⟩
  have atn : atI (strsV nm) (8 + (0 + (i : Int))) = some (.str nmi) := by
   have e : (8 : Int) + (0 + (i : Int)) = ((8 + i : Nat) : Int) := by omega
   rw [e]
   exact atI_nat (by rw [List.getElem?_map, ← List.getElem?_drop, enmi]; rfl)
  wtm_at "zw"
  refine ⟨a, ns, _, rfl, (S0A.trans (S11.trans S12)).seq hS, by omega, fun c3 => ?_⟩
  wtm_at "zw"
  refine w_I ⟨by decide +kernel, big _ (by omega) (Int.lt_of_le_of_lt (b := 100) (by omega) (by decide +kernel))⟩ ?_
  wtm_at "zw"
  refine ⟨_, rfl, fun dk2 d2 hdk2 => ?_⟩
  have ewd12 := qV hdk2 (.lst [.int d2]) _ _ (S12 _ _ (S11 _ _ ewdA))
  have nwd := qB (S12 _ _ (S11 _ _ ewdA)) hdk2
  refine price_read rfl qW fun pr d3 H13 hpr B13 e13 => ?_
  have K13 : ∀ b o, H12 b = some o → H13 b = some o := fun b o e => B13 _ _ (qB e hdk2) (qV hdk2 _ _ _ e)
  have S13 : Same H12 H13 := K13
  have ena13 := S13 _ _ (S12 _ _ (S11 _ _ ena))
  wtm_at "zw"
  refine ⟨.inl ⟨rfl, _, SqL.of (S13 _ _ ela)⟩, ?_⟩
  wtm_at "zw"
  refine ⟨dk2, wd, bs.map (·.1), 2, rfl, ⟨⟨d3, e13⟩, S13 _ _ (S12 _ _ (S11 _ _ ewdA)), wne, wle, nwd⟩, by decide, by decide, fun t v H14 B14 D14 At Ex Dep => ?_⟩
  have K14 : ∀ b o, H12 b = some o → H14 b = some o := fun b o e => B14 _ _ (qB e hdk2) (K13 _ _ e)
  wtm_at "zw"
  refine ⟨(by show 3 ≤ sizeLine; decide), fun ta hta => ?_⟩
  have ela14 := K14 _ _ ela
  have lta : la ≠ ta := qB ela14 hta
  refine ⟨la, lu, .ref ta, rfl, rfl, qV hta _ _ _ ela14, small (by omega), ?_⟩
  have T14 : Tups H14 (upd (upd H14 ta (.tup [.str nmi, .int pr, v])) la (.lst (lu ++ [.ref ta]))) := fun b xs e => by
   rw [qA (ne_of e ela14 (by intro z; cases z))]; exact qV hta _ _ _ e
  have i3 : (2 : Int).toNat + 1 = 3 := rfl
  refine hN _ _ ⟨lu ++ [.ref ta], lks ++ [⟨nmi, pr, t⟩], _, _, _, rfl, fun b o e => ?_, qW, Paired.snoc (looks_mono ((qC (show Same H12 H14 from K14)).trans T14) pls) ⟨ta, v, rfl, by rw [qA (Ne.symm lta)]; exact qW, At.mono T14⟩, fun l hl => ?_, ?_⟩
  ·rw [qA (qB e hla)]; exact qV hta _ _ _ (K14 _ _ (k12 _ _ e))
  ·rcases List.mem_append.mp hl with h | h
   ·exact lok l h
   ·rw [List.mem_singleton.mp h]; exact ⟨hpr, Ex, by show t.dep ≤ 12; omega⟩
  ·rw [List.map_append, lnm, List.take_add_one, enmi]; rfl
 rintro σ' H12 ⟨lu, lks, z3, z9, z11, rfl, k12, ela, pls, lok, lnm⟩
 have S12 : Same H11 H12 := k12
 wtm_at "zw"
 refine ⟨(by show 5 ≤ sizeLine; decide), fun p hp => ?_⟩
 have Sf := qV hp (.tup [.ref bx, .ref da, .ref la, bv', gv])
 have SB : Same H11 (upd H12 p (.tup [.ref bx, .ref da, .ref la, bv', gv])) := S12.trans Sf
 have ep : upd H12 p (.tup [.ref bx, .ref da, .ref la, bv', gv]) p = some (.tup [.ref bx, .ref da, .ref la, bv', gv]) := qW
 have ela' := Sf _ _ ela
 have pls' := looks_mono (qC Sf) pls
 generalize upd H12 p (.tup [.ref bx, .ref da, .ref la, bv', gv]) = H13 at SB ep ela' pls' Sf
 have S2B : Same H2 H13 := S2A.trans (S11.trans SB)
 have S7B : Same H7 H13 := (S9.trans S10).trans (S11.trans SB)
 have pds' := Paired.mapP pds fun _ _ z => z.move (ok' := fun b => b ≠ da) (fun b o _ e => SB _ _ e) (qC SB) fun _ z => z
 have pdj := deeds_join (fun p hp => (pok p hp).1.same SB) pds'
 have lps := congrArg List.length pnm
 have lls := congrArg List.length lnm
 rw [List.length_map, List.length_take] at lps lls
 refine q p ⟨bs, ps.map (·.1), lks, bt', gt⟩ bx da la bv' gv H13 (S0A.trans (S11.trans SB)) ep
  ⟨⟨us, S2B _ _ (S2 _ _ e1), xK (qC (S2.trans S2B)) p1⟩, ⟨du, SB _ _ eda, pdj⟩, ⟨lu, ela', pls'⟩, bat'.mono (qC S7B), gat'.mono (qC S7B)⟩
  ⟨hb1, hb6, hb25, hb200, nmd, ?_, ?_, ?_, fun d hd => ?_, lok, bcx', bdep', gcx, by show gt.dep ≤ 12; omega, hsome, fun x hx => ?_⟩
 ·show (ps.map (·.1)).length ≤ 100
  rw [List.length_map]; omega
 ·show lks.length ≤ 100
  omega
 ·show ((ps.map (·.1)).map Deed.name ++ lks.map Look.name).Nodup
  rw [List.map_map, lnm]
  have e : ps.map (Deed.name ∘ fun x => x.1) = nm.take x1.toNat := pnm
  rw [e]
  refine List.Sublist.nodup ?_ ndn
  have e8 : nm = nm.take 8 ++ nm.drop 8 := (List.take_append_drop 8 nm).symm
  rw [show List.Sublist (nm.take x1.toNat ++ (nm.drop 8).take x2.toNat) nm ↔ List.Sublist (nm.take x1.toNat ++ (nm.drop 8).take x2.toNat) (nm.take 8 ++ nm.drop 8) by rw [← e8]]
  refine List.Sublist.append ?_ (List.take_sublist _ _)
  have : nm.take x1.toNat = (nm.take 8).take x1.toNat := by rw [List.take_take, Nat.min_eq_left (by omega)]
  rw [this]
  exact List.take_sublist _ _
 ·obtain ⟨pp, hpp, rfl⟩ := List.mem_map.mp hd
  exact (pok pp hpp).2
 ·have hx : x ∈ (ps.map (·.1)).map Deed.name ++ lks.map Look.name := hx
  rw [List.map_map, lnm] at hx
  have e : ps.map (Deed.name ∘ fun x => x.1) = nm.take x1.toNat := pnm
  rw [e] at hx
  rcases List.mem_append.mp hx with h | h
  ·exact shn x (List.mem_of_mem_take h)
  ·exact shn x (List.mem_of_mem_drop (List.mem_of_mem_take h))

noncomputable def sizeOf' (bs : List (Str × Int)) (x : Str) : Int := match bs.lookup x with
 | some z => z
 | none => 1
noncomputable def behindV (bs : List (Str × Int)) (wy : List (Str × Th)) (vals : List Int) : List Int := (bs.zip vals).map fun p => match wy.lookup p.1.1 with
 | some t => t.worth (envOf (kvsOf bs vals)) % p.1.2
 | none => p.2
noncomputable def putsK (bs : List (Str × Int)) (ρ : Str → Int) (acc : List (Key × V)) (wy : List (Str × Th)) : List (Key × V) := wy.foldl (fun a c => putK a (Sum.inr c.1) (.int (c.2.worth ρ % sizeOf' bs c.1))) acc
theorem puts_snoc {bs : List (Str × Int)} {ρ : Str → Int} {acc : List (Key × V)} {wy : List (Str × Th)} {i : Nat} {c : Str × Th} (h : wy[i]? = some c) : putsK bs ρ acc (wy.take (i + 1)) = putK (putsK bs ρ acc (wy.take i)) (Sum.inr c.1) (.int (c.2.worth ρ % sizeOf' bs c.1)) := by
 unfold putsK
 rw [List.take_add_one, h, List.foldl_append]
 rfl
theorem puts_val {bs : List (Str × Int)} {ρ : Str → Int} {x : Str} : ∀ (wy : List (Str × Th)) (acc : List (Key × V)), (wy.map (·.1)).Nodup → valV (putsK bs ρ acc wy) (Sum.inr x) = (match wy.lookup x with | some t => some (.int (t.worth ρ % sizeOf' bs x)) | none => valV acc (Sum.inr x))
 | [], acc, _ => rfl
 | (n, t) :: wy, acc, nd => by
  have nd' := List.nodup_cons.mp nd
  show valV (putsK bs ρ (putK acc (Sum.inr n) (.int (t.worth ρ % sizeOf' bs n))) wy) (Sum.inr x) = _
  rw [puts_val wy _ nd'.2]
  by_cases e : x = n
  ·subst e
   rw [look_no nd'.1, look_self]
   show valV (putK acc (Sum.inr x) _) (Sum.inr x) = _
   rw [valV_put, if_pos rfl]
  ·rw [look_next t wy (by simpa using e)]
   cases wy.lookup x with
   | some u => rfl
   | none =>
    show valV (putK acc (Sum.inr n) _) (Sum.inr x) = valV acc (Sum.inr x)
    rw [valV_put, if_neg (fun z => e (Sum.inr.inj z))]
theorem putK_len {kvs : List (Key × V)} {k : Key} {v : V} : (putK kvs k v).length ≤ kvs.length + 1 := by
 unfold putK
 split
 ·rw [List.length_map]; omega
 ·rw [List.length_append]; show kvs.length + 1 ≤ _; omega
theorem puts_len {bs : List (Str × Int)} {ρ : Str → Int} : ∀ (wy : List (Str × Th)) (acc : List (Key × V)), (putsK bs ρ acc wy).length ≤ acc.length + wy.length
 | [], acc => Nat.le_refl _
 | c :: wy, acc => by
  have h1 := puts_len (bs := bs) (ρ := ρ) wy (putK acc (Sum.inr c.1) (.int (c.2.worth ρ % sizeOf' bs c.1)))
  have h2 := putK_len (kvs := acc) (k := Sum.inr c.1) (v := .int (c.2.worth ρ % sizeOf' bs c.1))
  show (putsK bs ρ (putK acc (Sum.inr c.1) (.int (c.2.worth ρ % sizeOf' bs c.1))) wy).length ≤ acc.length + (wy.length + 1)
  omega
theorem kvs_len (bs : List (Str × Int)) (vals : List Int) : (kvsOf bs vals).length ≤ bs.length := by
 have := length_mergeK (zipK (bs.map (·.1)) (intsV vals)) []
 unfold zipK at this
 rw [List.length_map, List.length_zip, List.length_map, List.length_nil] at this
 unfold kvsOf zipK
 omega
theorem kvs_val {bs : List (Str × Int)} {vals : List Int} {i : Nat} {b : Str × Int} {v : Int} (nd : (bs.map (·.1)).Nodup) (hl : vals.length = bs.length) (eb : bs[i]? = some b) (ev : vals[i]? = some v) : valV (kvsOf bs vals) (Sum.inr b.1) = some (.int v) := by
 have e : ((bs.map (fun b : Str × Int => b.1)).zip (intsV vals)).map (·.1) = bs.map (·.1) := List.map_fst_zip (by rw [List.length_map, intsV_len, hl]; exact Nat.le_refl _)
 show valV (mergeK [] (pairK ((bs.map (fun b : Str × Int => b.1)).zip (intsV vals)))) (Sum.inr b.1) = _
 rw [merge_val _ _ (by rw [e]; exact nd)]
 have ez : ((bs.map (fun b : Str × Int => b.1)).zip (intsV vals))[i]? = some (b.1, .int v) := List.getElem?_zip_eq_some.mpr ⟨by rw [List.getElem?_map, eb]; rfl, by rw [List.getElem?_map, ev]; rfl⟩
 rw [look_at (by rw [e]; exact nd) ez]
theorem size_at {bs : List (Str × Int)} {i : Nat} {b : Str × Int} (nd : (bs.map (·.1)).Nodup) (eb : bs[i]? = some b) : sizeOf' bs b.1 = b.2 := by
 unfold sizeOf'
 rw [look_at (v := b.2) nd eb]
theorem behind_at {bs : List (Str × Int)} {wy : List (Str × Th)} {vals : List Int} {i : Nat} {b : Str × Int} {v : Int} (eb : bs[i]? = some b) (ev : vals[i]? = some v) :
  (behindV bs wy vals)[i]? = some (match wy.lookup b.1 with | some t => t.worth (envOf (kvsOf bs vals)) % b.2 | none => v) := by
 unfold behindV
 have ez : (bs.zip vals)[i]? = some (b, v) := List.getElem?_zip_eq_some.mpr ⟨eb, ev⟩
 rw [List.getElem?_map, ez]
 rfl
theorem behind_len {bs : List (Str × Int)} {wy : List (Str × Th)} {vals : List Int} (hl : vals.length = bs.length) : (behindV bs wy vals).length = bs.length := by
 unfold behindV
 rw [List.length_map, List.length_zip, hl, Nat.min_self]
theorem box_pairs {H : Hp} {bs : List (Str × Int)} {us : List V} (p : Paired (BoxIn H) bs us) : Paired (PairIn H) (bs.map fun b => (b.1, V.int b.2)) us := by
 induction p with
 | nil => exact .nil
 | cons h _ ih =>
  obtain ⟨a, e, q⟩ := h
  exact .cons ⟨a, e, q⟩ ih
noncomputable def spBehind : Sp := fun vs H Q _ => ∃ (bx wa st : Addr) (bs : List (Str × Int)) (wy : List (Str × Th)) (vals : List Int) (us cs : List V), vs = [.ref bx, .ref wa, .ref st] ∧ H bx = some (.lst us) ∧ Paired (BoxIn H) bs us ∧ (bs.map (·.1)).Nodup ∧ bs.length ≤ 100 ∧
 (∀ b ∈ bs, 2 ≤ b.2 ∧ b.2 ≤ 5) ∧ H wa = some (.lst cs) ∧ Paired (ChangeIn H) wy cs ∧ WayOk (bs.map (·.1)) wy ∧ H st = some (.tup (intsV vals)) ∧ Fits bs vals ∧ ∀ (r : Addr) (H' : Hp), Same H H' → H' r = some (.tup (intsV (behindV bs wy vals))) → Q (.ref r) H'
theorem sc_behind_way : FnScope ["boxes", "way", "standing", "sizes", "ahead", "behind", "name", "expression"] ["boxes", "way", "standing"] (xB (top 28)) := ⟨rfl, rfl, rfl, by decide +kernel, rfl, by decide +kernel, by decide +kernel⟩
theorem co_behind_way1 : CompOk (xB (top 28)) ["boxes", "way", "standing", "sizes", "ahead", "behind", "name", "expression"] (scAt (xC (top 28)) [4] [1]) ["name", "size", "behind"] 2 [5] :=
 ⟨by decide +kernel, by decide +kernel, by decide +kernel, by decide +kernel, by decide +kernel, by decide +kernel, by decide +kernel, by decide +kernel⟩
theorem dn_behind (F : Fd K mg "behind_way" (top 28) ["boxes", "way", "standing"]) (B : Bl mg) (D_values_by_name : Dn P w K mg base "values_by_name" 1 ["boxes", "standing"] spValues) (D_worth_by : Dn P w K mg base "worth_by" 13 ["expression", "values"] (spWorthBy 12)) :
  Dn P w K mg base "behind_way" 14 ["boxes", "way", "standing"] spBehind := by
 refine F.ok sc_behind_way (fun vs H Q E h => ?_) (fun f cdv A outer s H vs Q E hr h => ?_)
 ·obtain ⟨_, _, _, _, _, _, _, _, rfl, _⟩ := h
  rfl
 obtain ⟨bx, wa, st, bs, wy, vals, us, cs, rfl, ebx, pb, nd, hbl, h25, ewa, pc, wok, est, fits, q⟩ := h
 have hu := hu_of hr
 have fs := fits.stands h25
 have env := env_of fs
 refine ⟨_, (qZ (qN (i := 3) sc_behind_way.nd rfl (by wtm_at "zo") (xZ (call_dict_of rfl) rfl B.dict' bt_dict (qQ (pv 0) qX)))
  (qZ (qN (i := 4) sc_behind_way.nd rfl (by wtm_at "zo") (qD D_values_by_name hr (qQ (pv 0) (qQ (pv 2) qX))))
  (qZ (qN (i := 5) sc_behind_way.nd rfl (by wtm_at "zo") (xZ call_dict_copy rfl B.dict' bt_dict (qQ (pv 4) qX)))
  (qZ (ps_for PassesOwn.never rfl (xQ (K := K) (pv 1)) (pg_tupK (K := K) (n := 2) rfl (qI (qH (i := 6) sc_behind_way.nd rfl (by wtm_at "zo")) (qI (qH (i := 7) sc_behind_way.nd rfl (by wtm_at "zo")) qM))) (qJ (ps_dput hu (pv 5) (pv 6) (xX op_mod (qD D_worth_by hr (qQ (pv 7) (qQ (pv 4) qX))) (pe_dget hu (pv 3) (pv 6) (fun _ _ => rfl))) rfl)))
  (qJ (qO (xZ (call_tupleK (K := K)) rfl B.tuple' bt_tuple (qQ (pe_comp rfl co_behind_way1 (xQ (K := K) (pv 0)) (fun cl fp s H => (pg_tupK (K := K) (n := 2) rfl (qI (qH (i := 0) co_behind_way1.nd rfl (Or.inl rfl) (.inr rfl)) (qI (qH (i := 1) co_behind_way1.nd rfl (Or.inl rfl) (.inr rfl)) qM)))) (fun cl fp s H => pts_nil) (fun cl fp s H => (pe_dget hu (pv 2) (pv 0) (fun _ _ => rfl)))) qX)))))))), ?_⟩
 wtm_at "zw"
 refine ⟨bx, us, _, rfl, ebx, box_pairs pb, by rw [List.length_map]; omega, fun sz hsz => ?_⟩
 have S1 := qV hsz (.dK (mergeK [] (pairK (bs.map fun b => (b.1, V.int b.2)))))
 have esz : upd H sz (.dK (mergeK [] (pairK (bs.map fun b => (b.1, V.int b.2))))) sz = some (.dK (mergeK [] (pairK (bs.map fun b => (b.1, V.int b.2))))) := qW
 generalize upd H sz (.dK (mergeK [] (pairK (bs.map fun b => (b.1, V.int b.2))))) = H1 at S1 esz
 wtm_at "zw"
 refine ⟨bx, st, bs, vals, rfl, ⟨⟨us, S1 _ _ ebx, xK (qC S1) pb⟩, S1 _ _ est, fs, hbl⟩, fun ah H2 S2 eah => ?_⟩
 wtm_at "zw"
 refine ⟨ah, _, rfl, eah, fun be hbe => ?_⟩
 have S3 : Same H1 (upd H2 be (.dK (kvsOf bs vals))) := S2.trans (qV hbe _)
 have S03 := S1.trans S3
 have ebe : upd H2 be (.dK (kvsOf bs vals)) be = some (.dK (kvsOf bs vals)) := qW
 have eah3 := qV hbe (.dK (kvsOf bs vals)) _ _ eah
 have nbe : H1 be = none := S2.free hbe
 have nahb : ah ≠ be := qB eah hbe
 generalize upd H2 be (.dK (kvsOf bs vals)) = H3 at S3 S03 ebe eah3
 wtm_at "zf"
 refine ⟨wa, rfl, ⟨cs, SqL.of (S03 _ _ ewa)⟩, ?_⟩
 have lc := pc.length
 have wle := wok.le
 have kl := kvs_len bs vals
 have nwb : wa ≠ be := qB (S1 _ _ ewa) nbe
 refine for_listN (xs := cs) (fun i σ' H' => ∃ z6 z7 : Option V, σ' = [some (.ref bx), some (.ref wa), some (.ref st), some (.ref sz), some (.ref ah), some (.ref be), z6, z7] ∧ But be H3 H' ∧ H' be = some (.dK (putsK bs (envOf (kvsOf bs vals)) (kvsOf bs vals) (wy.take i))))
  ⟨none, none, rfl, But.refl _, ebe⟩ (fun i σ' H' _ hP => ?_) (fun N rt bk i x σ' H' ex hP hN => ?_) (fun σ' H' hP => ?_)
 ·obtain ⟨_, _, rfl, hb, _⟩ := hP
  exact SqL.of (hb _ _ nwb (S03 _ _ ewa))
 ·obtain ⟨z6, z7, rfl, hb, ebe'⟩ := hP
  have hi : i < wy.length := by rw [lc]; exact (List.getElem?_eq_some_iff.mp ex).1
  obtain ⟨c, ec⟩ : ∃ b, wy[i]? = some b := ⟨_, List.getElem?_eq_getElem hi⟩
  obtain ⟨ca, cv, rfl, eca, cat⟩ := xV pc ec ex
  obtain ⟨o1, o2, o3⟩ := wok.ok c (List.mem_of_getElem? ec)
  have T3 : Tups H H' := (qC S03).trans fun b ys e => hb _ _ (ne_of e ebe (by intro z; cases z)) e
  have eca' := T3 _ _ eca
  obtain ⟨b, hbm, eb1⟩ := List.mem_map.mp o1
  obtain ⟨k, ek⟩ := List.mem_iff_getElem?.mp hbm
  have hb25 := h25 b hbm
  have zs := size_at nd ek
  wtm_at "zw"
  refine ⟨c.2, cv, ah, _, _, envOf (kvsOf bs vals), rfl, cat.mono T3, o2, o3, hb _ _ nahb eah3, env, ?_⟩
  wtm_at "zw"
  refine ⟨sz, .int (sizeOf' bs c.1), rfl, ?_, ?_⟩
  ·have hv : valV (mergeK [] (pairK (bs.map fun b => (b.1, V.int b.2)))) (Sum.inr c.1) = some (.int (sizeOf' bs c.1)) := by
    have e2 : (bs.map fun b => (b.1, V.int b.2)).map (·.1) = bs.map (·.1) := by rw [List.map_map]; rfl
    rw [merge_val _ _ (by rw [e2]; exact nd), ← eb1, look_at (v := .int b.2) (i := k) (by rw [e2]; exact nd) (by rw [List.getElem?_map, ek]; rfl), zs]
   rw [← hv]
   exact DGet.k (k := Sum.inr c.1) (hb _ _ (qB esz nbe) (S3 _ _ esz))
  refine w_I (show 0 < sizeOf' bs c.1 by rw [← eb1, zs]; omega) ?_
  wtm_at "zw"
  have pl := puts_len (bs := bs) (ρ := envOf (kvsOf bs vals)) (wy.take i) (kvsOf bs vals)
  rw [List.length_take] at pl
  refine ⟨be, _, rfl, DPut.k (k := Sum.inr c.1) ebe' (small (by omega)), ?_⟩
  refine hN _ _ ⟨_, _, rfl, hb.trans But.upd, ?_⟩
  rw [qW, puts_snoc ec]
 obtain ⟨z6, z7, rfl, hb, ebe'⟩ := hP
 rw [← lc, List.take_length] at ebe'
 have K3 : ∀ b o, H b = some o → H' b = some o := fun b o e => hb _ _ (qB (S1 _ _ e) nbe) (S03 _ _ e)
 have S4 : Same H H' := K3
 have lb := pb.length
 wtm_at "zw"
 refine ⟨_, rfl, bx, rfl, ⟨us, SqL.of (S4 _ _ ebx)⟩, ?_⟩
 refine comp_list (xs := us) (fun D i ys H'' => ys = intsV ((behindV bs wy vals).take i) ∧ ∀ b o, H' b = some o → H'' b = some o) (fun D hD => ⟨rfl, qV hD _⟩)
  (fun D i ys H'' _ hP => SqL.of (hP.2 _ _ (S4 _ _ ebx))) (fun D i x ys H'' N hD hDy ex hP hN => ?_) (fun D ys H5 hD hDy hP => ?_)
 ·obtain ⟨rfl, hk⟩ := hP
  have hi : i < bs.length := by rw [lb]; exact (List.getElem?_eq_some_iff.mp ex).1
  obtain ⟨b, eb⟩ : ∃ b, bs[i]? = some b := ⟨_, List.getElem?_eq_getElem hi⟩
  obtain ⟨v, ev⟩ : ∃ v, vals[i]? = some v := ⟨_, List.getElem?_eq_getElem (by rw [fits.1]; exact hi)⟩
  obtain ⟨ba, rfl, hba⟩ := xV pb eb ex
  have bat := behind_at (wy := wy) eb ev
  have hv : valV (putsK bs (envOf (kvsOf bs vals)) (kvsOf bs vals) wy) (Sum.inr b.1) = some (.int (match wy.lookup b.1 with | some t => t.worth (envOf (kvsOf bs vals)) % b.2 | none => v)) := by
   rw [puts_val _ _ wok.nd, size_at nd eb, kvs_val nd fits.1 eb ev]
   cases wy.lookup b.1 <;> rfl
  refine ⟨ba, _, rfl, SqT.of (hk _ _ (S4 _ _ hba)), rfl, _, _, rfl, _, _, rfl, rfl, ⟨[some (.str b.1), some (.int b.2)], rfl, rfl⟩, ?_⟩
  refine ⟨_, rfl, _, rfl, be, _, rfl, (by rw [← hv]; exact DGet.k (k := Sum.inr b.1) (hk _ _ ebe')), hDy, ?_, hN _ _ qW ⟨?_, fun b o e => ?_⟩⟩
  ·rw [intsV_len, List.length_take]; exact small (by omega)
  ·rw [List.take_add_one, bat, ← intsV_snoc]; rfl
  ·rw [qA (qB e hD)]; exact hk _ _ e
 obtain ⟨rfl, hk⟩ := hP
 rw [← lb, List.take_of_length_le (by rw [behind_len fits.1]; exact Nat.le_refl _)] at hDy
 wtm_at "zw"
 refine ⟨D, _, rfl, SqL.of hDy, fun r hr' => ?_⟩
 exact q r _ (S4.trans ((show Same H' H5 from hk).trans (qV hr' _))) qW

theorem sc_named : FnScope ["things", "name", "kind", "thing"] ["things", "name", "kind"] (xB (top 26)) := ⟨rfl, rfl, rfl, by decide +kernel, rfl, by decide +kernel, by decide +kernel⟩
noncomputable def Short (x : Str) : Prop := x.length ≤ 1000 ∧ (reprText x).length ≤ 100000
theorem fold_low {q : Nat} : ∀ (l : List Nat) (n : Nat), (∀ c ∈ l, (Builtin.Str.reprChar q c).length ≤ 1) → l.foldl (fun n c => n + (Builtin.Str.reprChar q c).length) n ≤ n + l.length
 | [], n, _ => by simp
 | c :: l, n, h => by
  have h1 := h c (List.mem_cons_self ..)
  have ih := fold_low l (n + (Builtin.Str.reprChar q c).length) fun d hd => h d (List.mem_cons_of_mem _ hd)
  rw [List.foldl_cons, List.length_cons]
  omega
theorem short_of {x : Str} (h : ∀ c ∈ x.cps.toList, Low c) (hl : x.length ≤ 1000) : Short x := by
 refine ⟨hl, ?_⟩
 rw [← reprLen_eq, ← Array.foldl_toList]
 have hq : ∀ c ∈ x.cps.toList, (Builtin.Str.reprChar (reprQuote x) c).length ≤ 1 := fun c hc => by
  unfold reprQuote
  split
  ·exact (h c hc).1
  ·exact (h c hc).2
 have := fold_low x.cps.toList 2 hq
 have e : x.cps.toList.length = x.length := rfl
 omega
theorem line_le {n : Nat} (h : n ≤ 1000000) : n ≤ sizeLine := by rw [show sizeLine = 16777216 by decide]; omega
noncomputable def spNamed9 (C : Addr) : Sp := fun vs H Q E => ∃ (la : Addr) (us : List V) (xs : List Str) (x kd : Str), vs = [.ref la, .str x, .str kd] ∧ H la = some (.lst us) ∧ Paired (fun x u => ∃ a ys, u = .ref a ∧ H a = some (.tup (.str x :: ys))) xs us ∧ Short x ∧ kd.length ≤ 100 ∧
 (∀ (i : Nat) u, xs[i]? = some x → us[i]? = some u → Q u H) ∧ (x ∉ xs → E (.ref C) none H)
theorem dx_named {C : Addr} (F : Fd K mg "named" (top 26) ["things", "name", "kind"]) (O_NoName : PyProof.Rows.OwnCls "NoName" C bmV "ValueError.__new__" mg base) : Dx P w K mg base "named" 1 ["things", "name", "kind"] (spNamed9 C) := by
 refine F.okx sc_named (fun vs H Q E h => ?_) (fun f cdv A outer s H vs Q E hr h => ?_)
 ·obtain ⟨_, _, _, _, _, rfl, _⟩ := h
  rfl
 obtain ⟨la, us, xs, x, kd, rfl, ela, px, ⟨sx, sr⟩, sk, q1, q2⟩ := h
 refine ⟨_, (qZ (ps_for PassesOwn.leaving rfl (xQ (K := K) (pv 0)) (qH (i := 3) sc_named.nd rfl (by wtm_at "zo")) (qJ (ps_if (qS op_eq (pe_ix (qT (K := K)) (pv 3) qF (fun _ _ => rfl)) (pv 1) (xE _)) (qJ (qO (pv 3))) qY)))
  (qJ (ps_raise O_NoName (qQ (pe_joined (.cons qG (.cons (pe_fmt (pv 2)) (.cons qG (.cons (pe_fmtR (pv 1)) .nil))))) qX)))), ?_⟩
 wtm_at "zf"
 refine ⟨la, rfl, ⟨us, SqL.of ela⟩, ?_⟩
 refine for_list (xs := us) (fun i σ' H' => ∃ z : Option V, σ' = [some (.ref la), some (.str x), some (.str kd), z] ∧ H' = H ∧ x ∉ xs.take i) ⟨none, rfl, rfl, by simp⟩ (fun i σ' H' _ hP => ?_) (fun i u σ' H' ex hP => ?_) (fun σ' H' hP => ?_)
 ·obtain ⟨_, rfl, rfl, _⟩ := hP
  exact SqL.of ela
 ·obtain ⟨z, rfl, rfl, hi⟩ := hP
  obtain ⟨y, ey⟩ : ∃ b, xs[i]? = some b := ⟨_, List.getElem?_eq_getElem (by rw [px.length]; exact (List.getElem?_eq_some_iff.mp ex).1)⟩
  obtain ⟨a, ys, rfl, ea⟩ := xV px ey ex
  wtm_at "zw"
  by_cases e : y = x
  ·subst e
   rw [dec_str_eq]
   refine iteT ?_
   wtm_at "zw"
   exact q1 i _ ey ex
  ·rw [xW e]
   refine iteF ?_
   refine ⟨_, rfl, rfl, ?_⟩
   rw [List.take_add_one, ey]
   exact fun z => (List.mem_append.mp z).elim hi fun r => e (List.mem_singleton.mp r).symm
 ·obtain ⟨z, rfl, rfl, hi⟩ := hP
  rw [← px.length, List.take_length] at hi
  wtm_at "zw"
  refine ⟨"no ", rfl, ?_, .str kd, rfl, kd, rfl, ?_, kd, rfl, ?_, " is called ", rfl, ?_, .str x, rfl, x, rfl, ?_, _, rfl, ?_, ?_, ?_, q2 hi⟩
  all_goals refine line_le ?_
  all_goals (try simp only [Str.length_append, List.length_cons, List.length_nil])
  all_goals (try rw [show (Str.empty : Str).length = 0 by decide])
  all_goals (try rw [show ("no " : Str).length = 3 by decide])
  all_goals (try rw [show (" is called " : Str).length = 11 by decide])
  all_goals omega
theorem sc_comes_of : FnScope ["world", "name", "standing", "ways"] ["world", "name", "standing"] (xB (top 24)) := ⟨rfl, rfl, rfl, by decide +kernel, rfl, by decide +kernel, by decide +kernel⟩
theorem co_comes_of1 : CompOk (xB (top 24)) ["world", "name", "standing", "ways"] (scAt (xC (top 24)) [1] []) ["way", "standing", "world"] 1 [2, 0] :=
 ⟨by decide +kernel, by decide +kernel, by decide +kernel, by decide +kernel, by decide +kernel, by decide +kernel, by decide +kernel, by decide +kernel⟩
theorem ways_read {σ : St} {H : Hp} {Q : VK} {js : List Nat} {te : TE} {wa : Addr} {wu : List V} {wys : List (List (Str × Th))} (ewa : H wa = some (.lst wu)) (pw : Paired (WayIn H) wys wu) (hl : wys.length ≤ 100)
  (hte : ∀ (u : V) (wy : List (Str × Th)) (H' : Hp) (R : VK), wy ∈ wys → WayIn H' wy u → Same H H' → (∀ (v : V) (H'' : Hp), Same H' H'' → R v H'') → te ([some u] ++ frees js σ) H' R)
  (q : ∀ (D : Addr) (H' : Hp), Same H H' → Q (.ref D) H') : rdC 1 js (gName 0) tYes te (Itl K wa) σ H Q := by
 have lw := pw.length
 refine comp_list (xs := wu) (fun D i ys H' => ys.length = i ∧ ∀ b o, H b = some o → H' b = some o) (fun D hD => ⟨rfl, qV hD _⟩)
  (fun D i ys H' _ hP => SqL.of (hP.2 _ _ ewa)) (fun D i x ys H' N hD hDy ex hP hN => ?_) (fun D ys H5 hD hDy hP => q D H5 hP.2)
 obtain ⟨ll, hk⟩ := hP
 have hi : i < wys.length := by rw [lw]; exact (List.getElem?_eq_some_iff.mp ex).1
 obtain ⟨wy, ewy⟩ : ∃ b, wys[i]? = some b := ⟨_, List.getElem?_eq_getElem hi⟩
 have wi := (xV pw ewy ex).same hk
 refine ⟨⟨[some x], rfl, rfl⟩, ?_⟩
 refine hte x wy H' _ (List.mem_of_getElem? ewy) wi hk fun v H4 S4 => ?_
 refine ⟨S4 _ _ hDy, small (by omega), hN _ _ qW ⟨by rw [List.length_append, ll]; rfl, fun b o e => ?_⟩⟩
 rw [qA (qB e hD)]; exact S4 _ _ (hk _ _ e)
structure Asked (H : Hp) (W : Wd) (p bx dx lx : Addr) (bv gv : V) (st : Addr) (vals : List Int) (x : Str) : Prop where
 at' : H p = some (.tup [.ref bx, .ref dx, .ref lx, bv, gv])
 lies : WAt H W bx dx lx bv gv
 ok : WOk W
 st : H st = some (.tup (intsV vals))
 fits : Fits W.bs vals
 short : Short x
noncomputable def spComes9 (C : Addr) : Sp := fun vs H Q E => ∃ (W : Wd) (p bx dx lx : Addr) (bv gv : V) (st : Addr) (vals : List Int) (x : Str), vs = [.ref p, .str x, .ref st] ∧ Asked H W p bx dx lx bv gv st vals x ∧
 (x ∈ W.ds.map Deed.name → ∀ v H', Same H H' → Q v H') ∧ (x ∉ W.ds.map Deed.name → ∀ H', Same H H' → E (.ref C) none H')
theorem dx_comes {C : Addr} (F : Fd K mg "comes_of" (top 24) ["world", "name", "standing"]) (X_named : Dx P w K mg base "named" 1 ["things", "name", "kind"] (spNamed9 C)) (D_behind_way : Dn P w K mg base "behind_way" 14 ["boxes", "way", "standing"] spBehind) : Dx P w K mg base "comes_of" 15 ["world", "name", "standing"] (spComes9 C) := by
 refine F.okx sc_comes_of (fun vs H Q E h => ?_) (fun f cdv A outer s H vs Q E hr h => ?_)
 ·obtain ⟨_, _, _, _, _, _, _, _, _, _, rfl, _⟩ := h
  rfl
 obtain ⟨W, p, bx, dx, lx, bv, gv, st, vals, x, rfl, a, q1, q2⟩ := h
 obtain ⟨us, ebx, pb⟩ := a.lies.boxes
 obtain ⟨du, edx, pd⟩ := a.lies.deeds
 have b6 := a.ok.b6
 have ep := a.at'
 refine ⟨_, (qZ (qN (i := 3) sc_comes_of.nd rfl (by wtm_at "zo") (pe_ix (qT (K := K)) (qE X_named hr (qQ (pe_ix (qT (K := K)) (pv 0) qF (fun _ _ => rfl)) (qQ (pv 1) (qQ qG qX)))) qF (fun _ _ => rfl)))
  (qJ (qO (pe_comp rfl co_comes_of1 (xQ (K := K) (pv 3)) (fun cl fp s H => (qH (i := 0) co_comes_of1.nd rfl (Or.inl rfl) (.inr rfl))) (fun cl fp s H => pts_nil) (fun cl fp s H => (qD D_behind_way hr (qQ (pe_ix (qT (K := K)) (pv 2) qF (fun _ _ => rfl)) (qQ (pv 0) (qQ (pv 1) qX))))))))), ?_⟩
 wtm_at "zw"
 refine ⟨dx, du, W.ds.map Deed.name, x, "deed", rfl, edx, deed_firsts pd, a.short, by decide, fun i u ei eu => ?_, fun nx => q2 nx _ (.refl _)⟩
 obtain ⟨d, ed⟩ : ∃ d, W.ds[i]? = some d := ⟨_, List.getElem?_eq_getElem (by rw [pd.length]; exact (List.getElem?_eq_some_iff.mp eu).1)⟩
 have dok := a.ok.deeds d (List.mem_of_getElem? ed)
 obtain ⟨da, nv, wa, wu, rfl, ea, nat, ewa, pw⟩ := xV pd ed eu
 wtm_at "zf"
 refine ⟨wa, rfl, ⟨wu, SqL.of ewa⟩, ?_⟩
 refine ways_read ewa pw dok.le (fun u wy H' R hwy wi S1 hR => ?_) fun D H' S1 => q1 (List.mem_of_getElem? ei) _ H' S1
 obtain ⟨ya, cs, rfl, eya, pc⟩ := wi
 have ep' := S1 _ _ ep
 refine ⟨_, rfl, p, _, 0, .ref bx, rfl, rfl, SqT.of ep', rfl, _, rfl, _, rfl, bx, ya, st, W.bs, wy, vals, us, cs, rfl, S1 _ _ ebx, xK (qC S1) pb, a.ok.named.nd, by omega, a.ok.b25, eya, pc, dok.ways wy hwy, S1 _ _ a.st, a.fits, fun r H'' S'' _ => hR _ _ S''⟩
theorem sc_shown : FnScope ["world", "name", "standing"] ["world", "name", "standing"] (xB (top 25)) := ⟨rfl, rfl, rfl, by decide +kernel, rfl, by decide +kernel, by decide +kernel⟩
noncomputable def spShown9 (C : Addr) : Sp := fun vs H Q E => ∃ (W : Wd) (p bx dx lx : Addr) (bv gv : V) (st : Addr) (vals : List Int) (x : Str), vs = [.ref p, .str x, .ref st] ∧ Asked H W p bx dx lx bv gv st vals x ∧
 (x ∈ W.ls.map Look.name → ∀ v H', Same H H' → Q v H') ∧ (x ∉ W.ls.map Look.name → ∀ H', Same H H' → E (.ref C) none H')
theorem dx_shown {C : Addr} (F : Fd K mg "shown" (top 25) ["world", "name", "standing"]) (X_named : Dx P w K mg base "named" 1 ["things", "name", "kind"] (spNamed9 C)) (D_worth : Dn P w K mg base "worth" 14 ["expression", "boxes", "standing"] spWorth) : Dx P w K mg base "shown" 15 ["world", "name", "standing"] (spShown9 C) := by
 refine F.okx sc_shown (fun vs H Q E h => ?_) (fun f cdv A outer s H vs Q E hr h => ?_)
 ·obtain ⟨_, _, _, _, _, _, _, _, _, _, rfl, _⟩ := h
  rfl
 obtain ⟨W, p, bx, dx, lx, bv, gv, st, vals, x, rfl, a, q1, q2⟩ := h
 obtain ⟨us, ebx, pb⟩ := a.lies.boxes
 obtain ⟨lu, elx, pl⟩ := a.lies.looks
 have b6 := a.ok.b6
 have ep := a.at'
 refine ⟨_, (qJ (qO (qD D_worth hr (qQ (pe_ix (qT (K := K)) (qE X_named hr (qQ (pe_ix (qT (K := K)) (pv 0) qF (fun _ _ => rfl)) (qQ (pv 1) (qQ qG qX)))) qF (fun _ _ => rfl)) (qQ (pe_ix (qT (K := K)) (pv 0) qF (fun _ _ => rfl)) (qQ (pv 2) qX)))))), ?_⟩
 wtm_at "zw"
 refine ⟨lx, lu, W.ls.map Look.name, x, "look", rfl, elx, look_firsts pl, a.short, by decide, fun i u ei eu => ?_, fun nx => q2 nx _ (.refl _)⟩
 obtain ⟨l, el⟩ : ∃ d, W.ls[i]? = some d := ⟨_, List.getElem?_eq_getElem (by rw [pl.length]; exact (List.getElem?_eq_some_iff.mp eu).1)⟩
 have lok := a.ok.looks l (List.mem_of_getElem? el)
 obtain ⟨la, v, rfl, ea, va⟩ := xV pl el eu
 wtm_at "zw"
 exact ⟨l.part, v, bx, st, W.bs, vals, rfl, va, lok.part, lok.dep, ⟨⟨us, ebx, pb⟩, a.st, a.fits.stands a.ok.b25, by omega⟩, fun H' S' => q1 (List.mem_of_getElem? ei) _ H' S'⟩

theorem sc_law_refused : FnScope ["world", "name", "standing", "look", "found", "e"] ["world", "name", "standing", "look"] (xB (top 54)) := ⟨rfl, rfl, rfl, by decide +kernel, rfl, by decide +kernel, by decide +kernel⟩
structure Refs9 (K : PySem.W.Frag) (mg : Str → Option Value) (CF CT : Addr) (oth : List Addr) : Prop where
 F : Ref K mg "ForkError" CF bmV
 T : Ref K mg "NoName" CT (.ref CF :: bmV)
 fork : PySem.W.kitOne K (.ref CT) (.ref CF) = some true
 value : PySem.W.kitOne K (.ref CT) (.type "ValueError") = some true
 no : ∀ D ∈ oth, (Value.ref CT :: .ref CF :: bmV).contains (.ref D) = false
noncomputable def Wd.known (W : Wd) : Bool → List Str
 | true => W.ls.map Look.name
 | false => W.ds.map Deed.name
noncomputable def spRefused : Sp := fun vs H Q _ => ∃ (W : Wd) (p bx dx lx : Addr) (bv gv : V) (st : Addr) (vals : List Int) (x : Str) (lk : Bool), vs = [.ref p, .str x, .ref st, .bl lk] ∧ Asked H W p bx dx lx bv gv st vals x ∧
 (x ∈ W.known lk → ∀ H', Same H H' → Q (.str "told") H') ∧ (x ∉ W.known lk → ∀ H', Same H H' → Q (.str "refused") H')
theorem dn_refused {CF CT C1 C2 C3 C4 C5 C6 C7 C8 : Addr} (YK : K.In base) (F : Fd K mg "_law_refused" (top 54) ["world", "name", "standing", "look"]) (B : Bl mg) (B_ValueError : mg "ValueError" = none) (R : Refs9 K mg CF CT [C1, C2, C3, C4, C5, C6, C7, C8])
  {b1 b2 b3 b4 b5 b6 b7 b8 : List Value} (R_NoOrder : Ref K mg "NoOrder" C1 b1) (R_NoPlan : Ref K mg "NoPlan" C2 b2) (R_NotPlain : Ref K mg "NotPlain" C3 b3) (R_NotSure : Ref K mg "NotSure" C4 b4) (R_NoText : Ref K mg "NoText" C5 b5) (R_NoWeights : Ref K mg "NoWeights" C6 b6) (R_NoWorld : Ref K mg "NoWorld" C7 b7) (R_TooMany : Ref K mg "TooMany" C8 b8)
  (X_shown : Dx P w K mg base "shown" 15 ["world", "name", "standing"] (spShown9 CT)) (X_comes_of : Dx P w K mg base "comes_of" 15 ["world", "name", "standing"] (spComes9 CT)) : Dn P w K mg base "_law_refused" 16 ["world", "name", "standing", "look"] spRefused := by
 refine F.ok sc_law_refused (fun vs H Q E h => ?_) (fun f cdv A outer s H vs Q E hr h => ?_)
 ·obtain ⟨_, _, _, _, _, _, _, _, _, _, _, rfl, _⟩ := h
  rfl
 obtain ⟨W, p, bx, dx, lx, bv, gv, st, vals, x, lk, rfl, a, q1, q2⟩ := h
 have R_ForkError := R.F
 have R_NoName := R.T
 have RS_all : ∀ D ∈ [C1, C2, C3, C4, C5, C6, C7, C8], ∃ bm', ExcAt base D bm' := by
  intro D hD
  simp only [List.mem_cons, List.not_mem_nil, or_false] at hD
  rcases hD with z | z | z | z | z | z | z | z
  ·rw [z]; exact ⟨_, R_NoOrder.asks.at' _ YK⟩
  ·rw [z]; exact ⟨_, R_NoPlan.asks.at' _ YK⟩
  ·rw [z]; exact ⟨_, R_NotPlain.asks.at' _ YK⟩
  ·rw [z]; exact ⟨_, R_NotSure.asks.at' _ YK⟩
  ·rw [z]; exact ⟨_, R_NoText.asks.at' _ YK⟩
  ·rw [z]; exact ⟨_, R_NoWeights.asks.at' _ YK⟩
  ·rw [z]; exact ⟨_, R_NoWorld.asks.at' _ YK⟩
  ·rw [z]; exact ⟨_, R_TooMany.asks.at' _ YK⟩
 refine ⟨_, (qZ (qN (i := 4) sc_law_refused.nd rfl (by wtm_at "zo") qG)
  (qZ (ps_try2 (i := 5) rfl rfl rfl sc_law_refused.nd rfl rfl rfl R_NoName.bd (R_NoName.asks.at' _ YK) RS_all (fun x => PE.wk (pe_tup (qQ (pe_ref R_NoOrder) (qQ (pe_ref R_NoPlan) (qQ (pe_ref R_NotPlain) (qQ (pe_ref R_NotSure) (qQ (pe_ref R_NoText) (qQ (pe_ref R_NoWeights) (qQ (pe_ref R_NoWorld) (qQ (pe_ref R_TooMany) qX))))))))) fun σ H Q h => ⟨line_le (show 8 ≤ 1000000 by decide), h⟩) (pxs_one (px_if (pt_val (pv 3)) (pxs_one (px_expr (pxe_callX X_shown hr (qQ (pv 0) (qQ (pv 1) (qQ (pv 2) qX)))))) (pxs_one (px_expr (pxe_callX X_comes_of hr (qQ (pv 0) (qQ (pv 1) (qQ (pv 2) qX)))))))) (fun x => (qJ (qN (i := 4) sc_law_refused.nd rfl (by wtm_at "zo") (pe_ix (qU (K := K)) (pe_lst (qQ qG (qQ qG qX))) (xZ call_int1 rfl B.int' bt_int (qQ (pe_and (xJ (call_isiEK (K := K)) rfl B.isinstance' bt_isinstance (qQ (pv 5) (qQ (pe_ref R_ForkError) qX))) (pe_one (xJ (call_isiTK (K := K)) rfl B.isinstance' bt_isinstance (qQ (pv 5) (qQ (pe_ty rfl B_ValueError bt_ValueError) qX))))) qX)) (fun _ _ => rfl))))))
  (qJ (qO (pv 4))))), ?_⟩
 wtm_at "zw"
 cases lk with
 | true =>
  refine ⟨_, rfl, true, rfl, iteT ?_⟩
  refine ⟨_, rfl, _, rfl, _, rfl, W, p, bx, dx, lx, bv, gv, st, vals, x, rfl, a, fun m v H' S' => ?_, fun m H' S' => ?_⟩
  ·wtm_at "zw"
   exact q1 m H' S'
  refine ⟨CT, _, rfl, R.T.asks.at' _ YK, R.no, (by rw [List.contains_cons, beq_self_eq_true, Bool.true_or]), fun e T t he hT ne ht => ?_⟩
  have ex : held H' e T (.ref CT) e = some (.ext (IsExc e T (.ref CT))) := qW
  have S2 : Same H' (held H' e T (.ref CT)) := (qV hT _).trans (qV (by rw [qA ne.symm]; exact he) _)
  generalize held H' e T (.ref CT) = H1 at ex S2 ht ⊢
  have S3 := qV ht (.tup ([C1, C2, C3, C4, C5, C6, C7, C8].map V.ref))
  have ex2 := S3 _ _ ex
  generalize upd H1 t (.tup ([C1, C2, C3, C4, C5, C6, C7, C8].map V.ref)) = H2 at S3 ex2 ⊢
  wtm_at "zw"
  refine ⟨line_le (show 2 ≤ 1000000 by decide), fun l hl => ?_⟩
  have S4 := qV hl (.lst [V.str "other", V.str "refused"])
  have el : upd H2 l (.lst [V.str "other", V.str "refused"]) l = some _ := qW
  have ex3 := S4 _ _ ex2
  generalize upd H2 l (.lst [V.str "other", V.str "refused"]) = H3 at S4 el ex3 ⊢
  wtm_at "zw"
  refine ⟨e, T, CT, _, CF, true, rfl, ex3, R.T.asks, R.fork, ?_⟩
  wtm_at "zw"
  refine ⟨e, T, CT, _, "ValueError", true, rfl, ex3, R.T.asks, R.value, ?_⟩
  wtm_at "zw"
  refine .inr ⟨true, rfl, ?_⟩
  refine ⟨l, _, 1, .str "refused", rfl, rfl, SqL.of el, rfl, ?_⟩
  refine drop_nx ?_
  wtm_at "zw"
  exact q2 m _ (((S'.trans S2).trans S3).trans S4)
 | false =>
  refine ⟨_, rfl, false, rfl, iteF ?_⟩
  refine ⟨_, rfl, _, rfl, _, rfl, W, p, bx, dx, lx, bv, gv, st, vals, x, rfl, a, fun m v H' S' => ?_, fun m H' S' => ?_⟩
  ·wtm_at "zw"
   exact q1 m H' S'
  refine ⟨CT, _, rfl, R.T.asks.at' _ YK, R.no, (by rw [List.contains_cons, beq_self_eq_true, Bool.true_or]), fun e T t he hT ne ht => ?_⟩
  have ex : held H' e T (.ref CT) e = some (.ext (IsExc e T (.ref CT))) := qW
  have S2 : Same H' (held H' e T (.ref CT)) := (qV hT _).trans (qV (by rw [qA ne.symm]; exact he) _)
  generalize held H' e T (.ref CT) = H1 at ex S2 ht ⊢
  have S3 := qV ht (.tup ([C1, C2, C3, C4, C5, C6, C7, C8].map V.ref))
  have ex2 := S3 _ _ ex
  generalize upd H1 t (.tup ([C1, C2, C3, C4, C5, C6, C7, C8].map V.ref)) = H2 at S3 ex2 ⊢
  wtm_at "zw"
  refine ⟨line_le (show 2 ≤ 1000000 by decide), fun l hl => ?_⟩
  have S4 := qV hl (.lst [V.str "other", V.str "refused"])
  have el : upd H2 l (.lst [V.str "other", V.str "refused"]) l = some _ := qW
  have ex3 := S4 _ _ ex2
  generalize upd H2 l (.lst [V.str "other", V.str "refused"]) = H3 at S4 el ex3 ⊢
  wtm_at "zw"
  refine ⟨e, T, CT, _, CF, true, rfl, ex3, R.T.asks, R.fork, ?_⟩
  wtm_at "zw"
  refine ⟨e, T, CT, _, "ValueError", true, rfl, ex3, R.T.asks, R.value, ?_⟩
  wtm_at "zw"
  refine .inr ⟨true, rfl, ?_⟩
  refine ⟨l, _, 1, .str "refused", rfl, rfl, SqL.of el, rfl, ?_⟩
  refine drop_nx ?_
  wtm_at "zw"
  exact q2 m _ (((S'.trans S2).trans S3).trans S4)

theorem sc_law_name : FnScope ["deck", "world", "names", "name", "way"] ["deck", "world"] (xB (top 55)) := ⟨rfl, rfl, rfl, by decide +kernel, rfl, by decide +kernel, by decide +kernel⟩
theorem co_law_name1 : CompOk (xB (top 55)) ["deck", "world", "names", "name", "way"] (scAt (xC (top 55)) [0] []) ["thing"] 1 [] :=
 ⟨by decide +kernel, by decide +kernel, by decide +kernel, by decide +kernel, by decide +kernel, by decide +kernel, by decide +kernel, by decide +kernel⟩
theorem box_firsts {H : Hp} {bs : List (Str × Int)} {us : List V} (p : Paired (BoxIn H) bs us) : Paired (fun x u => ∃ a ys, u = .ref a ∧ H a = some (.tup (.str x :: ys))) (bs.map (·.1)) us := by
 induction p with
 | nil => exact .nil
 | cons h _ ih =>
  obtain ⟨a, e, q⟩ := h
  exact .cons ⟨a, _, e, q⟩ ih
theorem pair_app {α β : Type} {F : α → β → Prop} {a : List α} {b : List β} {a' : List α} {b' : List β} (p : Paired F a b) (q : Paired F a' b') : Paired F (a ++ a') (b ++ b') := by
 induction p with
 | nil => exact q
 | cons h _ ih => exact .cons h ih
theorem slice_low {z : Str} (h : ∀ c ∈ z.cps.toList, Low c) (lo hi : Option Int) : ∀ c ∈ (Txt.slice z lo hi).cps.toList, Low c := fun c hc => h c (by
 unfold Txt.slice at hc
 split at hc
 ·exact hc
 ·have hc : c ∈ (List.filterMap (z.cps[·]?) (Builtin.Str.strSliceIndices lo hi 1 z.length)) := by simpa using hc
  obtain ⟨k, _, e⟩ := List.mem_filterMap.mp hc
  have := Array.mem_of_getElem? e
  exact Array.mem_toList_iff.mpr this)
theorem app_low {x y : Str} (h : ∀ c ∈ x.cps.toList, Low c) (g : ∀ c ∈ y.cps.toList, Low c) : ∀ c ∈ (x ++ y).cps.toList, Low c := fun c hc => by
 have hc : c ∈ (x.cps ++ y.cps).toList := hc
 rw [Array.toList_append] at hc
 exact (List.mem_append.mp hc).elim (h c) (g c)
theorem zoe_low : ∀ c ∈ ("zoe" : Str).cps.toList, (Builtin.Str.reprChar 34 c).length ≤ 1 ∧ (Builtin.Str.reprChar 39 c).length ≤ 1 := by decide +kernel
theorem a_low : ∀ c ∈ ("a" : Str).cps.toList, (Builtin.Str.reprChar 34 c).length ≤ 1 ∧ (Builtin.Str.reprChar 39 c).length ≤ 1 := by decide +kernel
noncomputable def spName : Sp := fun vs H Q _ => ∃ (W : Wd) (dk p bx dx lx : Addr) (bv gv : V) (d : Int), vs = [.ref dk, .ref p] ∧ H dk = some (.lst [.int d]) ∧ H p = some (.tup [.ref bx, .ref dx, .ref lx, bv, gv]) ∧ WAt H W bx dx lx bv gv ∧ WOk W ∧
 ∀ (x : Str) (H' : Hp), Short x → But dk H H' → Q (.str x) H'
theorem dn_name (F : Fd K mg "_law_name" (top 55) ["deck", "world"]) (B : Bl mg) (D_law_take : Dn P w K mg base "_law_take" 1 ["deck", "many"] spTake) : Dn P w K mg base "_law_name" 2 ["deck", "world"] spName := by
 refine F.ok sc_law_name (fun vs H Q E h => ?_) (fun f cdv A outer s H vs Q E hr h => ?_)
 ·obtain ⟨_, _, _, _, _, _, _, _, _, rfl, _⟩ := h
  rfl
 obtain ⟨W, dk, p, bx, dx, lx, bv, gv, d, rfl, edk, ep, L, ok, q⟩ := h
 obtain ⟨bu, ebx, pb⟩ := L.boxes
 obtain ⟨du, edx, pd⟩ := L.deeds
 obtain ⟨lu, elx, pl⟩ := L.looks
 have b1 := ok.b1
 have b6 := ok.b6
 have dl := ok.dl
 have ll := ok.ll
 have l1 := pb.length
 have l2 := pd.length
 have l3 := pl.length
 refine ⟨_, (qZ (ps_setComp (i := 2) sc_law_name.nd rfl (by wtm_at "zo") rfl co_law_name1 (xQ (K := K) (xX op_cat (xX op_cat (pe_ix (qT (K := K)) (pv 1) qF (fun _ _ => rfl)) (pe_ix (qT (K := K)) (pv 1) qF (fun _ _ => rfl))) (pe_ix (qT (K := K)) (pv 1) qF (fun _ _ => rfl)))) (fun cl fp s H => (qH (i := 0) co_law_name1.nd rfl (Or.inl rfl) (.inr rfl))) (fun cl fp s H => pts_nil) (fun cl fp s H => (pe_ix (qT (K := K)) (pv 0) qF (fun _ _ => rfl))))
  (qZ (qN (i := 3) sc_law_name.nd rfl (by wtm_at "zo") (pe_ix (qU (K := K)) (pv 2) (qD D_law_take hr (qQ (pv 0) (qQ (xJ (call_lenK (K := K)) rfl B.len' bt_len (qQ (pv 2) qX)) qX))) (fun _ _ => rfl)))
  (qZ (qN (i := 4) sc_law_name.nd rfl (by wtm_at "zo") (qD D_law_take hr (qQ (pv 0) (qQ qF qX))))
  (qZ (ps_if (qS op_eq (pv 4) qF (xE _)) (qJ (qO (pe_slice sl_str (xX op_add_str (pv 3) qG) po_none (po_some qF)))) qY)
  (qZ (ps_if (PW.pt (pw_and (qS op_eq (pv 4) qF (xE _)) (pw_and1 (qS op_gt (xJ call_len_str rfl B.len' bt_len (qQ (pv 3) qX)) qF (xE _))))) (qJ (qO (pe_slice sl_str (pv 3) po_none (po_some (pe_un un_neg qF))))) qY)
  (qZ (ps_if (qS op_eq (pv 4) qF (xE _)) (qJ (qO (xX op_add_str (pe_ix ix_str qG (qD D_law_take hr (qQ (pv 0) (qQ qF qX))) (fun _ _ => rfl)) (pe_slice sl_str qG po_none (po_some (qD D_law_take hr (qQ (pv 0) (qQ qF qX)))))))) qY)
  (qJ (qO (pv 3))))))))), ?_⟩
 wtm_at "zf"
 refine ⟨bx, dx, bu, du, rfl, rfl, ebx, edx, smallE (by omega), fun y1 hy1 => ?_⟩
 have S1 := qV hy1 (.lst (bu ++ du))
 have ey1 : upd H y1 (.lst (bu ++ du)) y1 = some (.lst (bu ++ du)) := qW
 have n1 : y1 ≠ dk := Ne.symm (qB edk hy1)
 generalize upd H y1 (.lst (bu ++ du)) = H1 at S1 ey1
 have ep1 := S1 _ _ ep
 wtm_at "zw"
 refine ⟨y1, lx, bu ++ du, lu, rfl, rfl, ey1, S1 _ _ elx, smallE (by rw [List.length_append]; omega), fun y2 hy2 => ?_⟩
 have S2 := qV hy2 (.lst ((bu ++ du) ++ lu))
 have ey2 : upd H1 y2 (.lst ((bu ++ du) ++ lu)) y2 = some (.lst ((bu ++ du) ++ lu)) := qW
 generalize upd H1 y2 (.lst ((bu ++ du) ++ lu)) = H2 at S2 ey2
 have S12 := S1.trans S2
 obtain ⟨xs, hxs⟩ : ∃ xs, (W.ws ++ W.ds.map Deed.name) ++ W.ls.map Look.name = xs := ⟨_, rfl⟩
 have px : Paired (fun x u => ∃ a ys, u = .ref a ∧ H2 a = some (.tup (.str x :: ys))) xs ((bu ++ du) ++ lu) := by
  rw [← hxs]
  exact Paired.mapP (pair_app (pair_app (box_firsts pb) (deed_firsts pd)) (look_firsts pl)) fun _ _ ⟨a, ys, e, q⟩ => ⟨a, ys, e, S12 _ _ q⟩
 have sx : ∀ x ∈ xs, Lw x := fun x hx => by
  rw [← hxs, List.append_assoc] at hx
  rcases List.mem_append.mp hx with h | h
  ·exact ok.named.sh x h
  ·exact ok.sh x h
 have lx : xs.length ≤ 300 ∧ 1 ≤ xs.length := by
  rw [px.length, List.length_append, List.length_append]
  omega
 refine ⟨y2, rfl, ⟨_, SqL.of ey2⟩, firsts_read ey2 px (by omega) fun na H3 nna S3 ena => ?_⟩
 have S03 := S12.trans S3
 have edk3 := S03 _ _ edk
 have nnd : na ≠ dk := Ne.symm (qB (S12 _ _ edk) nna)
 wtm_at "zw"
 rw [xA]
 refine ⟨dk, xs.length, d, rfl, edk3, by omega, big _ (by omega) (Int.lt_of_le_of_lt (b := 1000) (by omega) (by decide +kernel)), fun i d1 i0 i1 => ?_⟩
 have B4 : But dk H3 (upd H3 dk (.lst [.int d1])) := But.upd
 have edk4 : upd H3 dk (.lst [.int d1]) dk = some (.lst [.int d1]) := qW
 generalize upd H3 dk (.lst [.int d1]) = H4 at B4 edk4
 have B04 : But dk H H4 := fun b o n e => B4 _ _ n (S03 _ _ e)
 obtain ⟨nm, hnm⟩ : ∃ nm, xs[i.toNat]? = some nm := ⟨_, List.getElem?_eq_getElem (by omega)⟩
 have lw := sx nm (List.mem_of_getElem? hnm)
 have hat : atI (strsV xs) i = some (.str nm) := by
  have z : atI (strsV xs) ((i.toNat : Nat) : Int) = some (.str nm) := atI_nat (by show (xs.map V.str)[i.toNat]? = _; rw [List.getElem?_map, hnm]; rfl)
  rwa [show ((i.toNat : Nat) : Int) = i by omega] at z
 have lwl := lw.1
 refine ⟨na, _, i, .str nm, rfl, rfl, SqL.of (B4 _ _ nnd ena), hat, ?_⟩
 wtm_at "zw"
 refine ⟨dk, 5, d1, rfl, edk4, by decide, by decide +kernel, fun wy d2 w0 w1 => ?_⟩
 have B5 : But dk H4 (upd H4 dk (.lst [.int d2])) := But.upd
 have edk5 : upd H4 dk (.lst [.int d2]) dk = some (.lst [.int d2]) := qW
 generalize upd H4 dk (.lst [.int d2]) = H5 at B5 edk5
 have B05 : But dk H H5 := B04.trans B5
 wtm_at "zw"
 refine ite2 (fun _ => ?_) (fun _ => ?_)
 ·wtm_at "zw"
  refine ⟨nm, "a", rfl, rfl, line_le (by rw [show ("a" : Str).length = 1 by decide]; omega), ?_⟩
  have la : (nm ++ "a" : Str).length ≤ 101 := by rw [len_app, show ("a" : Str).length = 1 by decide]; omega
  wtm_at "zw"
  refine ⟨_, rfl, by omega, ?_⟩
  refine q _ _ (short_of (slice_low (app_low lw.2 a_low) _ _) (Nat.le_trans (Txt.slice_le _ _ _) (by omega))) B05
 wtm_at "zw"
 refine ite2 (fun _ => ?_) (fun _ => ?_)
 ·wtm_at "zw"
  refine ⟨nm, rfl, line_le (by omega), ?_⟩
  wtm_at "zw"
  refine ite2 (fun _ => ?_) (fun _ => ?_)
  ·wtm_at "zw"
   refine ⟨_, rfl, by omega, ?_⟩
   exact q _ _ (short_of (slice_low lw.2 _ _) (Nat.le_trans (Txt.slice_le _ _ _) (by omega))) B05
  wtm_at "zw"
  refine ite2 (fun _ => ?_) (fun _ => ?_)
  ·wtm_at "zw"
   refine ⟨dk, 26, d2, rfl, edk5, by decide, by decide +kernel, fun i2 d3 j0 j1 => ?_⟩
   have B6 : But dk H5 (upd H5 dk (.lst [.int d3])) := But.upd
   have edk6 : upd H5 dk (.lst [.int d3]) dk = some (.lst [.int d3]) := qW
   generalize upd H5 dk (.lst [.int d3]) = H6 at B6 edk6
   refine ⟨_, _, letter i2, rfl, rfl, letters_len, letters_at j0 j1, ?_⟩
   wtm_at "zw"
   refine ⟨dk, 4, d3, rfl, edk6, by decide, by decide +kernel, fun i3 d4 k0 k1 => ?_⟩
   have B7 : But dk H6 (upd H6 dk (.lst [.int d4])) := But.upd
   generalize upd H6 dk (.lst [.int d4]) = H7 at B7
   have ls := Txt.slice_le "zoe" none (some i3)
   have lz : ("zoe" : Str).length = 3 := by decide
   have l1 : (⟨#[letter i2]⟩ : Str).length = 1 := rfl
   refine ⟨i3, rfl, "zoe", rfl, by decide, ?_⟩
   refine ⟨_, _, rfl, rfl, line_le (by omega), ?_⟩
   refine q _ _ (short_of (app_low (fun c hc => ?_) (slice_low zoe_low _ _)) (by rw [len_app]; omega)) ((B05.trans B6).trans B7)
   have hc : c ∈ [letter i2] := hc
   rw [List.mem_singleton.mp hc]; exact low_letter j0 j1
  ·wtm_at "zw"
   exact q _ _ (short_of lw.2 (by omega)) B05
 wtm_at "zw"
 refine ite2 (fun _ => ?_) (fun _ => ?_)
 ·wtm_at "zw"
  refine ⟨dk, 26, d2, rfl, edk5, by decide, by decide +kernel, fun i2 d3 j0 j1 => ?_⟩
  have B6 : But dk H5 (upd H5 dk (.lst [.int d3])) := But.upd
  have edk6 : upd H5 dk (.lst [.int d3]) dk = some (.lst [.int d3]) := qW
  generalize upd H5 dk (.lst [.int d3]) = H6 at B6 edk6
  refine ⟨_, _, letter i2, rfl, rfl, letters_len, letters_at j0 j1, ?_⟩
  wtm_at "zw"
  refine ⟨dk, 4, d3, rfl, edk6, by decide, by decide +kernel, fun i3 d4 k0 k1 => ?_⟩
  have B7 : But dk H6 (upd H6 dk (.lst [.int d4])) := But.upd
  generalize upd H6 dk (.lst [.int d4]) = H7 at B7
  have ls := Txt.slice_le "zoe" none (some i3)
  have lz : ("zoe" : Str).length = 3 := by decide
  have l1 : (⟨#[letter i2]⟩ : Str).length = 1 := rfl
  refine ⟨i3, rfl, "zoe", rfl, by decide, ?_⟩
  refine ⟨_, _, rfl, rfl, line_le (by omega), ?_⟩
  refine q _ _ (short_of (app_low (fun c hc => ?_) (slice_low zoe_low _ _)) (by rw [len_app]; omega)) ((B05.trans B6).trans B7)
  have hc : c ∈ [letter i2] := hc
  rw [List.mem_singleton.mp hc]; exact low_letter j0 j1
 ·wtm_at "zw"
  exact q _ _ (short_of lw.2 (by omega)) B05

theorem told_eq {H : Hp} {bx dx lx bx' dx' lx' : Addr} {bv gv : V} {bt gt : Th} (t : Told K H bx dx lx bx' dx' lx') (hb : bt.At H bv) (hg : gt.At H gv) : ∀ (j : Nat) x y, [V.ref bx', V.ref dx', V.ref lx', bv, gv][j]? = some x → [V.ref bx, V.ref dx, V.ref lx, bv, gv][j]? = some y → DEq K H 4 x y := fun j x y e1 e2 => by
 cases j with
 | zero => cases e1; cases e2; exact t.boxes
 | succ j => exact idx4 t.deeds t.looks (deq_at hb) (deq_at hg) j x y e1 e2
theorem sc_law : FnScope ["script", "boxes", "deeds", "looks", "begin", "goal", "world", "cell", "deck", "standing", "name", "look", "known"] ["script"] (xB (top 56)) := ⟨rfl, rfl, rfl, by decide +kernel, rfl, by decide +kernel, by decide +kernel⟩
theorem co_law1 : CompOk (xB (top 56)) ["script", "boxes", "deeds", "looks", "begin", "goal", "world", "cell", "deck", "standing", "name", "look", "known"] (scAt (xC (top 56)) [2, 1] [1]) ["name", "size", "deck"] 2 [8] :=
 ⟨by decide +kernel, by decide +kernel, by decide +kernel, by decide +kernel, by decide +kernel, by decide +kernel, by decide +kernel, by decide +kernel⟩
theorem co_law2 : CompOk (xB (top 56)) ["script", "boxes", "deeds", "looks", "begin", "goal", "world", "cell", "deck", "standing", "name", "look", "known"] (scAt (xC (top 56)) [2, 3, 0] []) ["thing"] 1 [] :=
 ⟨by decide +kernel, by decide +kernel, by decide +kernel, by decide +kernel, by decide +kernel, by decide +kernel, by decide +kernel, by decide +kernel⟩
noncomputable def spLaw (K : PySem.W.Frag) : Sp := fun vs H Q _ => ∃ (a : Addr) (ns : List Int), vs = [.ref a] ∧ SqL K H a (ns.map V.int) ∧ ns.length ≤ 63 ∧ ∀ H', Q (.bl true) H'
theorem refused_one {vs : List V} {H : Hp} {Q : VK} {E : XK} (h : ∃ (W : Wd) (p bx dx lx : Addr) (bv gv : V) (st : Addr) (vals : List Int) (x : Str) (lk : Bool), vs = [.ref p, .str x, .ref st, .bl lk] ∧ Asked H W p bx dx lx bv gv st vals x ∧
  ∀ H', Same H H' → Q (.str (if x ∈ W.known lk then "told" else "refused")) H') : spRefused vs H Q E := by
 obtain ⟨W, p, bx, dx, lx, bv, gv, st, vals, x, lk, e, a, q⟩ := h
 refine ⟨W, p, bx, dx, lx, bv, gv, st, vals, x, lk, e, a, fun m H' S' => ?_, fun m H' S' => ?_⟩
 ·have := q H' S'
  rwa [if_pos m] at this
 ·have := q H' S'
  rwa [if_neg m] at this
theorem ok_law {f : Addr} {fd : FuncData} (F : Fun K "law" "law" (top 56) f fd) (B : Bl mg) (D_law_world : Dn P w K mg base "_law_world" 14 ["script"] (spLWorld K)) (D_world_of : Dn P w K mg base "world_of" 28 ["boxes", "deeds", "looks", "begin", "goal"] (spWorldOf K))
  (D_law_deck : Dn P w K mg base "_law_deck" 2 ["cell"] spDeck) (D_law_take : Dn P w K mg base "_law_take" 1 ["deck", "many"] spTake) (D_law_name : Dn P w K mg base "_law_name" 2 ["deck", "world"] spName) (D_law_refused : Dn P w K mg base "_law_refused" 16 ["world", "name", "standing", "look"] spRefused) : FnOk P w K mg base CX0 60 f fd ["script"] (spLaw K) := by
 refine F.ok (k := 59) sc_law (fun vs H Q E h => ?_) (fun cdv A outer s H vs Q E hr h => ?_)
 ·obtain ⟨_, _, rfl, _⟩ := h
  rfl
 obtain ⟨a, ns, rfl, hS, h63, q⟩ := h
 refine ⟨_, (qZ (qP (qD D_law_world hr (qQ (pv 0) qX)) (pg_tupK (K := K) (n := 5) rfl (qI (qH (i := 1) sc_law.nd rfl (by wtm_at "zo")) (qI (qH (i := 2) sc_law.nd rfl (by wtm_at "zo")) (qI (qH (i := 3) sc_law.nd rfl (by wtm_at "zo")) (qI (qH (i := 4) sc_law.nd rfl (by wtm_at "zo")) (qI (qH (i := 5) sc_law.nd rfl (by wtm_at "zo")) qM)))))))
  (qZ (qN (i := 6) sc_law.nd rfl (by wtm_at "zo") (qD D_world_of hr (qQ (pv 1) (qQ (pv 2) (qQ (pv 3) (qQ (pv 4) (qQ (pv 5) qX)))))))
  (qZ (ps_for PassesOwn.never rfl (xQ (K := K) (xX op_cat (pe_lst (qQ qF qX)) (pe_slice (sl_listK (K := K)) (pv 0) (po_some qF) (po_some qF)))) (qH (i := 7) sc_law.nd rfl (by wtm_at "zo")) (qZ (qN (i := 8) sc_law.nd rfl (by wtm_at "zo") (qD D_law_deck hr (qQ (pv 7) qX)))
  (qZ (qN (i := 9) sc_law.nd rfl (by wtm_at "zo") (xZ (call_tupleK (K := K)) rfl B.tuple' bt_tuple (qQ (pe_comp rfl co_law1 (xQ (K := K) (pv 1)) (fun cl fp s H => (pg_tupK (K := K) (n := 2) rfl (qI (qH (i := 0) co_law1.nd rfl (Or.inl rfl) (.inr rfl)) (qI (qH (i := 1) co_law1.nd rfl (Or.inl rfl) (.inr rfl)) qM)))) (fun cl fp s H => pts_nil) (fun cl fp s H => (qD D_law_take hr (qQ (pv 2) (qQ (pv 1) qX))))) qX)))
  (qZ (qN (i := 10) sc_law.nd rfl (by wtm_at "zo") (qD D_law_name hr (qQ (pv 8) (qQ (pv 6) qX))))
  (qJ (ps_for PassesOwn.never rfl (xQ (K := K) (pe_lst (qQ pe_bl (qQ pe_bl qX)))) (qH (i := 11) sc_law.nd rfl (by wtm_at "zo")) (qZ (ps_setComp (i := 12) sc_law.nd rfl (by wtm_at "zo") rfl co_law2 (xQ (K := K) (pe_ix (qU (K := K)) (pe_lst (qQ (pv 2) (qQ (pv 3) qX))) (xZ call_int1 rfl B.int' bt_int (qQ (pv 11) qX)) (fun _ _ => rfl))) (fun cl fp s H => (qH (i := 0) co_law2.nd rfl (Or.inl rfl) (.inr rfl))) (fun cl fp s H => pts_nil) (fun cl fp s H => (pe_ix (qT (K := K)) (pv 0) qF (fun _ _ => rfl))))
  (qJ (ps_if (qS op_ne (qD D_law_refused hr (qQ (pv 6) (qQ (pv 10) (qQ (pv 9) (qQ (pv 11) qX))))) (pe_ix (qU (K := K)) (pe_lst (qQ qG (qQ qG qX))) (xZ call_int1 rfl B.int' bt_int (qQ (pe_cmpR (op_inK (K := K)) (pv 10) (pv 12) (by with_unfolding_all rfl)) qX)) (fun _ _ => rfl)) (xE _)) (qJ (qO pe_bl)) qY)))))))))
  (qJ (qO (pe_cmpR (op_eqTK (K := K) hr.units) (pv 6) (pe_tup (qQ (pv 1) (qQ (pv 2) (qQ (pv 3) (qQ (pv 4) (qQ (pv 5) qX)))))) (xE _))))))), ?_⟩
 wtm_at "zw"
 refine ⟨a, ns, rfl, hS, h63, fun p0 W bx dx lx bv gv H1 S1 ep0 A1 ok => ?_⟩
 wtm_at "zw"
 refine ⟨W, bx, dx, lx, bv, gv, rfl, A1, ok, fun p bx' dx' lx' H2 S2 ep A2 T2 => ?_⟩
 have A1' := A1.same S2
 have b6 := ok.b6
 have dl := ok.dl
 have ll := ok.ll
 obtain ⟨us, ebx, pb⟩ := A1'.boxes
 obtain ⟨du, edx, pd⟩ := A1'.deeds
 obtain ⟨lu, elx, pl⟩ := A1'.looks
 wtm_at "zw"
 refine cells_read (a := a) (ns := ns) rfl ((S1.trans S2).seq hS) h63 fun l3 xs H3 S3 el3 items _ => ?_
 refine for_listN (xs := xs) (fun i σ' H' => ∃ z0 z1 z2 z3 z4 z5 : Option V, σ' = [some (.ref a), some (.ref bx), some (.ref dx), some (.ref lx), some bv, some gv, some (.ref p), z0, z1, z2, z3, z4, z5] ∧ Same H3 H')
  ⟨none, none, none, none, none, none, rfl, Same.refl _⟩ (fun i σ' H' _ hP => ?_) (fun N rt bk i x σ' H' ex hP hN => ?_) (fun σ' H' hP => ?_)
 ·obtain ⟨_, _, _, _, _, _, _, S⟩ := hP
  exact S.seq (SqL.of el3)
 ·obtain ⟨z0, z1, z2, z3, z4, z5, rfl, S5⟩ := hP
  obtain ⟨c, rfl⟩ := items x (List.mem_of_getElem? ex)
  wtm_at "zw"
  refine ⟨c, rfl, fun dk d hdk => ?_⟩
  have n3 : H3 dk = none := S5.free hdk
  have S6 : Same H3 (upd H' dk (.lst [.int d])) := S5.trans (qV hdk _)
  have edk : upd H' dk (.lst [.int d]) dk = some (.lst [.int d]) := qW
  generalize upd H' dk (.lst [.int d]) = H6 at S6 edk
  have nbd : bx ≠ dk := qB (S3 _ _ ebx) n3
  have S26 := S3.trans S6
  wtm_at "zw"
  refine ⟨_, rfl, bx, rfl, ⟨us, SqL.of (S26 _ _ ebx)⟩, ?_⟩
  refine draw_read (S26 _ _ ebx) (xK (qC S26) pb) (by omega) ok.b25 edk nbd rfl fun D2 vals d' H7 fits nD2 b7 eD2 edk7 => ?_
  have S37 : Same H3 H7 := fun b o e => b7 _ _ (qB e n3) (S6 _ _ e)
  wtm_at "zw"
  refine ⟨D2, _, rfl, SqL.of eD2, fun st hst => ?_⟩
  have S38 := S37.trans (qV hst (.tup (intsV vals)))
  have est : upd H7 st (.tup (intsV vals)) st = some (.tup (intsV vals)) := qW
  have edk8 := qV hst (.tup (intsV vals)) _ _ edk7
  have nst : st ≠ dk := Ne.symm (qB edk7 hst)
  generalize upd H7 st (.tup (intsV vals)) = H8 at S38 est edk8
  have S28 := S3.trans S38
  wtm_at "zw"
  refine ⟨W, dk, p, bx', dx', lx', bv, gv, d', rfl, edk8, S28 _ _ ep, A2.same S28, ok, fun nm H9 sh B9 => ?_⟩
  have S39 : Same H3 H9 := fun b o e => B9 _ _ (qB e n3) (S38 _ _ e)
  have S29 := S3.trans S39
  have est9 := B9 _ _ nst est
  have ask : ∀ {H' : Hp}, Same H9 H' → Asked H' W p bx' dx' lx' bv gv st vals nm := fun S => ⟨(S29.trans S) _ _ ep, A2.same (S29.trans S), ok, S _ _ est9, fits, sh⟩
  clear S37 b7 eD2 edk7 edk8 hst S38 est S28 B9 nst
  wtm_at "zf"
  refine ⟨(by show 2 ≤ sizeLine; decide), fun lg hlg => ?_⟩
  have SA := qV hlg (.lst [V.bl false, .bl true])
  have elg : upd H9 lg (.lst [V.bl false, .bl true]) lg = some (.lst [V.bl false, .bl true]) := qW
  generalize upd H9 lg (.lst [V.bl false, .bl true]) = HA at SA elg
  refine ⟨lg, rfl, ⟨_, SqL.of elg⟩, ?_⟩
  refine for_listN (xs := [V.bl false, .bl true]) (fun i σ' H' => ∃ z4 z5 : Option V, σ' = [some (.ref a), some (.ref bx), some (.ref dx), some (.ref lx), some bv, some gv, some (.ref p), some (.int c), some (.ref dk), some (.ref st), some (.str nm), z4, z5] ∧ Same HA H')
   ⟨z4, z5, rfl, Same.refl _⟩ (fun i σ' H' _ hP => ?_) (fun N2 rt2 bk2 i x σ' HB ex2 hP hN2 => ?_) (fun σ' HB hP => ?_)
  ·obtain ⟨_, _, _, S⟩ := hP
   exact S.seq (SqL.of elg)
  ·obtain ⟨z4, z5, rfl, SB⟩ := hP
   obtain ⟨lk, rfl⟩ : ∃ lk, x = .bl lk := by
    rcases List.mem_cons.mp (List.mem_of_getElem? ex2) with h | h
    ·exact ⟨false, h⟩
    ·exact ⟨true, List.mem_singleton.mp h⟩
   have S9B := SA.trans SB
   have S2B := S29.trans S9B
   wtm_at "zf"
   refine ⟨(by show 2 ≤ sizeLine; decide), fun l4 hl4 => ?_⟩
   have SC := qV hl4 (.lst [V.ref dx, .ref lx])
   have el4 : upd HB l4 (.lst [V.ref dx, .ref lx]) l4 = some (.lst [V.ref dx, .ref lx]) := qW
   generalize upd HB l4 (.lst [V.ref dx, .ref lx]) = HC at SC el4
   have S2C := S2B.trans SC
   obtain ⟨ka, ku, hka, eka, pk⟩ : ∃ (ka : Addr) (ku : List V), atI [V.ref dx, .ref lx] (if lk = true then 1 else 0) = some (.ref ka) ∧ HC ka = some (.lst ku) ∧ Paired (fun x u => ∃ a ys, u = .ref a ∧ HC a = some (.tup (.str x :: ys))) (W.known lk) ku := by
    cases lk with
    | true => exact ⟨lx, lu, rfl, S2C _ _ elx, look_firsts (Paired.mapP pl fun _ _ y => y.same S2C)⟩
    | false => exact ⟨dx, du, rfl, S2C _ _ edx, deed_firsts (Paired.mapP pd fun _ _ y => y.same S2C)⟩
   have lkn : (W.known lk).length ≤ 100 := by
    cases lk with
    | true => show (W.ls.map Look.name).length ≤ _; rw [List.length_map]; exact ll
    | false => show (W.ds.map Deed.name).length ≤ _; rw [List.length_map]; exact dl
   wtm_at "zw"
   refine .inr ⟨lk, rfl, ?_⟩
   refine ⟨l4, _, _, .ref ka, rfl, rfl, SqL.of el4, hka, ?_⟩
   refine ⟨ka, rfl, ⟨ku, SqL.of eka⟩, firsts_read eka pk (by omega) fun kn HD nkn SD ekn => ?_⟩
   have S9D := S9B.trans (SC.trans SD)
   wtm_at "zw"
   refine refused_one ⟨W, p, bx', dx', lx', bv, gv, st, vals, nm, lk, rfl, ask S9D, fun HE SE => ?_⟩
   have ekn' := SE _ _ ekn
   wtm_at "zw"
   refine ⟨(by show 2 ≤ sizeLine; decide), fun l5 hl5 => ?_⟩
   have SF := qV hl5 (.lst [V.str "refused", .str "told"])
   have el5 : upd HE l5 (.lst [V.str "refused", .str "told"]) l5 = some _ := qW
   generalize upd HE l5 (.lst [V.str "refused", .str "told"]) = HF at SF el5
   have ekn'' := SF _ _ ekn'
   wtm_at "zw"
   refine ⟨kn, _, rfl, .inl (SqL.of ekn''), rfl, flat_strs _, ?_⟩
   rw [if_neg Bool.false_ne_true, inV_strs]
   wtm_at "zw"
   refine .inr ⟨decide (nm ∈ W.known lk), rfl, ?_⟩
   have SAF := SB.trans (SC.trans (SD.trans (SE.trans SF)))
   by_cases m : nm ∈ W.known lk
   ·rw [decide_eq_true m, if_pos m]
    refine ⟨l5, _, 1, .str "told", rfl, rfl, SqL.of el5, rfl, ?_⟩
    wtm_at "zw"
    exact hN2 _ _ ⟨_, _, rfl, SAF⟩
   ·rw [decide_eq_false m, if_neg m]
    refine ⟨l5, _, 0, .str "refused", rfl, rfl, SqL.of el5, rfl, ?_⟩
    wtm_at "zw"
    exact hN2 _ _ ⟨_, _, rfl, SAF⟩
  ·obtain ⟨z4, z5, rfl, SB⟩ := hP
   exact hN _ _ ⟨_, _, _, _, _, _, rfl, S39.trans (SA.trans SB)⟩
 ·obtain ⟨z0, z1, z2, z3, z4, z5, rfl, S5⟩ := hP
  have S25 := S3.trans S5
  wtm_at "zw"
  refine ⟨(by show 5 ≤ sizeLine; decide), fun t ht => ?_⟩
  have S26 := S25.trans (qV ht (.tup [.ref bx, .ref dx, .ref lx, bv, gv]))
  exact ⟨4, p, t, _, _, by decide, rfl, rfl, SqT.of (S26 _ _ ep), SqT.of qW, rfl, told_eq (T2.same S26) (A1'.beg.mono (qC S26)) (A1'.goal.mono (qC S26)), q _⟩

end
theorem len1 {C : List Value → Prop} (h : ∀ a0 : Value, C [a0]) (us : List Value) (e : us.length = 1) : C us := by
 cases us with
 | nil => cases e
 | cons a r =>
  cases r with
  | nil => exact h a
  | cons _ _ => exact absurd (Nat.succ.inj e) (Nat.succ_ne_zero _)

theorem len2 {C : List Value → Prop} (h : ∀ a0 a1 : Value, C [a0, a1]) (us : List Value) (e : us.length = 2) : C us := by
 cases us with
 | nil => cases e
 | cons a r => exact len1 (C := fun r => C (a :: r)) (h a) r (Nat.succ.inj e)

theorem len3 {C : List Value → Prop} (h : ∀ a0 a1 a2 : Value, C [a0, a1, a2]) (us : List Value) (e : us.length = 3) : C us := by
 cases us with
 | nil => cases e
 | cons a r => exact len2 (C := fun r => C (a :: r)) (h a) r (Nat.succ.inj e)

theorem len4 {C : List Value → Prop} (h : ∀ a0 a1 a2 a3 : Value, C [a0, a1, a2, a3]) (us : List Value) (e : us.length = 4) : C us := by
 cases us with
 | nil => cases e
 | cons a r => exact len3 (C := fun r => C (a :: r)) (h a) r (Nat.succ.inj e)

theorem len5 {C : List Value → Prop} (h : ∀ a0 a1 a2 a3 a4 : Value, C [a0, a1, a2, a3, a4]) (us : List Value) (e : us.length = 5) : C us := by
 cases us with
 | nil => cases e
 | cons a r => exact len4 (C := fun r => C (a :: r)) (h a) r (Nat.succ.inj e)

theorem all_mk {l : PySem.W.OpenLaw} {w : World} {K : PySem.W.Frag} {h : Heap} {mg : Str → Option Value} {fa f0 f1 f2 f3 f4 f5 f6 f7 f8 f9 f10 f11 f12 f13 f14 f15 f16 f17 f18 f19 f20 f21 f22 f23 f24 f25 f26 f27 f28 f29 f30 f31 f32 f33 f34 f35 f36 f37 f38 : Addr} (X : K.In h) (G : h.Ns mainGlobals mg) (hfa : mg "law" = some (.ref fa))
  {od0 an0 od1 an1 od2 an2 od3 an3 od4 an4 od5 an5 od6 an6 od7 an7 od8 an8 od9 an9 od10 an10 od11 an11 od12 an12 od13 an13 od14 an14 od15 an15 od16 an16 od17 an17 od18 an18 od19 an19 od20 an20 od21 an21 od22 an22 od23 an23 od24 an24 od25 an25 od26 an26 od27 an27 od28 an28 od29 an29 od30 an30 od31 an31 od32 an32 od33 an33 od34 an34 od35 an35 od36 an36 od37 an37 od38 an38 : Option Addr} {sl0 sl1 sl2 sl3 sl4 sl5 sl6 sl7 sl8 sl9 sl10 sl11 sl12 sl13 sl14 sl15 sl16 sl17 sl18 sl19 sl20 sl21 sl22 sl23 sl24 sl25 sl26 sl27 sl28 sl29 sl30 sl31 sl32 sl33 sl34 sl35 sl36 sl37 sl38 : Array (Option Value)} {oc0 kV0 dc0 pm0 cd0 ct0 oc1 kV1 dc1 pm1 cd1 ct1 oc2 kV2 dc2 pm2 cd2 ct2 oc3 kV3 dc3 pm3 cd3 ct3 oc4 kV4 dc4 pm4 cd4 ct4 oc5 kV5 dc5 pm5 cd5 ct5 oc6 kV6 dc6 pm6 cd6 ct6 oc7 kV7 dc7 pm7 cd7 ct7 oc8 kV8 dc8 pm8 cd8 ct8 oc9 kV9 dc9 pm9 cd9 ct9 oc10 kV10 dc10 pm10 cd10 ct10 oc11 kV11 dc11 pm11 cd11 ct11 oc12 kV12 dc12 pm12 cd12 ct12 oc13 kV13 dc13 pm13 cd13 ct13 oc14 kV14 dc14 pm14 cd14 ct14 oc15 kV15 dc15 pm15 cd15 ct15 oc16 kV16 dc16 pm16 cd16 ct16 oc17 kV17 dc17 pm17 cd17 ct17 oc18 kV18 dc18 pm18 cd18 ct18 oc19 kV19 dc19 pm19 cd19 ct19 oc20 kV20 dc20 pm20 cd20 ct20 oc21 kV21 dc21 pm21 cd21 ct21 oc22 kV22 dc22 pm22 cd22 ct22 oc23 kV23 dc23 pm23 cd23 ct23 oc24 kV24 dc24 pm24 cd24 ct24 oc25 kV25 dc25 pm25 cd25 ct25 oc26 kV26 dc26 pm26 cd26 ct26 oc27 kV27 dc27 pm27 cd27 ct27 oc28 kV28 dc28 pm28 cd28 ct28 oc29 kV29 dc29 pm29 cd29 ct29 oc30 kV30 dc30 pm30 cd30 ct30 oc31 kV31 dc31 pm31 cd31 ct31 oc32 kV32 dc32 pm32 cd32 ct32 oc33 kV33 dc33 pm33 cd33 ct33 oc34 kV34 dc34 pm34 cd34 ct34 oc35 kV35 dc35 pm35 cd35 ct35 oc36 kV36 dc36 pm36 cd36 ct36 oc37 kV37 dc37 pm37 cd37 ct37 oc38 kV38 dc38 pm38 cd38 ct38 : Value}
  (a0 : PySem.W.nsIn K mainGlobals "world_of" = some (some (.ref f0))) (l0 : K.lookup f0 = some ⟨oc0, od0, .func (PySem.W.fnOf "world_of" "world_of" (xD (top 23)) (xC (top 23)) (xB (top 23)) .none kV0 dc0 pm0 an0 cd0 ct0), sl0⟩) (c0 : PySem.W.codeIn K cd0 "world_of" = true) (k0 : PySem.W.keepIn K (.ref f0) = true)
  (a1 : PySem.W.nsIn K mainGlobals "standings_of_boxes" = some (some (.ref f1))) (l1 : K.lookup f1 = some ⟨oc1, od1, .func (PySem.W.fnOf "standings_of_boxes" "standings_of_boxes" (xD (top 27)) (xC (top 27)) (xB (top 27)) .none kV1 dc1 pm1 an1 cd1 ct1), sl1⟩) (c1 : PySem.W.codeIn K cd1 "standings_of_boxes" = true) (k1 : PySem.W.keepIn K (.ref f1) = true)
  (a2 : PySem.W.nsIn K mainGlobals "copied_deed" = some (some (.ref f2))) (l2 : K.lookup f2 = some ⟨oc2, od2, .func (PySem.W.fnOf "copied_deed" "copied_deed" (xD (top 29)) (xC (top 29)) (xB (top 29)) .none kV2 dc2 pm2 an2 cd2 ct2), sl2⟩) (c2 : PySem.W.codeIn K cd2 "copied_deed" = true) (k2 : PySem.W.keepIn K (.ref f2) = true)
  (a3 : PySem.W.nsIn K mainGlobals "is_whole" = some (some (.ref f3))) (l3 : K.lookup f3 = some ⟨oc3, od3, .func (PySem.W.fnOf "is_whole" "is_whole" (xD (top 30)) (xC (top 30)) (xB (top 30)) .none kV3 dc3 pm3 an3 cd3 ct3), sl3⟩) (c3 : PySem.W.codeIn K cd3 "is_whole" = true) (k3 : PySem.W.keepIn K (.ref f3) = true)
  (a4 : PySem.W.nsIn K mainGlobals "refuse_boxes" = some (some (.ref f4))) (l4 : K.lookup f4 = some ⟨oc4, od4, .func (PySem.W.fnOf "refuse_boxes" "refuse_boxes" (xD (top 31)) (xC (top 31)) (xB (top 31)) .none kV4 dc4 pm4 an4 cd4 ct4), sl4⟩) (c4 : PySem.W.codeIn K cd4 "refuse_boxes" = true) (k4 : PySem.W.keepIn K (.ref f4) = true)
  (a5 : PySem.W.nsIn K mainGlobals "refuse_twice" = some (some (.ref f5))) (l5 : K.lookup f5 = some ⟨oc5, od5, .func (PySem.W.fnOf "refuse_twice" "refuse_twice" (xD (top 32)) (xC (top 32)) (xB (top 32)) .none kV5 dc5 pm5 an5 cd5 ct5), sl5⟩) (c5 : PySem.W.codeIn K cd5 "refuse_twice" = true) (k5 : PySem.W.keepIn K (.ref f5) = true)
  (a6 : PySem.W.nsIn K mainGlobals "refuse_price" = some (some (.ref f6))) (l6 : K.lookup f6 = some ⟨oc6, od6, .func (PySem.W.fnOf "refuse_price" "refuse_price" (xD (top 33)) (xC (top 33)) (xB (top 33)) .none kV6 dc6 pm6 an6 cd6 ct6), sl6⟩) (c6 : PySem.W.codeIn K cd6 "refuse_price" = true) (k6 : PySem.W.keepIn K (.ref f6) = true)
  (a7 : PySem.W.nsIn K mainGlobals "refuse_ways" = some (some (.ref f7))) (l7 : K.lookup f7 = some ⟨oc7, od7, .func (PySem.W.fnOf "refuse_ways" "refuse_ways" (xD (top 34)) (xC (top 34)) (xB (top 34)) .none kV7 dc7 pm7 an7 cd7 ct7), sl7⟩) (c7 : PySem.W.codeIn K cd7 "refuse_ways" = true) (k7 : PySem.W.keepIn K (.ref f7) = true)
  (a8 : PySem.W.nsIn K mainGlobals "refuse_strange_name" = some (some (.ref f8))) (l8 : K.lookup f8 = some ⟨oc8, od8, .func (PySem.W.fnOf "refuse_strange_name" "refuse_strange_name" (xD (top 35)) (xC (top 35)) (xB (top 35)) .none kV8 dc8 pm8 an8 cd8 ct8), sl8⟩) (c8 : PySem.W.codeIn K cd8 "refuse_strange_name" = true) (k8 : PySem.W.keepIn K (.ref f8) = true)
  (a9 : PySem.W.nsIn K mainGlobals "refuse_strange_names" = some (some (.ref f9))) (l9 : K.lookup f9 = some ⟨oc9, od9, .func (PySem.W.fnOf "refuse_strange_names" "refuse_strange_names" (xD (top 36)) (xC (top 36)) (xB (top 36)) .none kV9 dc9 pm9 an9 cd9 ct9), sl9⟩) (c9 : PySem.W.codeIn K cd9 "refuse_strange_names" = true) (k9 : PySem.W.keepIn K (.ref f9) = true)
  (a10 : PySem.W.nsIn K mainGlobals "refuse_begin" = some (some (.ref f10))) (l10 : K.lookup f10 = some ⟨oc10, od10, .func (PySem.W.fnOf "refuse_begin" "refuse_begin" (xD (top 37)) (xC (top 37)) (xB (top 37)) .none kV10 dc10 pm10 an10 cd10 ct10), sl10⟩) (c10 : PySem.W.codeIn K cd10 "refuse_begin" = true) (k10 : PySem.W.keepIn K (.ref f10) = true)
  (a11 : PySem.W.nsIn K mainGlobals "holds" = some (some (.ref f11))) (l11 : K.lookup f11 = some ⟨oc11, od11, .func (PySem.W.fnOf "holds" "holds" (xD (top 13)) (xC (top 13)) (xB (top 13)) .none kV11 dc11 pm11 an11 cd11 ct11), sl11⟩) (c11 : PySem.W.codeIn K cd11 "holds" = true) (k11 : PySem.W.keepIn K (.ref f11) = true)
  (a12 : PySem.W.nsIn K mainGlobals "names_in" = some (some (.ref f12))) (l12 : K.lookup f12 = some ⟨oc12, od12, .func (PySem.W.fnOf "names_in" "names_in" (xD (top 14)) (xC (top 14)) (xB (top 14)) .none kV12 dc12 pm12 an12 cd12 ct12), sl12⟩) (c12 : PySem.W.codeIn K cd12 "names_in" = true) (k12 : PySem.W.keepIn K (.ref f12) = true)
  (a13 : PySem.W.nsIn K mainGlobals "values_by_name" = some (some (.ref f13))) (l13 : K.lookup f13 = some ⟨oc13, od13, .func (PySem.W.fnOf "values_by_name" "values_by_name" (xD (top 15)) (xC (top 15)) (xB (top 15)) .none kV13 dc13 pm13 an13 cd13 ct13), sl13⟩) (c13 : PySem.W.codeIn K cd13 "values_by_name" = true) (k13 : PySem.W.keepIn K (.ref f13) = true)
  (a14 : PySem.W.nsIn K mainGlobals "worth_by" = some (some (.ref f14))) (l14 : K.lookup f14 = some ⟨oc14, od14, .func (PySem.W.fnOf "worth_by" "worth_by" (xD (top 16)) (xC (top 16)) (xB (top 16)) .none kV14 dc14 pm14 an14 cd14 ct14), sl14⟩) (c14 : PySem.W.codeIn K cd14 "worth_by" = true) (k14 : PySem.W.keepIn K (.ref f14) = true)
  (a15 : PySem.W.nsIn K mainGlobals "holds_by" = some (some (.ref f15))) (l15 : K.lookup f15 = some ⟨oc15, od15, .func (PySem.W.fnOf "holds_by" "holds_by" (xD (top 17)) (xC (top 17)) (xB (top 17)) .none kV15 dc15 pm15 an15 cd15 ct15), sl15⟩) (c15 : PySem.W.codeIn K cd15 "holds_by" = true) (k15 : PySem.W.keepIn K (.ref f15) = true)
  (a16 : PySem.W.nsIn K mainGlobals "_law_cell_at" = some (some (.ref f16))) (l16 : K.lookup f16 = some ⟨oc16, od16, .func (PySem.W.fnOf "_law_cell_at" "_law_cell_at" (xD (top 39)) (xC (top 39)) (xB (top 39)) .none kV16 dc16 pm16 an16 cd16 ct16), sl16⟩) (c16 : PySem.W.codeIn K cd16 "_law_cell_at" = true) (k16 : PySem.W.keepIn K (.ref f16) = true)
  (a17 : PySem.W.nsIn K mainGlobals "_law_stir" = some (some (.ref f17))) (l17 : K.lookup f17 = some ⟨oc17, od17, .func (PySem.W.fnOf "_law_stir" "_law_stir" (xD (top 40)) (xC (top 40)) (xB (top 40)) .none kV17 dc17 pm17 an17 cd17 ct17), sl17⟩) (c17 : PySem.W.codeIn K cd17 "_law_stir" = true) (k17 : PySem.W.keepIn K (.ref f17) = true)
  (a18 : PySem.W.nsIn K mainGlobals "_law_drawn" = some (some (.ref f18))) (l18 : K.lookup f18 = some ⟨oc18, od18, .func (PySem.W.fnOf "_law_drawn" "_law_drawn" (xD (top 41)) (xC (top 41)) (xB (top 41)) .none kV18 dc18 pm18 an18 cd18 ct18), sl18⟩) (c18 : PySem.W.codeIn K cd18 "_law_drawn" = true) (k18 : PySem.W.keepIn K (.ref f18) = true)
  (a19 : PySem.W.nsIn K mainGlobals "_law_deck" = some (some (.ref f19))) (l19 : K.lookup f19 = some ⟨oc19, od19, .func (PySem.W.fnOf "_law_deck" "_law_deck" (xD (top 42)) (xC (top 42)) (xB (top 42)) .none kV19 dc19 pm19 an19 cd19 ct19), sl19⟩) (c19 : PySem.W.codeIn K cd19 "_law_deck" = true) (k19 : PySem.W.keepIn K (.ref f19) = true)
  (a20 : PySem.W.nsIn K mainGlobals "_law_take" = some (some (.ref f20))) (l20 : K.lookup f20 = some ⟨oc20, od20, .func (PySem.W.fnOf "_law_take" "_law_take" (xD (top 43)) (xC (top 43)) (xB (top 43)) .none kV20 dc20 pm20 an20 cd20 ct20), sl20⟩) (c20 : PySem.W.codeIn K cd20 "_law_take" = true) (k20 : PySem.W.keepIn K (.ref f20) = true)
  (a21 : PySem.W.nsIn K mainGlobals "_law_unlike" = some (some (.ref f21))) (l21 : K.lookup f21 = some ⟨oc21, od21, .func (PySem.W.fnOf "_law_unlike" "_law_unlike" (xD (top 44)) (xC (top 44)) (xB (top 44)) .none kV21 dc21 pm21 an21 cd21 ct21), sl21⟩) (c21 : PySem.W.codeIn K cd21 "_law_unlike" = true) (k21 : PySem.W.keepIn K (.ref f21) = true)
  (a22 : PySem.W.nsIn K mainGlobals "_law_boxes" = some (some (.ref f22))) (l22 : K.lookup f22 = some ⟨oc22, od22, .func (PySem.W.fnOf "_law_boxes" "_law_boxes" (xD (top 45)) (xC (top 45)) (xB (top 45)) .none kV22 dc22 pm22 an22 cd22 ct22), sl22⟩) (c22 : PySem.W.codeIn K cd22 "_law_boxes" = true) (k22 : PySem.W.keepIn K (.ref f22) = true)
  (a23 : PySem.W.nsIn K mainGlobals "_law_expr" = some (some (.ref f23))) (l23 : K.lookup f23 = some ⟨oc23, od23, .func (PySem.W.fnOf "_law_expr" "_law_expr" (xD (top 46)) (xC (top 46)) (xB (top 46)) .none kV23 dc23 pm23 an23 cd23 ct23), sl23⟩) (c23 : PySem.W.codeIn K cd23 "_law_expr" = true) (k23 : PySem.W.keepIn K (.ref f23) = true)
  (a24 : PySem.W.nsIn K mainGlobals "_law_cond" = some (some (.ref f24))) (l24 : K.lookup f24 = some ⟨oc24, od24, .func (PySem.W.fnOf "_law_cond" "_law_cond" (xD (top 47)) (xC (top 47)) (xB (top 47)) .none kV24 dc24 pm24 an24 cd24 ct24), sl24⟩) (c24 : PySem.W.codeIn K cd24 "_law_cond" = true) (k24 : PySem.W.keepIn K (.ref f24) = true)
  (a25 : PySem.W.nsIn K mainGlobals "_law_worth" = some (some (.ref f25))) (l25 : K.lookup f25 = some ⟨oc25, od25, .func (PySem.W.fnOf "_law_worth" "_law_worth" (xD (top 48)) (xC (top 48)) (xB (top 48)) .none kV25 dc25 pm25 an25 cd25 ct25), sl25⟩) (c25 : PySem.W.codeIn K cd25 "_law_worth" = true) (k25 : PySem.W.keepIn K (.ref f25) = true)
  (a26 : PySem.W.nsIn K mainGlobals "_law_holds" = some (some (.ref f26))) (l26 : K.lookup f26 = some ⟨oc26, od26, .func (PySem.W.fnOf "_law_holds" "_law_holds" (xD (top 49)) (xC (top 49)) (xB (top 49)) .none kV26 dc26 pm26 an26 cd26 ct26), sl26⟩) (c26 : PySem.W.codeIn K cd26 "_law_holds" = true) (k26 : PySem.W.keepIn K (.ref f26) = true)
  (a27 : PySem.W.nsIn K mainGlobals "_law_values" = some (some (.ref f27))) (l27 : K.lookup f27 = some ⟨oc27, od27, .func (PySem.W.fnOf "_law_values" "_law_values" (xD (top 50)) (xC (top 50)) (xB (top 50)) .none kV27 dc27 pm27 an27 cd27 ct27), sl27⟩) (c27 : PySem.W.codeIn K cd27 "_law_values" = true) (k27 : PySem.W.keepIn K (.ref f27) = true)
  (a28 : PySem.W.nsIn K mainGlobals "_law_standings" = some (some (.ref f28))) (l28 : K.lookup f28 = some ⟨oc28, od28, .func (PySem.W.fnOf "_law_standings" "_law_standings" (xD (top 51)) (xC (top 51)) (xB (top 51)) .none kV28 dc28 pm28 an28 cd28 ct28), sl28⟩) (c28 : PySem.W.codeIn K cd28 "_law_standings" = true) (k28 : PySem.W.keepIn K (.ref f28) = true)
  (a29 : PySem.W.nsIn K mainGlobals "_law_deed" = some (some (.ref f29))) (l29 : K.lookup f29 = some ⟨oc29, od29, .func (PySem.W.fnOf "_law_deed" "_law_deed" (xD (top 52)) (xC (top 52)) (xB (top 52)) .none kV29 dc29 pm29 an29 cd29 ct29), sl29⟩) (c29 : PySem.W.codeIn K cd29 "_law_deed" = true) (k29 : PySem.W.keepIn K (.ref f29) = true)
  (a30 : PySem.W.nsIn K mainGlobals "_law_world" = some (some (.ref f30))) (l30 : K.lookup f30 = some ⟨oc30, od30, .func (PySem.W.fnOf "_law_world" "_law_world" (xD (top 53)) (xC (top 53)) (xB (top 53)) .none kV30 dc30 pm30 an30 cd30 ct30), sl30⟩) (c30 : PySem.W.codeIn K cd30 "_law_world" = true) (k30 : PySem.W.keepIn K (.ref f30) = true)
  (a31 : PySem.W.nsIn K mainGlobals "worth" = some (some (.ref f31))) (l31 : K.lookup f31 = some ⟨oc31, od31, .func (PySem.W.fnOf "worth" "worth" (xD (top 12)) (xC (top 12)) (xB (top 12)) .none kV31 dc31 pm31 an31 cd31 ct31), sl31⟩) (c31 : PySem.W.codeIn K cd31 "worth" = true) (k31 : PySem.W.keepIn K (.ref f31) = true)
  (a32 : PySem.W.nsIn K mainGlobals "shown" = some (some (.ref f32))) (l32 : K.lookup f32 = some ⟨oc32, od32, .func (PySem.W.fnOf "shown" "shown" (xD (top 25)) (xC (top 25)) (xB (top 25)) .none kV32 dc32 pm32 an32 cd32 ct32), sl32⟩) (c32 : PySem.W.codeIn K cd32 "shown" = true) (k32 : PySem.W.keepIn K (.ref f32) = true)
  (a33 : PySem.W.nsIn K mainGlobals "named" = some (some (.ref f33))) (l33 : K.lookup f33 = some ⟨oc33, od33, .func (PySem.W.fnOf "named" "named" (xD (top 26)) (xC (top 26)) (xB (top 26)) .none kV33 dc33 pm33 an33 cd33 ct33), sl33⟩) (c33 : PySem.W.codeIn K cd33 "named" = true) (k33 : PySem.W.keepIn K (.ref f33) = true)
  (a34 : PySem.W.nsIn K mainGlobals "behind_way" = some (some (.ref f34))) (l34 : K.lookup f34 = some ⟨oc34, od34, .func (PySem.W.fnOf "behind_way" "behind_way" (xD (top 28)) (xC (top 28)) (xB (top 28)) .none kV34 dc34 pm34 an34 cd34 ct34), sl34⟩) (c34 : PySem.W.codeIn K cd34 "behind_way" = true) (k34 : PySem.W.keepIn K (.ref f34) = true)
  (a35 : PySem.W.nsIn K mainGlobals "comes_of" = some (some (.ref f35))) (l35 : K.lookup f35 = some ⟨oc35, od35, .func (PySem.W.fnOf "comes_of" "comes_of" (xD (top 24)) (xC (top 24)) (xB (top 24)) .none kV35 dc35 pm35 an35 cd35 ct35), sl35⟩) (c35 : PySem.W.codeIn K cd35 "comes_of" = true) (k35 : PySem.W.keepIn K (.ref f35) = true)
  (a36 : PySem.W.nsIn K mainGlobals "_law_refused" = some (some (.ref f36))) (l36 : K.lookup f36 = some ⟨oc36, od36, .func (PySem.W.fnOf "_law_refused" "_law_refused" (xD (top 54)) (xC (top 54)) (xB (top 54)) .none kV36 dc36 pm36 an36 cd36 ct36), sl36⟩) (c36 : PySem.W.codeIn K cd36 "_law_refused" = true) (k36 : PySem.W.keepIn K (.ref f36) = true)
  (a37 : PySem.W.nsIn K mainGlobals "_law_name" = some (some (.ref f37))) (l37 : K.lookup f37 = some ⟨oc37, od37, .func (PySem.W.fnOf "_law_name" "_law_name" (xD (top 55)) (xC (top 55)) (xB (top 55)) .none kV37 dc37 pm37 an37 cd37 ct37), sl37⟩) (c37 : PySem.W.codeIn K cd37 "_law_name" = true) (k37 : PySem.W.keepIn K (.ref f37) = true)
  (a38 : PySem.W.nsIn K mainGlobals "law" = some (some (.ref f38))) (l38 : K.lookup f38 = some ⟨oc38, od38, .func (PySem.W.fnOf "law" "law" (xD (top 56)) (xC (top 56)) (xB (top 56)) .none kV38 dc38 pm38 an38 cd38 ct38), sl38⟩) (c38 : PySem.W.codeIn K cd38 "law" = true) (k38 : PySem.W.keepIn K (.ref f38) = true)
  {t_LEAST_SIZE : Tok} (g_LEAST_SIZE : PySem.W.nsIn K mainGlobals "LEAST_SIZE" = some (some (.int 2 t_LEAST_SIZE)))
  {t_GREATEST_SIZE : Tok} (g_GREATEST_SIZE : PySem.W.nsIn K mainGlobals "GREATEST_SIZE" = some (some (.int 5 t_GREATEST_SIZE)))
  {t_LEAST_PRICE : Tok} (g_LEAST_PRICE : PySem.W.nsIn K mainGlobals "LEAST_PRICE" = some (some (.int 1 t_LEAST_PRICE)))
  {p_WORDS_OF_CONDITIONS : Addr} {n_WORDS_OF_CONDITIONS : Nat} {o_WORDS_OF_CONDITIONS : Obj} {t_WORDS_OF_CONDITIONS0 t_WORDS_OF_CONDITIONS1 t_WORDS_OF_CONDITIONS2 : Tok}
  (g_WORDS_OF_CONDITIONS : PySem.W.nsIn K mainGlobals "WORDS_OF_CONDITIONS" = some (some (.ref p_WORDS_OF_CONDITIONS))) (g2_WORDS_OF_CONDITIONS : K.lookup p_WORDS_OF_CONDITIONS = some o_WORDS_OF_CONDITIONS) (g3_WORDS_OF_CONDITIONS : o_WORDS_OF_CONDITIONS.cls = .type "tuple") (g4_WORDS_OF_CONDITIONS : o_WORDS_OF_CONDITIONS.data = .seq #[.str "not" t_WORDS_OF_CONDITIONS0, .str "and" t_WORDS_OF_CONDITIONS1, .str "yes" t_WORDS_OF_CONDITIONS2] n_WORDS_OF_CONDITIONS)
  {C_ForkError N_ForkError : Addr} {nm_ForkError q_ForkError : Str} {bs_ForkError su_ForkError : List Value} {hd_ForkError ab_ForkError : Bool} {sn_ForkError : List Str} {cl_ForkError : Option Bool} {dd_ForkError nd_ForkError : Option Addr} {j0_ForkError j1_ForkError j2_ForkError j3_ForkError j5_ForkError : Option Value} {nc_ForkError : Value} {es_ForkError : Array DictEntry} {ne_ForkError : Nat} {ns_ForkError : Array (Option Value)}
  (ra_ForkError : PySem.W.nsIn K mainGlobals "ForkError" = some (some (.ref C_ForkError))) (rl_ForkError : K.lookup C_ForkError = some (excClassObj nm_ForkError q_ForkError C_ForkError N_ForkError bs_ForkError bmV hd_ForkError sn_ForkError su_ForkError ab_ForkError cl_ForkError dd_ForkError j0_ForkError j1_ForkError j2_ForkError j3_ForkError j5_ForkError "ValueError.__new__"))
  (rn_ForkError : K.lookup N_ForkError = some ⟨nc_ForkError, nd_ForkError, .dict es_ForkError ne_ForkError, ns_ForkError⟩) (rw_ForkError : wordKeys es_ForkError.toList = true) (ri_ForkError : PySem.W.nsIn K N_ForkError "__init__" = some none)
  (r1_ForkError : PySem.W.findIn K (.ref C_ForkError) "__getattribute__" = some (some (.builtin "BaseException.__getattribute__"))) (r2_ForkError : PySem.W.findIn K (.ref C_ForkError) "__getattr__" = some none) (r3_ForkError : PySem.W.findIn K (.ref C_ForkError) "__class__" = some (some (.builtin "object.__class__")))
  {C_NoName N_NoName : Addr} {nm_NoName q_NoName : Str} {bs_NoName su_NoName : List Value} {hd_NoName ab_NoName : Bool} {sn_NoName : List Str} {cl_NoName : Option Bool} {dd_NoName nd_NoName : Option Addr} {j0_NoName j1_NoName j2_NoName j3_NoName j5_NoName : Option Value} {nc_NoName : Value} {es_NoName : Array DictEntry} {ne_NoName : Nat} {ns_NoName : Array (Option Value)}
  (ra_NoName : PySem.W.nsIn K mainGlobals "NoName" = some (some (.ref C_NoName))) (rl_NoName : K.lookup C_NoName = some (excClassObj nm_NoName q_NoName C_NoName N_NoName bs_NoName (.ref C_ForkError :: bmV) hd_NoName sn_NoName su_NoName ab_NoName cl_NoName dd_NoName j0_NoName j1_NoName j2_NoName j3_NoName j5_NoName "ValueError.__new__"))
  (rn_NoName : K.lookup N_NoName = some ⟨nc_NoName, nd_NoName, .dict es_NoName ne_NoName, ns_NoName⟩) (rw_NoName : wordKeys es_NoName.toList = true) (ri_NoName : PySem.W.nsIn K N_NoName "__init__" = some none)
  (r1_NoName : PySem.W.findIn K (.ref C_NoName) "__getattribute__" = some (some (.builtin "BaseException.__getattribute__"))) (r2_NoName : PySem.W.findIn K (.ref C_NoName) "__getattr__" = some none) (r3_NoName : PySem.W.findIn K (.ref C_NoName) "__class__" = some (some (.builtin "object.__class__")))
  {C_NoOrder N_NoOrder : Addr} {nm_NoOrder q_NoOrder : Str} {bs_NoOrder su_NoOrder : List Value} {hd_NoOrder ab_NoOrder : Bool} {sn_NoOrder : List Str} {cl_NoOrder : Option Bool} {dd_NoOrder nd_NoOrder : Option Addr} {j0_NoOrder j1_NoOrder j2_NoOrder j3_NoOrder j5_NoOrder : Option Value} {nc_NoOrder : Value} {es_NoOrder : Array DictEntry} {ne_NoOrder : Nat} {ns_NoOrder : Array (Option Value)}
  (ra_NoOrder : PySem.W.nsIn K mainGlobals "NoOrder" = some (some (.ref C_NoOrder))) (rl_NoOrder : K.lookup C_NoOrder = some (excClassObj nm_NoOrder q_NoOrder C_NoOrder N_NoOrder bs_NoOrder (.ref C_ForkError :: bmV) hd_NoOrder sn_NoOrder su_NoOrder ab_NoOrder cl_NoOrder dd_NoOrder j0_NoOrder j1_NoOrder j2_NoOrder j3_NoOrder j5_NoOrder "ValueError.__new__"))
  (rn_NoOrder : K.lookup N_NoOrder = some ⟨nc_NoOrder, nd_NoOrder, .dict es_NoOrder ne_NoOrder, ns_NoOrder⟩) (rw_NoOrder : wordKeys es_NoOrder.toList = true) (ri_NoOrder : PySem.W.nsIn K N_NoOrder "__init__" = some none)
  (r1_NoOrder : PySem.W.findIn K (.ref C_NoOrder) "__getattribute__" = some (some (.builtin "BaseException.__getattribute__"))) (r2_NoOrder : PySem.W.findIn K (.ref C_NoOrder) "__getattr__" = some none) (r3_NoOrder : PySem.W.findIn K (.ref C_NoOrder) "__class__" = some (some (.builtin "object.__class__")))
  {C_NoPlan N_NoPlan : Addr} {nm_NoPlan q_NoPlan : Str} {bs_NoPlan su_NoPlan : List Value} {hd_NoPlan ab_NoPlan : Bool} {sn_NoPlan : List Str} {cl_NoPlan : Option Bool} {dd_NoPlan nd_NoPlan : Option Addr} {j0_NoPlan j1_NoPlan j2_NoPlan j3_NoPlan j5_NoPlan : Option Value} {nc_NoPlan : Value} {es_NoPlan : Array DictEntry} {ne_NoPlan : Nat} {ns_NoPlan : Array (Option Value)}
  (ra_NoPlan : PySem.W.nsIn K mainGlobals "NoPlan" = some (some (.ref C_NoPlan))) (rl_NoPlan : K.lookup C_NoPlan = some (excClassObj nm_NoPlan q_NoPlan C_NoPlan N_NoPlan bs_NoPlan (.ref C_ForkError :: bmV) hd_NoPlan sn_NoPlan su_NoPlan ab_NoPlan cl_NoPlan dd_NoPlan j0_NoPlan j1_NoPlan j2_NoPlan j3_NoPlan j5_NoPlan "ValueError.__new__"))
  (rn_NoPlan : K.lookup N_NoPlan = some ⟨nc_NoPlan, nd_NoPlan, .dict es_NoPlan ne_NoPlan, ns_NoPlan⟩) (rw_NoPlan : wordKeys es_NoPlan.toList = true) (ri_NoPlan : PySem.W.nsIn K N_NoPlan "__init__" = some none)
  (r1_NoPlan : PySem.W.findIn K (.ref C_NoPlan) "__getattribute__" = some (some (.builtin "BaseException.__getattribute__"))) (r2_NoPlan : PySem.W.findIn K (.ref C_NoPlan) "__getattr__" = some none) (r3_NoPlan : PySem.W.findIn K (.ref C_NoPlan) "__class__" = some (some (.builtin "object.__class__")))
  {C_NotPlain N_NotPlain : Addr} {nm_NotPlain q_NotPlain : Str} {bs_NotPlain su_NotPlain : List Value} {hd_NotPlain ab_NotPlain : Bool} {sn_NotPlain : List Str} {cl_NotPlain : Option Bool} {dd_NotPlain nd_NotPlain : Option Addr} {j0_NotPlain j1_NotPlain j2_NotPlain j3_NotPlain j5_NotPlain : Option Value} {nc_NotPlain : Value} {es_NotPlain : Array DictEntry} {ne_NotPlain : Nat} {ns_NotPlain : Array (Option Value)}
  (ra_NotPlain : PySem.W.nsIn K mainGlobals "NotPlain" = some (some (.ref C_NotPlain))) (rl_NotPlain : K.lookup C_NotPlain = some (excClassObj nm_NotPlain q_NotPlain C_NotPlain N_NotPlain bs_NotPlain (.ref C_ForkError :: bmV) hd_NotPlain sn_NotPlain su_NotPlain ab_NotPlain cl_NotPlain dd_NotPlain j0_NotPlain j1_NotPlain j2_NotPlain j3_NotPlain j5_NotPlain "ValueError.__new__"))
  (rn_NotPlain : K.lookup N_NotPlain = some ⟨nc_NotPlain, nd_NotPlain, .dict es_NotPlain ne_NotPlain, ns_NotPlain⟩) (rw_NotPlain : wordKeys es_NotPlain.toList = true) (ri_NotPlain : PySem.W.nsIn K N_NotPlain "__init__" = some none)
  (r1_NotPlain : PySem.W.findIn K (.ref C_NotPlain) "__getattribute__" = some (some (.builtin "BaseException.__getattribute__"))) (r2_NotPlain : PySem.W.findIn K (.ref C_NotPlain) "__getattr__" = some none) (r3_NotPlain : PySem.W.findIn K (.ref C_NotPlain) "__class__" = some (some (.builtin "object.__class__")))
  {C_NotSure N_NotSure : Addr} {nm_NotSure q_NotSure : Str} {bs_NotSure su_NotSure : List Value} {hd_NotSure ab_NotSure : Bool} {sn_NotSure : List Str} {cl_NotSure : Option Bool} {dd_NotSure nd_NotSure : Option Addr} {j0_NotSure j1_NotSure j2_NotSure j3_NotSure j5_NotSure : Option Value} {nc_NotSure : Value} {es_NotSure : Array DictEntry} {ne_NotSure : Nat} {ns_NotSure : Array (Option Value)}
  (ra_NotSure : PySem.W.nsIn K mainGlobals "NotSure" = some (some (.ref C_NotSure))) (rl_NotSure : K.lookup C_NotSure = some (excClassObj nm_NotSure q_NotSure C_NotSure N_NotSure bs_NotSure (.ref C_ForkError :: bmV) hd_NotSure sn_NotSure su_NotSure ab_NotSure cl_NotSure dd_NotSure j0_NotSure j1_NotSure j2_NotSure j3_NotSure j5_NotSure "ValueError.__new__"))
  (rn_NotSure : K.lookup N_NotSure = some ⟨nc_NotSure, nd_NotSure, .dict es_NotSure ne_NotSure, ns_NotSure⟩) (rw_NotSure : wordKeys es_NotSure.toList = true) (ri_NotSure : PySem.W.nsIn K N_NotSure "__init__" = some none)
  (r1_NotSure : PySem.W.findIn K (.ref C_NotSure) "__getattribute__" = some (some (.builtin "BaseException.__getattribute__"))) (r2_NotSure : PySem.W.findIn K (.ref C_NotSure) "__getattr__" = some none) (r3_NotSure : PySem.W.findIn K (.ref C_NotSure) "__class__" = some (some (.builtin "object.__class__")))
  {C_NoText N_NoText : Addr} {nm_NoText q_NoText : Str} {bs_NoText su_NoText : List Value} {hd_NoText ab_NoText : Bool} {sn_NoText : List Str} {cl_NoText : Option Bool} {dd_NoText nd_NoText : Option Addr} {j0_NoText j1_NoText j2_NoText j3_NoText j5_NoText : Option Value} {nc_NoText : Value} {es_NoText : Array DictEntry} {ne_NoText : Nat} {ns_NoText : Array (Option Value)}
  (ra_NoText : PySem.W.nsIn K mainGlobals "NoText" = some (some (.ref C_NoText))) (rl_NoText : K.lookup C_NoText = some (excClassObj nm_NoText q_NoText C_NoText N_NoText bs_NoText (.ref C_ForkError :: bmV) hd_NoText sn_NoText su_NoText ab_NoText cl_NoText dd_NoText j0_NoText j1_NoText j2_NoText j3_NoText j5_NoText "ValueError.__new__"))
  (rn_NoText : K.lookup N_NoText = some ⟨nc_NoText, nd_NoText, .dict es_NoText ne_NoText, ns_NoText⟩) (rw_NoText : wordKeys es_NoText.toList = true) (ri_NoText : PySem.W.nsIn K N_NoText "__init__" = some none)
  (r1_NoText : PySem.W.findIn K (.ref C_NoText) "__getattribute__" = some (some (.builtin "BaseException.__getattribute__"))) (r2_NoText : PySem.W.findIn K (.ref C_NoText) "__getattr__" = some none) (r3_NoText : PySem.W.findIn K (.ref C_NoText) "__class__" = some (some (.builtin "object.__class__")))
  {C_NoWeights N_NoWeights : Addr} {nm_NoWeights q_NoWeights : Str} {bs_NoWeights su_NoWeights : List Value} {hd_NoWeights ab_NoWeights : Bool} {sn_NoWeights : List Str} {cl_NoWeights : Option Bool} {dd_NoWeights nd_NoWeights : Option Addr} {j0_NoWeights j1_NoWeights j2_NoWeights j3_NoWeights j5_NoWeights : Option Value} {nc_NoWeights : Value} {es_NoWeights : Array DictEntry} {ne_NoWeights : Nat} {ns_NoWeights : Array (Option Value)}
  (ra_NoWeights : PySem.W.nsIn K mainGlobals "NoWeights" = some (some (.ref C_NoWeights))) (rl_NoWeights : K.lookup C_NoWeights = some (excClassObj nm_NoWeights q_NoWeights C_NoWeights N_NoWeights bs_NoWeights (.ref C_ForkError :: bmV) hd_NoWeights sn_NoWeights su_NoWeights ab_NoWeights cl_NoWeights dd_NoWeights j0_NoWeights j1_NoWeights j2_NoWeights j3_NoWeights j5_NoWeights "ValueError.__new__"))
  (rn_NoWeights : K.lookup N_NoWeights = some ⟨nc_NoWeights, nd_NoWeights, .dict es_NoWeights ne_NoWeights, ns_NoWeights⟩) (rw_NoWeights : wordKeys es_NoWeights.toList = true) (ri_NoWeights : PySem.W.nsIn K N_NoWeights "__init__" = some none)
  (r1_NoWeights : PySem.W.findIn K (.ref C_NoWeights) "__getattribute__" = some (some (.builtin "BaseException.__getattribute__"))) (r2_NoWeights : PySem.W.findIn K (.ref C_NoWeights) "__getattr__" = some none) (r3_NoWeights : PySem.W.findIn K (.ref C_NoWeights) "__class__" = some (some (.builtin "object.__class__")))
  {C_NoWorld N_NoWorld : Addr} {nm_NoWorld q_NoWorld : Str} {bs_NoWorld su_NoWorld : List Value} {hd_NoWorld ab_NoWorld : Bool} {sn_NoWorld : List Str} {cl_NoWorld : Option Bool} {dd_NoWorld nd_NoWorld : Option Addr} {j0_NoWorld j1_NoWorld j2_NoWorld j3_NoWorld j5_NoWorld : Option Value} {nc_NoWorld : Value} {es_NoWorld : Array DictEntry} {ne_NoWorld : Nat} {ns_NoWorld : Array (Option Value)}
  (ra_NoWorld : PySem.W.nsIn K mainGlobals "NoWorld" = some (some (.ref C_NoWorld))) (rl_NoWorld : K.lookup C_NoWorld = some (excClassObj nm_NoWorld q_NoWorld C_NoWorld N_NoWorld bs_NoWorld (.ref C_ForkError :: bmV) hd_NoWorld sn_NoWorld su_NoWorld ab_NoWorld cl_NoWorld dd_NoWorld j0_NoWorld j1_NoWorld j2_NoWorld j3_NoWorld j5_NoWorld "ValueError.__new__"))
  (rn_NoWorld : K.lookup N_NoWorld = some ⟨nc_NoWorld, nd_NoWorld, .dict es_NoWorld ne_NoWorld, ns_NoWorld⟩) (rw_NoWorld : wordKeys es_NoWorld.toList = true) (ri_NoWorld : PySem.W.nsIn K N_NoWorld "__init__" = some none)
  (r1_NoWorld : PySem.W.findIn K (.ref C_NoWorld) "__getattribute__" = some (some (.builtin "BaseException.__getattribute__"))) (r2_NoWorld : PySem.W.findIn K (.ref C_NoWorld) "__getattr__" = some none) (r3_NoWorld : PySem.W.findIn K (.ref C_NoWorld) "__class__" = some (some (.builtin "object.__class__")))
  {C_TooMany N_TooMany : Addr} {nm_TooMany q_TooMany : Str} {bs_TooMany su_TooMany : List Value} {hd_TooMany ab_TooMany : Bool} {sn_TooMany : List Str} {cl_TooMany : Option Bool} {dd_TooMany nd_TooMany : Option Addr} {j0_TooMany j1_TooMany j2_TooMany j3_TooMany j5_TooMany : Option Value} {nc_TooMany : Value} {es_TooMany : Array DictEntry} {ne_TooMany : Nat} {ns_TooMany : Array (Option Value)}
  (ra_TooMany : PySem.W.nsIn K mainGlobals "TooMany" = some (some (.ref C_TooMany))) (rl_TooMany : K.lookup C_TooMany = some (excClassObj nm_TooMany q_TooMany C_TooMany N_TooMany bs_TooMany (.ref C_ForkError :: bmV) hd_TooMany sn_TooMany su_TooMany ab_TooMany cl_TooMany dd_TooMany j0_TooMany j1_TooMany j2_TooMany j3_TooMany j5_TooMany "ValueError.__new__"))
  (rn_TooMany : K.lookup N_TooMany = some ⟨nc_TooMany, nd_TooMany, .dict es_TooMany ne_TooMany, ns_TooMany⟩) (rw_TooMany : wordKeys es_TooMany.toList = true) (ri_TooMany : PySem.W.nsIn K N_TooMany "__init__" = some none)
  (r1_TooMany : PySem.W.findIn K (.ref C_TooMany) "__getattribute__" = some (some (.builtin "BaseException.__getattribute__"))) (r2_TooMany : PySem.W.findIn K (.ref C_TooMany) "__getattr__" = some none) (r3_TooMany : PySem.W.findIn K (.ref C_TooMany) "__class__" = some (some (.builtin "object.__class__")))
  (kf : PySem.W.kitOne K (.ref C_NoName) (.ref C_ForkError) = some true)
  (kv : PySem.W.kitOne K (.ref C_NoName) (.type "ValueError") = some true)
  (kn : [C_NoOrder, C_NoPlan, C_NotPlain, C_NotSure, C_NoText, C_NoWeights, C_NoWorld, C_TooMany].all (fun D => !(Value.ref C_NoName :: .ref C_ForkError :: bmV).contains (.ref D)) = true)
  (z_len : PySem.W.nsIn K mainGlobals "len" = some none)
  (z_range : PySem.W.nsIn K mainGlobals "range" = some none)
  (z_min : PySem.W.nsIn K mainGlobals "min" = some none)
  (z_isinstance : PySem.W.nsIn K mainGlobals "isinstance" = some none)
  (z_list : PySem.W.nsIn K mainGlobals "list" = some none)
  (z_reversed : PySem.W.nsIn K mainGlobals "reversed" = some none)
  (z_tuple : PySem.W.nsIn K mainGlobals "tuple" = some none)
  (z_int : PySem.W.nsIn K mainGlobals "int" = some none)
  (z_bool : PySem.W.nsIn K mainGlobals "bool" = some none)
  (z_dict : PySem.W.nsIn K mainGlobals "dict" = some none)
  (z_zip : PySem.W.nsIn K mainGlobals "zip" = some none)
  (z_set : PySem.W.nsIn K mainGlobals "set" = some none)
  (z_ValueError : PySem.W.nsIn K mainGlobals "ValueError" = some none) :
  ∃ fd : FuncData, (∀ (s : Shared) (v : Value), BindsTo s fd ⟨[v], []⟩ [("script", v)]) ∧ ∀ base : Heap, K.In base → base.Ns mainGlobals mg → FnOk l.prog w K mg base CX0 60 fa fd ["script"] (spLaw K) := by
 have e := hfa.symm.trans (PySem.W.mg_of X G a38)
 cases e
 have F0 := fun_mk (st := top 23) l0 c0 k0
 have b0 := F0.binds (ps := ["boxes", "deeds", "looks", "begin", "goal"]) fun _ _ _ _ _ _ => len5 (fun _ _ _ _ _ => rfl)
 have E0 : FunE K mg "world_of" f0 _ ["boxes", "deeds", "looks", "begin", "goal"] := ⟨PySem.W.mg_of X G a0, k0, b0⟩
 have FD_world_of : Fd K mg "world_of" (top 23) ["boxes", "deeds", "looks", "begin", "goal"] := ⟨f0, _, F0, E0.mg, E0.kp, E0.bd⟩
 have F1 := fun_mk (st := top 27) l1 c1 k1
 have b1 := F1.binds (ps := ["boxes"]) fun _ _ _ _ _ _ => len1 (fun _ => rfl)
 have E1 : FunE K mg "standings_of_boxes" f1 _ ["boxes"] := ⟨PySem.W.mg_of X G a1, k1, b1⟩
 have FD_standings_of_boxes : Fd K mg "standings_of_boxes" (top 27) ["boxes"] := ⟨f1, _, F1, E1.mg, E1.kp, E1.bd⟩
 have F2 := fun_mk (st := top 29) l2 c2 k2
 have b2 := F2.binds (ps := ["deed"]) fun _ _ _ _ _ _ => len1 (fun _ => rfl)
 have E2 : FunE K mg "copied_deed" f2 _ ["deed"] := ⟨PySem.W.mg_of X G a2, k2, b2⟩
 have FD_copied_deed : Fd K mg "copied_deed" (top 29) ["deed"] := ⟨f2, _, F2, E2.mg, E2.kp, E2.bd⟩
 have F3 := fun_mk (st := top 30) l3 c3 k3
 have b3 := F3.binds (ps := ["thing"]) fun _ _ _ _ _ _ => len1 (fun _ => rfl)
 have E3 : FunE K mg "is_whole" f3 _ ["thing"] := ⟨PySem.W.mg_of X G a3, k3, b3⟩
 have FD_is_whole : Fd K mg "is_whole" (top 30) ["thing"] := ⟨f3, _, F3, E3.mg, E3.kp, E3.bd⟩
 have F4 := fun_mk (st := top 31) l4 c4 k4
 have b4 := F4.binds (ps := ["boxes"]) fun _ _ _ _ _ _ => len1 (fun _ => rfl)
 have E4 : FunE K mg "refuse_boxes" f4 _ ["boxes"] := ⟨PySem.W.mg_of X G a4, k4, b4⟩
 have FD_refuse_boxes : Fd K mg "refuse_boxes" (top 31) ["boxes"] := ⟨f4, _, F4, E4.mg, E4.kp, E4.bd⟩
 have F5 := fun_mk (st := top 32) l5 c5 k5
 have b5 := F5.binds (ps := ["names", "kind"]) fun _ _ _ _ _ _ => len2 (fun _ _ => rfl)
 have E5 : FunE K mg "refuse_twice" f5 _ ["names", "kind"] := ⟨PySem.W.mg_of X G a5, k5, b5⟩
 have FD_refuse_twice : Fd K mg "refuse_twice" (top 32) ["names", "kind"] := ⟨f5, _, F5, E5.mg, E5.kp, E5.bd⟩
 have F6 := fun_mk (st := top 33) l6 c6 k6
 have b6 := F6.binds (ps := ["name", "price"]) fun _ _ _ _ _ _ => len2 (fun _ _ => rfl)
 have E6 : FunE K mg "refuse_price" f6 _ ["name", "price"] := ⟨PySem.W.mg_of X G a6, k6, b6⟩
 have FD_refuse_price : Fd K mg "refuse_price" (top 33) ["name", "price"] := ⟨f6, _, F6, E6.mg, E6.kp, E6.bd⟩
 have F7 := fun_mk (st := top 34) l7 c7 k7
 have b7 := F7.binds (ps := ["deed_name", "ways", "names"]) fun _ _ _ _ _ _ => len3 (fun _ _ _ => rfl)
 have E7 : FunE K mg "refuse_ways" f7 _ ["deed_name", "ways", "names"] := ⟨PySem.W.mg_of X G a7, k7, b7⟩
 have FD_refuse_ways : Fd K mg "refuse_ways" (top 34) ["deed_name", "ways", "names"] := ⟨f7, _, F7, E7.mg, E7.kp, E7.bd⟩
 have F8 := fun_mk (st := top 35) l8 c8 k8
 have b8 := F8.binds (ps := ["name", "names"]) fun _ _ _ _ _ _ => len2 (fun _ _ => rfl)
 have E8 : FunE K mg "refuse_strange_name" f8 _ ["name", "names"] := ⟨PySem.W.mg_of X G a8, k8, b8⟩
 have FD_refuse_strange_name : Fd K mg "refuse_strange_name" (top 35) ["name", "names"] := ⟨f8, _, F8, E8.mg, E8.kp, E8.bd⟩
 have F9 := fun_mk (st := top 36) l9 c9 k9
 have b9 := F9.binds (ps := ["thing", "names"]) fun _ _ _ _ _ _ => len2 (fun _ _ => rfl)
 have E9 : FunE K mg "refuse_strange_names" f9 _ ["thing", "names"] := ⟨PySem.W.mg_of X G a9, k9, b9⟩
 have FD_refuse_strange_names : Fd K mg "refuse_strange_names" (top 36) ["thing", "names"] := ⟨f9, _, F9, E9.mg, E9.kp, E9.bd⟩
 have F10 := fun_mk (st := top 37) l10 c10 k10
 have b10 := F10.binds (ps := ["begin", "boxes"]) fun _ _ _ _ _ _ => len2 (fun _ _ => rfl)
 have E10 : FunE K mg "refuse_begin" f10 _ ["begin", "boxes"] := ⟨PySem.W.mg_of X G a10, k10, b10⟩
 have FD_refuse_begin : Fd K mg "refuse_begin" (top 37) ["begin", "boxes"] := ⟨f10, _, F10, E10.mg, E10.kp, E10.bd⟩
 have F11 := fun_mk (st := top 13) l11 c11 k11
 have b11 := F11.binds (ps := ["condition", "boxes", "standing"]) fun _ _ _ _ _ _ => len3 (fun _ _ _ => rfl)
 have E11 : FunE K mg "holds" f11 _ ["condition", "boxes", "standing"] := ⟨PySem.W.mg_of X G a11, k11, b11⟩
 have FD_holds : Fd K mg "holds" (top 13) ["condition", "boxes", "standing"] := ⟨f11, _, F11, E11.mg, E11.kp, E11.bd⟩
 have F12 := fun_mk (st := top 14) l12 c12 k12
 have b12 := F12.binds (ps := ["thing"]) fun _ _ _ _ _ _ => len1 (fun _ => rfl)
 have E12 : FunE K mg "names_in" f12 _ ["thing"] := ⟨PySem.W.mg_of X G a12, k12, b12⟩
 have FD_names_in : Fd K mg "names_in" (top 14) ["thing"] := ⟨f12, _, F12, E12.mg, E12.kp, E12.bd⟩
 have F13 := fun_mk (st := top 15) l13 c13 k13
 have b13 := F13.binds (ps := ["boxes", "standing"]) fun _ _ _ _ _ _ => len2 (fun _ _ => rfl)
 have E13 : FunE K mg "values_by_name" f13 _ ["boxes", "standing"] := ⟨PySem.W.mg_of X G a13, k13, b13⟩
 have FD_values_by_name : Fd K mg "values_by_name" (top 15) ["boxes", "standing"] := ⟨f13, _, F13, E13.mg, E13.kp, E13.bd⟩
 have F14 := fun_mk (st := top 16) l14 c14 k14
 have b14 := F14.binds (ps := ["expression", "values"]) fun _ _ _ _ _ _ => len2 (fun _ _ => rfl)
 have E14 : FunE K mg "worth_by" f14 _ ["expression", "values"] := ⟨PySem.W.mg_of X G a14, k14, b14⟩
 have FD_worth_by : Fd K mg "worth_by" (top 16) ["expression", "values"] := ⟨f14, _, F14, E14.mg, E14.kp, E14.bd⟩
 have F15 := fun_mk (st := top 17) l15 c15 k15
 have b15 := F15.binds (ps := ["condition", "values"]) fun _ _ _ _ _ _ => len2 (fun _ _ => rfl)
 have E15 : FunE K mg "holds_by" f15 _ ["condition", "values"] := ⟨PySem.W.mg_of X G a15, k15, b15⟩
 have FD_holds_by : Fd K mg "holds_by" (top 17) ["condition", "values"] := ⟨f15, _, F15, E15.mg, E15.kp, E15.bd⟩
 have F16 := fun_mk (st := top 39) l16 c16 k16
 have b16 := F16.binds (ps := ["script", "k"]) fun _ _ _ _ _ _ => len2 (fun _ _ => rfl)
 have E16 : FunE K mg "_law_cell_at" f16 _ ["script", "k"] := ⟨PySem.W.mg_of X G a16, k16, b16⟩
 have FD_law_cell_at : Fd K mg "_law_cell_at" (top 39) ["script", "k"] := ⟨f16, _, F16, E16.mg, E16.kp, E16.bd⟩
 have F17 := fun_mk (st := top 40) l17 c17 k17
 have b17 := F17.binds (ps := ["cell", "k"]) fun _ _ _ _ _ _ => len2 (fun _ _ => rfl)
 have E17 : FunE K mg "_law_stir" f17 _ ["cell", "k"] := ⟨PySem.W.mg_of X G a17, k17, b17⟩
 have FD_law_stir : Fd K mg "_law_stir" (top 40) ["cell", "k"] := ⟨f17, _, F17, E17.mg, E17.kp, E17.bd⟩
 have F18 := fun_mk (st := top 41) l18 c18 k18
 have b18 := F18.binds (ps := ["cell", "sizes"]) fun _ _ _ _ _ _ => len2 (fun _ _ => rfl)
 have E18 : FunE K mg "_law_drawn" f18 _ ["cell", "sizes"] := ⟨PySem.W.mg_of X G a18, k18, b18⟩
 have FD_law_drawn : Fd K mg "_law_drawn" (top 41) ["cell", "sizes"] := ⟨f18, _, F18, E18.mg, E18.kp, E18.bd⟩
 have F19 := fun_mk (st := top 42) l19 c19 k19
 have b19 := F19.binds (ps := ["cell"]) fun _ _ _ _ _ _ => len1 (fun _ => rfl)
 have E19 : FunE K mg "_law_deck" f19 _ ["cell"] := ⟨PySem.W.mg_of X G a19, k19, b19⟩
 have FD_law_deck : Fd K mg "_law_deck" (top 42) ["cell"] := ⟨f19, _, F19, E19.mg, E19.kp, E19.bd⟩
 have F20 := fun_mk (st := top 43) l20 c20 k20
 have b20 := F20.binds (ps := ["deck", "many"]) fun _ _ _ _ _ _ => len2 (fun _ _ => rfl)
 have E20 : FunE K mg "_law_take" f20 _ ["deck", "many"] := ⟨PySem.W.mg_of X G a20, k20, b20⟩
 have FD_law_take : Fd K mg "_law_take" (top 43) ["deck", "many"] := ⟨f20, _, F20, E20.mg, E20.kp, E20.bd⟩
 have F21 := fun_mk (st := top 44) l21 c21 k21
 have b21 := F21.binds (ps := ["number", "many"]) fun _ _ _ _ _ _ => len2 (fun _ _ => rfl)
 have E21 : FunE K mg "_law_unlike" f21 _ ["number", "many"] := ⟨PySem.W.mg_of X G a21, k21, b21⟩
 have FD_law_unlike : Fd K mg "_law_unlike" (top 44) ["number", "many"] := ⟨f21, _, F21, E21.mg, E21.kp, E21.bd⟩
 have F22 := fun_mk (st := top 45) l22 c22 k22
 have b22 := F22.binds (ps := ["cell"]) fun _ _ _ _ _ _ => len1 (fun _ => rfl)
 have E22 : FunE K mg "_law_boxes" f22 _ ["cell"] := ⟨PySem.W.mg_of X G a22, k22, b22⟩
 have FD_law_boxes : Fd K mg "_law_boxes" (top 45) ["cell"] := ⟨f22, _, F22, E22.mg, E22.kp, E22.bd⟩
 have F23 := fun_mk (st := top 46) l23 c23 k23
 have b23 := F23.binds (ps := ["deck", "words", "deep"]) fun _ _ _ _ _ _ => len3 (fun _ _ _ => rfl)
 have E23 : FunE K mg "_law_expr" f23 _ ["deck", "words", "deep"] := ⟨PySem.W.mg_of X G a23, k23, b23⟩
 have FD_law_expr : Fd K mg "_law_expr" (top 46) ["deck", "words", "deep"] := ⟨f23, _, F23, E23.mg, E23.kp, E23.bd⟩
 have F24 := fun_mk (st := top 47) l24 c24 k24
 have b24 := F24.binds (ps := ["deck", "words", "deep"]) fun _ _ _ _ _ _ => len3 (fun _ _ _ => rfl)
 have E24 : FunE K mg "_law_cond" f24 _ ["deck", "words", "deep"] := ⟨PySem.W.mg_of X G a24, k24, b24⟩
 have FD_law_cond : Fd K mg "_law_cond" (top 47) ["deck", "words", "deep"] := ⟨f24, _, F24, E24.mg, E24.kp, E24.bd⟩
 have F25 := fun_mk (st := top 48) l25 c25 k25
 have b25 := F25.binds (ps := ["part", "values"]) fun _ _ _ _ _ _ => len2 (fun _ _ => rfl)
 have E25 : FunE K mg "_law_worth" f25 _ ["part", "values"] := ⟨PySem.W.mg_of X G a25, k25, b25⟩
 have FD_law_worth : Fd K mg "_law_worth" (top 48) ["part", "values"] := ⟨f25, _, F25, E25.mg, E25.kp, E25.bd⟩
 have F26 := fun_mk (st := top 49) l26 c26 k26
 have b26 := F26.binds (ps := ["cond", "values"]) fun _ _ _ _ _ _ => len2 (fun _ _ => rfl)
 have E26 : FunE K mg "_law_holds" f26 _ ["cond", "values"] := ⟨PySem.W.mg_of X G a26, k26, b26⟩
 have FD_law_holds : Fd K mg "_law_holds" (top 49) ["cond", "values"] := ⟨f26, _, F26, E26.mg, E26.kp, E26.bd⟩
 have F27 := fun_mk (st := top 50) l27 c27 k27
 have b27 := F27.binds (ps := ["boxes", "standing"]) fun _ _ _ _ _ _ => len2 (fun _ _ => rfl)
 have E27 : FunE K mg "_law_values" f27 _ ["boxes", "standing"] := ⟨PySem.W.mg_of X G a27, k27, b27⟩
 have FD_law_values : Fd K mg "_law_values" (top 50) ["boxes", "standing"] := ⟨f27, _, F27, E27.mg, E27.kp, E27.bd⟩
 have F28 := fun_mk (st := top 51) l28 c28 k28
 have b28 := F28.binds (ps := ["boxes"]) fun _ _ _ _ _ _ => len1 (fun _ => rfl)
 have E28 : FunE K mg "_law_standings" f28 _ ["boxes"] := ⟨PySem.W.mg_of X G a28, k28, b28⟩
 have FD_law_standings : Fd K mg "_law_standings" (top 51) ["boxes"] := ⟨f28, _, F28, E28.mg, E28.kp, E28.bd⟩
 have F29 := fun_mk (st := top 52) l29 c29 k29
 have b29 := F29.binds (ps := ["deck", "name", "words"]) fun _ _ _ _ _ _ => len3 (fun _ _ _ => rfl)
 have E29 : FunE K mg "_law_deed" f29 _ ["deck", "name", "words"] := ⟨PySem.W.mg_of X G a29, k29, b29⟩
 have FD_law_deed : Fd K mg "_law_deed" (top 52) ["deck", "name", "words"] := ⟨f29, _, F29, E29.mg, E29.kp, E29.bd⟩
 have F30 := fun_mk (st := top 53) l30 c30 k30
 have b30 := F30.binds (ps := ["script"]) fun _ _ _ _ _ _ => len1 (fun _ => rfl)
 have E30 : FunE K mg "_law_world" f30 _ ["script"] := ⟨PySem.W.mg_of X G a30, k30, b30⟩
 have FD_law_world : Fd K mg "_law_world" (top 53) ["script"] := ⟨f30, _, F30, E30.mg, E30.kp, E30.bd⟩
 have F31 := fun_mk (st := top 12) l31 c31 k31
 have b31 := F31.binds (ps := ["expression", "boxes", "standing"]) fun _ _ _ _ _ _ => len3 (fun _ _ _ => rfl)
 have E31 : FunE K mg "worth" f31 _ ["expression", "boxes", "standing"] := ⟨PySem.W.mg_of X G a31, k31, b31⟩
 have FD_worth : Fd K mg "worth" (top 12) ["expression", "boxes", "standing"] := ⟨f31, _, F31, E31.mg, E31.kp, E31.bd⟩
 have F32 := fun_mk (st := top 25) l32 c32 k32
 have b32 := F32.binds (ps := ["world", "name", "standing"]) fun _ _ _ _ _ _ => len3 (fun _ _ _ => rfl)
 have E32 : FunE K mg "shown" f32 _ ["world", "name", "standing"] := ⟨PySem.W.mg_of X G a32, k32, b32⟩
 have FD_shown : Fd K mg "shown" (top 25) ["world", "name", "standing"] := ⟨f32, _, F32, E32.mg, E32.kp, E32.bd⟩
 have F33 := fun_mk (st := top 26) l33 c33 k33
 have b33 := F33.binds (ps := ["things", "name", "kind"]) fun _ _ _ _ _ _ => len3 (fun _ _ _ => rfl)
 have E33 : FunE K mg "named" f33 _ ["things", "name", "kind"] := ⟨PySem.W.mg_of X G a33, k33, b33⟩
 have FD_named : Fd K mg "named" (top 26) ["things", "name", "kind"] := ⟨f33, _, F33, E33.mg, E33.kp, E33.bd⟩
 have F34 := fun_mk (st := top 28) l34 c34 k34
 have b34 := F34.binds (ps := ["boxes", "way", "standing"]) fun _ _ _ _ _ _ => len3 (fun _ _ _ => rfl)
 have E34 : FunE K mg "behind_way" f34 _ ["boxes", "way", "standing"] := ⟨PySem.W.mg_of X G a34, k34, b34⟩
 have FD_behind_way : Fd K mg "behind_way" (top 28) ["boxes", "way", "standing"] := ⟨f34, _, F34, E34.mg, E34.kp, E34.bd⟩
 have F35 := fun_mk (st := top 24) l35 c35 k35
 have b35 := F35.binds (ps := ["world", "name", "standing"]) fun _ _ _ _ _ _ => len3 (fun _ _ _ => rfl)
 have E35 : FunE K mg "comes_of" f35 _ ["world", "name", "standing"] := ⟨PySem.W.mg_of X G a35, k35, b35⟩
 have FD_comes_of : Fd K mg "comes_of" (top 24) ["world", "name", "standing"] := ⟨f35, _, F35, E35.mg, E35.kp, E35.bd⟩
 have F36 := fun_mk (st := top 54) l36 c36 k36
 have b36 := F36.binds (ps := ["world", "name", "standing", "look"]) fun _ _ _ _ _ _ => len4 (fun _ _ _ _ => rfl)
 have E36 : FunE K mg "_law_refused" f36 _ ["world", "name", "standing", "look"] := ⟨PySem.W.mg_of X G a36, k36, b36⟩
 have FD_law_refused : Fd K mg "_law_refused" (top 54) ["world", "name", "standing", "look"] := ⟨f36, _, F36, E36.mg, E36.kp, E36.bd⟩
 have F37 := fun_mk (st := top 55) l37 c37 k37
 have b37 := F37.binds (ps := ["deck", "world"]) fun _ _ _ _ _ _ => len2 (fun _ _ => rfl)
 have E37 : FunE K mg "_law_name" f37 _ ["deck", "world"] := ⟨PySem.W.mg_of X G a37, k37, b37⟩
 have FD_law_name : Fd K mg "_law_name" (top 55) ["deck", "world"] := ⟨f37, _, F37, E37.mg, E37.kp, E37.bd⟩
 have F38 := fun_mk (st := top 56) l38 c38 k38
 have GL_LEAST_SIZE : Gi mg "LEAST_SIZE" 2 := ⟨_, PySem.W.mg_of X G g_LEAST_SIZE⟩
 have GL_GREATEST_SIZE : Gi mg "GREATEST_SIZE" 5 := ⟨_, PySem.W.mg_of X G g_GREATEST_SIZE⟩
 have GL_LEAST_PRICE : Gi mg "LEAST_PRICE" 1 := ⟨_, PySem.W.mg_of X G g_LEAST_PRICE⟩
 have GL_WORDS_OF_CONDITIONS : Gs K mg "WORDS_OF_CONDITIONS" ["not", "and", "yes"] := ⟨_, PySem.W.mg_of X G g_WORDS_OF_CONDITIONS, fun H => .inr ⟨_, _, _, g2_WORDS_OF_CONDITIONS, g3_WORDS_OF_CONDITIONS, g4_WORDS_OF_CONDITIONS, (by show 3 ≤ sizeLine; decide), .cons ⟨_, rfl⟩ (.cons ⟨_, rfl⟩ (.cons ⟨_, rfl⟩ (.nil)))⟩⟩
 have R_ForkError := ref_mk (x := "ForkError") X G (fun _ _ => .base) ra_ForkError rl_ForkError rn_ForkError rw_ForkError ri_ForkError r1_ForkError r2_ForkError r3_ForkError
 have R_NoName := ref_mk (x := "NoName") X G R_ForkError.tail ra_NoName rl_NoName rn_NoName rw_NoName ri_NoName r1_NoName r2_NoName r3_NoName
 have R_NoOrder := ref_mk (x := "NoOrder") X G R_ForkError.tail ra_NoOrder rl_NoOrder rn_NoOrder rw_NoOrder ri_NoOrder r1_NoOrder r2_NoOrder r3_NoOrder
 have R_NoPlan := ref_mk (x := "NoPlan") X G R_ForkError.tail ra_NoPlan rl_NoPlan rn_NoPlan rw_NoPlan ri_NoPlan r1_NoPlan r2_NoPlan r3_NoPlan
 have R_NotPlain := ref_mk (x := "NotPlain") X G R_ForkError.tail ra_NotPlain rl_NotPlain rn_NotPlain rw_NotPlain ri_NotPlain r1_NotPlain r2_NotPlain r3_NotPlain
 have R_NotSure := ref_mk (x := "NotSure") X G R_ForkError.tail ra_NotSure rl_NotSure rn_NotSure rw_NotSure ri_NotSure r1_NotSure r2_NotSure r3_NotSure
 have R_NoText := ref_mk (x := "NoText") X G R_ForkError.tail ra_NoText rl_NoText rn_NoText rw_NoText ri_NoText r1_NoText r2_NoText r3_NoText
 have R_NoWeights := ref_mk (x := "NoWeights") X G R_ForkError.tail ra_NoWeights rl_NoWeights rn_NoWeights rw_NoWeights ri_NoWeights r1_NoWeights r2_NoWeights r3_NoWeights
 have R_NoWorld := ref_mk (x := "NoWorld") X G R_ForkError.tail ra_NoWorld rl_NoWorld rn_NoWorld rw_NoWorld ri_NoWorld r1_NoWorld r2_NoWorld r3_NoWorld
 have R_TooMany := ref_mk (x := "TooMany") X G R_ForkError.tail ra_TooMany rl_TooMany rn_TooMany rw_TooMany ri_TooMany r1_TooMany r2_TooMany r3_TooMany
 have B : Bl mg := ⟨PySem.W.mg_none_of X G z_len, PySem.W.mg_none_of X G z_range, PySem.W.mg_none_of X G z_min, PySem.W.mg_none_of X G z_isinstance, PySem.W.mg_none_of X G z_list, PySem.W.mg_none_of X G z_reversed, PySem.W.mg_none_of X G z_tuple, PySem.W.mg_none_of X G z_int, PySem.W.mg_none_of X G z_bool, PySem.W.mg_none_of X G z_dict, PySem.W.mg_none_of X G z_zip⟩
 have B_set : mg "set" = none := PySem.W.mg_none_of X G z_set
 have B_ValueError : mg "ValueError" = none := PySem.W.mg_none_of X G z_ValueError
 refine ⟨PySem.W.fnOf "law" "law" (xD (top 56)) (xC (top 56)) (xB (top 56)) .none kV38 dc38 pm38 an38 cd38 ct38, fun s v => .of_eq rfl, fun base YK _ => ?_⟩
 have GS := ok_stir (P := l.prog) (w := w) (mg := mg) (base := base) F17
 have GT := ok_take (P := l.prog) (w := w) (mg := mg) (base := base) F20
 have GE := ok_expr (P := l.prog) (w := w) (base := base) F23 B E23 GT E20
 have D_cell := Dn.mk (x := "_law_cell_at") ⟨_, _, ok_cell (P := l.prog) (w := w) (base := base) F16 B, E16.mg, E16.kp, E16.bd⟩
 have D_take := Dn.mk (x := "_law_take") ⟨_, _, GT, E20.mg, E20.kp, E20.bd⟩
 have D_deck := Dn.mk (x := "_law_deck") ⟨_, _, ok_deck F19 GS E17, E19.mg, E19.kp, E19.bd⟩
 have GD := ok_drawn F18 B GS E17
 have GU := ok_unlike (P := l.prog) (w := w) (base := base) F21 B
 have D_boxes := Dn.mk (x := "_law_boxes") ⟨_, _, ok_boxes F22 B GD E18 (GU.mono (by decide)) E21, E22.mg, E22.kp, E22.bd⟩
 have D_cond := Dn.mk (x := "_law_cond") ⟨_, _, ok_cond F24 B E24 (GE 3) E23 GT E20 3, E24.mg, E24.kp, E24.bd⟩
 have D_expr := Dn.mk (x := "_law_expr") ⟨_, _, GE 3, E23.mg, E23.kp, E23.bd⟩
 have D_lworth := Dn.mk (x := "_law_worth") ⟨_, _, ok_lworth (P := l.prog) (w := w) (base := base) F25 B, E25.mg, E25.kp, E25.bd⟩
 have D_lvalues := Dn.mk (x := "_law_values") ⟨_, _, ok_lvalues (P := l.prog) (w := w) (base := base) F27 B, E27.mg, E27.kp, E27.bd⟩
 have D_values := Dn.mk (x := "values_by_name") ⟨_, _, ok_values (P := l.prog) (w := w) (base := base) F13 B, E13.mg, E13.kp, E13.bd⟩
 have GW := ok_worth_by (P := l.prog) (w := w) (base := base) F14 E14 12
 have D_wb := Dn.mk (x := "worth_by") ⟨_, _, GW, E14.mg, E14.kp, E14.bd⟩
 have D_names := Dn.mk (x := "names_in") ⟨_, _, ok_names (P := l.prog) (w := w) (base := base) F12 E12 12, E12.mg, E12.kp, E12.bd⟩
 have D_drawn := Dn.mk (x := "_law_drawn") ⟨_, _, GD, E18.mg, E18.kp, E18.bd⟩
 have D_unlike := Dn.mk (x := "_law_unlike") ⟨_, _, GU, E21.mg, E21.kp, E21.bd⟩
 have D_holds := dn_holds FD_holds (dn_holds_by FD_holds_by D_wb 12) D_values
 have D_lholds := dn_lholds FD_law_holds B D_lworth 12
 have D_sob := dn_sob (P := l.prog) (w := w) (base := base) FD_standings_of_boxes B
 have D_lstand := dn_lstand (P := l.prog) (w := w) (base := base) FD_law_standings B
 have D_whole := dn_whole (P := l.prog) (w := w) (base := base) FD_is_whole B
 have D_price := dn_price FD_refuse_price D_whole GL_LEAST_PRICE
 have D_strange1 := dn_strange1 (P := l.prog) (w := w) (base := base) FD_refuse_strange_name
 have D_strange := dn_strange FD_refuse_strange_names D_strange1 D_names
 have D_twice := dn_twice (P := l.prog) (w := w) (base := base) FD_refuse_twice B B_set
 have D_rboxes := dn_rboxes FD_refuse_boxes B D_twice D_whole GL_LEAST_SIZE GL_GREATEST_SIZE GL_WORDS_OF_CONDITIONS
 have D_ways := dn_ways FD_refuse_ways B D_twice D_strange1 D_strange
 have D_begin := dn_begin FD_refuse_begin D_sob D_holds
 have D_copied := dn_copied (P := l.prog) (w := w) (base := base) FD_copied_deed B
 have D_world := dn_world_of FD_world_of B D_rboxes D_twice D_price D_strange D_ways D_begin D_copied
 have D_deed := dn_deed FD_law_deed B D_take D_cond D_expr
 have D_lworld := dn_lworld FD_law_world B D_cell D_boxes D_deck D_cond D_expr D_take D_lstand D_lholds D_lvalues D_drawn D_unlike D_deed
 have D_worth := Dn.mk (x := "worth") ⟨_, _, ok_worth F31 GW E14 ((ok_values F13 B).mono (by decide)) E13, E31.mg, E31.kp, E31.bd⟩
 have D_behind := dn_behind FD_behind_way B D_values D_wb
 have X_named := dx_named (P := l.prog) (w := w) (base := base) FD_named (R_NoName.own base YK)
 have X_comes := dx_comes FD_comes_of X_named D_behind
 have X_shown := dx_shown FD_shown X_named D_worth
 have RR : Refs9 K mg C_ForkError C_NoName [C_NoOrder, C_NoPlan, C_NotPlain, C_NotSure, C_NoText, C_NoWeights, C_NoWorld, C_TooMany] := ⟨R_ForkError, R_NoName, kf, kv, fun D hD => by have := List.all_eq_true.mp kn D hD; rw [Bool.not_eq_true'] at this; exact this⟩
 have D_refused := dn_refused YK FD_law_refused B B_ValueError RR R_NoOrder R_NoPlan R_NotPlain R_NotSure R_NoText R_NoWeights R_NoWorld R_TooMany X_shown X_comes
 exact ok_law F38 B D_lworld D_world D_deck D_take (dn_name FD_law_name B D_take) D_refused
theorem walk {l : PySem.W.OpenLaw} {q : Program} {loose : List Str} {XP : (Str → Option Value) → Heap → Prop} {YP : World → Heap → Prop} {d : DefRec} {K : Params → PySem.W.Frag} (hn : l.most = some 63) (hdf : d.params.defaults = [])
  (hY : ∀ (w : World) (h : Heap), YP w h → (K w.params).In h)
  (F : ∀ (w : World) (mg : Str → Option Value) (fa : Addr) (h : Heap), (K w.params).In h → h.Ns mainGlobals mg → mg d.name = some (.ref fa) →
   ∃ fd : FuncData, (∀ (s : Shared) (u : Value), BindsTo s fd ⟨[u], []⟩ [("script", u)]) ∧ ∀ base : Heap, (K w.params).In base → base.Ns mainGlobals mg → FnOk l.prog w (K w.params) mg base CX0 60 fa fd ["script"] (spLaw (K w.params))) :
  PySem.W.WalkO q loose XP YP l.row.toRowW d [] (fun f vs => PySem.call f vs) :=
 L2.walk_of (n := 63) (k := 60) (x := "script") (CX := fun _ => CX0) (sp := fun w => spLaw (K w.params)) hn (by decide) hdf ⟨rfl, by decide, by decide⟩ hY F (fun _ _ a ns hl _ hS => ⟨a, ns, rfl, hS, hl, fun _ => rfl⟩) fun _ _ _ _ _ z => z
end FP
open PySem PySem.W PyProof.Rows
set_option maxRecDepth 100000 in
set_option maxHeartbeats 0 in
theorem PySem.Challenge.cw_forkplan_k09_no_such_name_holds : PySem.Challenge.rw_forkplan_k09_no_such_name.Holds := by
 w_on
 refine PySem.W.holds_law (by decide +kernel) fun said => ?_
 refine PySem.W.holds_open (q := FP.topView) (loose := []) (N := 7424) (YP := InK FP.topLeft) (XP := XL FP.topView [])
  (Xt := fun s => xlAt FP.topView [] s && recOk (RowW.records (OpenRow.toRowW (PySem.W.OpenLaw.row PySem.Challenge.rw_forkplan_k09_no_such_name))) s)
  (Yf := Hook.obs FP.topHook) (Ya := Hook.val FP.topHook) FP.topRuns
  (Hook.of FP.topHook) (Hook.keeps FP.topHook) (fun s e => xl_of s (Bool.and_eq_true_iff.mp e).1)
  XL.keeps (by rfl) (by rfl) (by rfl) (fun s e => recFacts_of (Bool.and_eq_true_iff.mp e).2)
  (by rfl) (by first | assumption | decide +kernel) (by decide +kernel)
  ⟨rfl, rfl, rfl, rfl, rfl, by decide +kernel⟩ ?hw ?hc
 case hw => w_witness2
 k_fill
 refine FP.walk (l := PySem.Challenge.rw_forkplan_k09_no_such_name) (K := FP.topLeft) rfl rfl (fun w h Y => Y) ?F
 case F =>
  intro w mg fa h KX G hmg
  refine' FP.all_mk KX G hmg ?a0 ?l0 ?c0 ?k0 ?a1 ?l1 ?c1 ?k1 ?a2 ?l2 ?c2 ?k2 ?a3 ?l3 ?c3 ?k3 ?a4 ?l4 ?c4 ?k4 ?a5 ?l5 ?c5 ?k5 ?a6 ?l6 ?c6 ?k6 ?a7 ?l7 ?c7 ?k7 ?a8 ?l8 ?c8 ?k8 ?a9 ?l9 ?c9 ?k9 ?a10 ?l10 ?c10 ?k10 ?a11 ?l11 ?c11 ?k11 ?a12 ?l12 ?c12 ?k12 ?a13 ?l13 ?c13 ?k13 ?a14 ?l14 ?c14 ?k14 ?a15 ?l15 ?c15 ?k15 ?a16 ?l16 ?c16 ?k16 ?a17 ?l17 ?c17 ?k17 ?a18 ?l18 ?c18 ?k18 ?a19 ?l19 ?c19 ?k19 ?a20 ?l20 ?c20 ?k20 ?a21 ?l21 ?c21 ?k21 ?a22 ?l22 ?c22 ?k22 ?a23 ?l23 ?c23 ?k23 ?a24 ?l24 ?c24 ?k24 ?a25 ?l25 ?c25 ?k25 ?a26 ?l26 ?c26 ?k26 ?a27 ?l27 ?c27 ?k27 ?a28 ?l28 ?c28 ?k28 ?a29 ?l29 ?c29 ?k29 ?a30 ?l30 ?c30 ?k30 ?a31 ?l31 ?c31 ?k31 ?a32 ?l32 ?c32 ?k32 ?a33 ?l33 ?c33 ?k33 ?a34 ?l34 ?c34 ?k34 ?a35 ?l35 ?c35 ?k35 ?a36 ?l36 ?c36 ?k36 ?a37 ?l37 ?c37 ?k37 ?a38 ?l38 ?c38 ?k38 ?g_LEAST_SIZE ?g_GREATEST_SIZE ?g_LEAST_PRICE ?g_WORDS_OF_CONDITIONS ?g2_WORDS_OF_CONDITIONS ?g3_WORDS_OF_CONDITIONS ?g4_WORDS_OF_CONDITIONS ?ra_ForkError ?rl_ForkError ?rn_ForkError ?rw_ForkError ?ri_ForkError ?r1_ForkError ?r2_ForkError ?r3_ForkError ?ra_NoName ?rl_NoName ?rn_NoName ?rw_NoName ?ri_NoName ?r1_NoName ?r2_NoName ?r3_NoName ?ra_NoOrder ?rl_NoOrder ?rn_NoOrder ?rw_NoOrder ?ri_NoOrder ?r1_NoOrder ?r2_NoOrder ?r3_NoOrder ?ra_NoPlan ?rl_NoPlan ?rn_NoPlan ?rw_NoPlan ?ri_NoPlan ?r1_NoPlan ?r2_NoPlan ?r3_NoPlan ?ra_NotPlain ?rl_NotPlain ?rn_NotPlain ?rw_NotPlain ?ri_NotPlain ?r1_NotPlain ?r2_NotPlain ?r3_NotPlain ?ra_NotSure ?rl_NotSure ?rn_NotSure ?rw_NotSure ?ri_NotSure ?r1_NotSure ?r2_NotSure ?r3_NotSure ?ra_NoText ?rl_NoText ?rn_NoText ?rw_NoText ?ri_NoText ?r1_NoText ?r2_NoText ?r3_NoText ?ra_NoWeights ?rl_NoWeights ?rn_NoWeights ?rw_NoWeights ?ri_NoWeights ?r1_NoWeights ?r2_NoWeights ?r3_NoWeights ?ra_NoWorld ?rl_NoWorld ?rn_NoWorld ?rw_NoWorld ?ri_NoWorld ?r1_NoWorld ?r2_NoWorld ?r3_NoWorld ?ra_TooMany ?rl_TooMany ?rn_TooMany ?rw_TooMany ?ri_TooMany ?r1_TooMany ?r2_TooMany ?r3_TooMany ?kf ?kv ?kn ?z_len ?z_range ?z_min ?z_isinstance ?z_list ?z_reversed ?z_tuple ?z_int ?z_bool ?z_dict ?z_zip ?z_set ?z_ValueError
  (case a0 => k_is); (case l0 => k_is); (case c0 => k_is); (case k0 => k_is)
  (case a1 => k_is); (case l1 => k_is); (case c1 => k_is); (case k1 => k_is)
  (case a2 => k_is); (case l2 => k_is); (case c2 => k_is); (case k2 => k_is)
  (case a3 => k_is); (case l3 => k_is); (case c3 => k_is); (case k3 => k_is)
  (case a4 => k_is); (case l4 => k_is); (case c4 => k_is); (case k4 => k_is)
  (case a5 => k_is); (case l5 => k_is); (case c5 => k_is); (case k5 => k_is)
  (case a6 => k_is); (case l6 => k_is); (case c6 => k_is); (case k6 => k_is)
  (case a7 => k_is); (case l7 => k_is); (case c7 => k_is); (case k7 => k_is)
  (case a8 => k_is); (case l8 => k_is); (case c8 => k_is); (case k8 => k_is)
  (case a9 => k_is); (case l9 => k_is); (case c9 => k_is); (case k9 => k_is)
  (case a10 => k_is); (case l10 => k_is); (case c10 => k_is); (case k10 => k_is)
  (case a11 => k_is); (case l11 => k_is); (case c11 => k_is); (case k11 => k_is)
  (case a12 => k_is); (case l12 => k_is); (case c12 => k_is); (case k12 => k_is)
  (case a13 => k_is); (case l13 => k_is); (case c13 => k_is); (case k13 => k_is)
  (case a14 => k_is); (case l14 => k_is); (case c14 => k_is); (case k14 => k_is)
  (case a15 => k_is); (case l15 => k_is); (case c15 => k_is); (case k15 => k_is)
  (case a16 => k_is); (case l16 => k_is); (case c16 => k_is); (case k16 => k_is)
  (case a17 => k_is); (case l17 => k_is); (case c17 => k_is); (case k17 => k_is)
  (case a18 => k_is); (case l18 => k_is); (case c18 => k_is); (case k18 => k_is)
  (case a19 => k_is); (case l19 => k_is); (case c19 => k_is); (case k19 => k_is)
  (case a20 => k_is); (case l20 => k_is); (case c20 => k_is); (case k20 => k_is)
  (case a21 => k_is); (case l21 => k_is); (case c21 => k_is); (case k21 => k_is)
  (case a22 => k_is); (case l22 => k_is); (case c22 => k_is); (case k22 => k_is)
  (case a23 => k_is); (case l23 => k_is); (case c23 => k_is); (case k23 => k_is)
  (case a24 => k_is); (case l24 => k_is); (case c24 => k_is); (case k24 => k_is)
  (case a25 => k_is); (case l25 => k_is); (case c25 => k_is); (case k25 => k_is)
  (case a26 => k_is); (case l26 => k_is); (case c26 => k_is); (case k26 => k_is)
  (case a27 => k_is); (case l27 => k_is); (case c27 => k_is); (case k27 => k_is)
  (case a28 => k_is); (case l28 => k_is); (case c28 => k_is); (case k28 => k_is)
  (case a29 => k_is); (case l29 => k_is); (case c29 => k_is); (case k29 => k_is)
  (case a30 => k_is); (case l30 => k_is); (case c30 => k_is); (case k30 => k_is)
  (case a31 => k_is); (case l31 => k_is); (case c31 => k_is); (case k31 => k_is)
  (case a32 => k_is); (case l32 => k_is); (case c32 => k_is); (case k32 => k_is)
  (case a33 => k_is); (case l33 => k_is); (case c33 => k_is); (case k33 => k_is)
  (case a34 => k_is); (case l34 => k_is); (case c34 => k_is); (case k34 => k_is)
  (case a35 => k_is); (case l35 => k_is); (case c35 => k_is); (case k35 => k_is)
  (case a36 => k_is); (case l36 => k_is); (case c36 => k_is); (case k36 => k_is)
  (case a37 => k_is); (case l37 => k_is); (case c37 => k_is); (case k37 => k_is)
  (case a38 => k_is); (case l38 => k_is); (case c38 => k_is); (case k38 => k_is)
  (case g_LEAST_SIZE => first | k_is | rfl | decide)
  (case g_GREATEST_SIZE => first | k_is | rfl | decide)
  (case g_LEAST_PRICE => first | k_is | rfl | decide)
  (case g_WORDS_OF_CONDITIONS => first | k_is | rfl | decide)
  (case g2_WORDS_OF_CONDITIONS => first | k_is | rfl | decide)
  (case g3_WORDS_OF_CONDITIONS => first | k_is | rfl | decide)
  (case g4_WORDS_OF_CONDITIONS => first | k_is | rfl | decide)
  (case ra_ForkError => first | k_is | rfl | decide)
  (case rl_ForkError => first | k_is | rfl | decide)
  (case rn_ForkError => first | k_is | rfl | decide)
  (case rw_ForkError => first | k_is | rfl | decide)
  (case ri_ForkError => first | k_is | rfl | decide)
  (case r1_ForkError => first | k_is | rfl | decide)
  (case r2_ForkError => first | k_is | rfl | decide)
  (case r3_ForkError => first | k_is | rfl | decide)
  (case ra_NoName => first | k_is | rfl | decide)
  (case rl_NoName => first | k_is | rfl | decide)
  (case rn_NoName => first | k_is | rfl | decide)
  (case rw_NoName => first | k_is | rfl | decide)
  (case ri_NoName => first | k_is | rfl | decide)
  (case r1_NoName => first | k_is | rfl | decide)
  (case r2_NoName => first | k_is | rfl | decide)
  (case r3_NoName => first | k_is | rfl | decide)
  (case ra_NoOrder => first | k_is | rfl | decide)
  (case rl_NoOrder => first | k_is | rfl | decide)
  (case rn_NoOrder => first | k_is | rfl | decide)
  (case rw_NoOrder => first | k_is | rfl | decide)
  (case ri_NoOrder => first | k_is | rfl | decide)
  (case r1_NoOrder => first | k_is | rfl | decide)
  (case r2_NoOrder => first | k_is | rfl | decide)
  (case r3_NoOrder => first | k_is | rfl | decide)
  (case ra_NoPlan => first | k_is | rfl | decide)
  (case rl_NoPlan => first | k_is | rfl | decide)
  (case rn_NoPlan => first | k_is | rfl | decide)
  (case rw_NoPlan => first | k_is | rfl | decide)
  (case ri_NoPlan => first | k_is | rfl | decide)
  (case r1_NoPlan => first | k_is | rfl | decide)
  (case r2_NoPlan => first | k_is | rfl | decide)
  (case r3_NoPlan => first | k_is | rfl | decide)
  (case ra_NotPlain => first | k_is | rfl | decide)
  (case rl_NotPlain => first | k_is | rfl | decide)
  (case rn_NotPlain => first | k_is | rfl | decide)
  (case rw_NotPlain => first | k_is | rfl | decide)
  (case ri_NotPlain => first | k_is | rfl | decide)
  (case r1_NotPlain => first | k_is | rfl | decide)
  (case r2_NotPlain => first | k_is | rfl | decide)
  (case r3_NotPlain => first | k_is | rfl | decide)
  (case ra_NotSure => first | k_is | rfl | decide)
  (case rl_NotSure => first | k_is | rfl | decide)
  (case rn_NotSure => first | k_is | rfl | decide)
  (case rw_NotSure => first | k_is | rfl | decide)
  (case ri_NotSure => first | k_is | rfl | decide)
  (case r1_NotSure => first | k_is | rfl | decide)
  (case r2_NotSure => first | k_is | rfl | decide)
  (case r3_NotSure => first | k_is | rfl | decide)
  (case ra_NoText => first | k_is | rfl | decide)
  (case rl_NoText => first | k_is | rfl | decide)
  (case rn_NoText => first | k_is | rfl | decide)
  (case rw_NoText => first | k_is | rfl | decide)
  (case ri_NoText => first | k_is | rfl | decide)
  (case r1_NoText => first | k_is | rfl | decide)
  (case r2_NoText => first | k_is | rfl | decide)
  (case r3_NoText => first | k_is | rfl | decide)
  (case ra_NoWeights => first | k_is | rfl | decide)
  (case rl_NoWeights => first | k_is | rfl | decide)
  (case rn_NoWeights => first | k_is | rfl | decide)
  (case rw_NoWeights => first | k_is | rfl | decide)
  (case ri_NoWeights => first | k_is | rfl | decide)
  (case r1_NoWeights => first | k_is | rfl | decide)
  (case r2_NoWeights => first | k_is | rfl | decide)
  (case r3_NoWeights => first | k_is | rfl | decide)
  (case ra_NoWorld => first | k_is | rfl | decide)
  (case rl_NoWorld => first | k_is | rfl | decide)
  (case rn_NoWorld => first | k_is | rfl | decide)
  (case rw_NoWorld => first | k_is | rfl | decide)
  (case ri_NoWorld => first | k_is | rfl | decide)
  (case r1_NoWorld => first | k_is | rfl | decide)
  (case r2_NoWorld => first | k_is | rfl | decide)
  (case r3_NoWorld => first | k_is | rfl | decide)
  (case ra_TooMany => first | k_is | rfl | decide)
  (case rl_TooMany => first | k_is | rfl | decide)
  (case rn_TooMany => first | k_is | rfl | decide)
  (case rw_TooMany => first | k_is | rfl | decide)
  (case ri_TooMany => first | k_is | rfl | decide)
  (case r1_TooMany => first | k_is | rfl | decide)
  (case r2_TooMany => first | k_is | rfl | decide)
  (case r3_TooMany => first | k_is | rfl | decide)
  (case kf => first | k_is | rfl | decide)
  (case kv => first | k_is | rfl | decide)
  (case kn => first | k_is | rfl | decide)
  (case z_len => k_is); (case z_range => k_is); (case z_min => k_is); (case z_isinstance => k_is); (case z_list => k_is); (case z_reversed => k_is); (case z_tuple => k_is); (case z_int => k_is); (case z_bool => k_is); (case z_dict => k_is); (case z_zip => k_is); (case z_set => k_is); (case z_ValueError => k_is)
