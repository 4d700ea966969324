import PyProof.Rows.All
import Wide.All
import OpenK.AllK
import Wide.FinOn
import Lean
import PyProof.EqAt
import PyProof.EqKinds
import PyProof.TupleCall
import PyProof.NeKinds
import KE.KRevIter
import PyProof.AttrMissHeap
import PyProof.ZipIter
import PyProof.DictList
import KE.KItemsList
import KE.KDictOf
import PyProof.Rows.SetFrom
import PyProof.ConsumeWalk
import PyProof.RaisesMany
import PyProof.Rows.Own
import PyProof.FString
import PyProof.PureStr
import PyProof.FactsAll.str_2
import PyProof.RulesTry
import PyProof.RulesAs
import PyProof.RulesDel
import PyProof.ExcArgsOwn
import PyProof.ExcAttrAll.ValueError
import KE.KIsAll
import OpenK.KOwn
import PyProof.ExcBaseAll.ValueError
import PyProof.StationsW
import PyProof.Rows.CatchTuple
import KE.KIntText
import PyProof.Rows.StrSplitJoin
import PyProof.Rows.StrSplitAre
import PyProof.StrWalks
import PyProof.DictWalks
import PyProof.EnumMake
import PyProof.Rows.Range3
import PyProof.StrLawsTight
import PyProof.Rows.StrDigitsNeg
import PyProof.Rows.StrIntSpec
import PySem.Challenge.RW_forkplan_k05_no_world
set_option maxHeartbeats 4000000
set_option Elab.async false
set_option linter.all false
set_option maxRecDepth 100000
set_option maxHeartbeats 0 in
theorem FP.saidW:PySem.Challenge.rw_forkplan_k05_no_world.wellSaid=true:=by decide +kernel
namespace L2
open PySem
noncomputable def xD (s:Stmt):Arguments:=match s with
 | .FunctionDef _ a _ _ _ _ _ _ _ _=>a
 | _=>{ posonlyargs:=[],args:=[],vararg:=none,kwonlyargs:=[],kw_defaults:=[],kwarg:=none,defaults:=[] }
noncomputable def xC (s:Stmt):List Stmt:=match s with
 | .FunctionDef _ _ b _ _ _ _ _ _ _=>b
 | _=>[]
noncomputable def xB (s:Stmt):Scope:=match s with
 | .FunctionDef _ _ _ _ _ _ sc _ _ _=>sc
 | _=>{ kind:=.function,names:=[],isGenerator:=false,isCoroutine:=false }
end L2
namespace FP
open PySem
noncomputable def top (i:Nat):Stmt:=PySem.Challenge.pw_forkplan_k05_no_world.main.body.getD i (.Pass ⟨0,0,0,0⟩)
noncomputable abbrev oF (x:String)(i:Nat)(m:String)(n c:Nat):Obj:=Obj.mk (.type "function") none (Data.func (PySem.W.fnOf (Str.ofString x) (Str.ofString x) (L2.xD (top i)) (L2.xC (top i)) (L2.xB (top i)) .none .none .none (.str (Str.ofString m) n) none (.ref c) .none)) #[]
noncomputable abbrev oG (x:String)(i:Nat):Obj:=Obj.mk .none none (Data.func { PySem.W.fnOf (Str.ofString x) (Str.ofString x) (L2.xD (top i)) (L2.xC (top i)) (L2.xB (top i)) .none .none .none .none none .none .none with globals:=0 }) #[]
noncomputable abbrev oE (P:Params)(k:String)(n:Nat)(v:Value):DictEntry:=DictEntry.mk (PyData.keyHash P (Str.ofString k)) (.str (Str.ofString k) n) v
noncomputable abbrev oS (x:String)(n:Nat):Value:=.str (Str.ofString x) n
noncomputable abbrev oR (n:Nat):Value:=.ref n
noncomputable abbrev oI (n:Int):Value:=.int n 0
noncomputable abbrev oN:Obj:=Obj.mk .none none (Data.fields #[]) #[]
noncomputable abbrev oT (x:Array Value):Obj:=Obj.mk (.type "tuple") none (Data.seq x 0) #[]
noncomputable abbrev oC (x:Array Value):Obj:=Obj.mk (.type "code") none (Data.fields x) #[]
open PySem.W
noncomputable def qEf (P:Params):List Obj:=[boot_o_0 P,
  boot_o_1 P,
  boot_o_2 P,
  (Obj.mk (.type "dict") none (Data.dict #[(oE P "__name__" 165 (oS "law_forkplan_k05_no_world" 490)),(oE P "__doc__" 166 .none),(oE P "__package__" 167 .none),(oE P "__loader__" 168 (.builtin "__main__.__loader__#opaque")),(oE P "__spec__" 169 .none),(oE P "__annotations__" 170 (oR 6)),(oE P "__builtins__" 171 (oR 4)),(oE P "__file__" 173 (oS "/claim/cut.py" 172)),(oE P "__cached__" 174 .none),(oE P "ForkError" 206 (oR 24)),(oE P "NoWorld" 222 (oR 37)),(oE P "NoName" 238 (oR 49)),(oE P "NoPlan" 254 (oR 61)),(oE P "NotSure" 270 (oR 73)),(oE P "NotPlain" 286 (oR 85)),(oE P "NoWeights" 302 (oR 97)),(oE P "TooMany" 318 (oR 109)),(oE P "NoText" 334 (oR 121)),(oE P "NoOrder" 350 (oR 133)),(oE P "holds" 361 (oR 142)),(oE P "names_in" 370 (oR 149)),(oE P "values_by_name" 376 (oR 154)),(oE P "worth_by" 387 (oR 161)),(oE P "holds_by" 398 (oR 168)),(oE P "LEAST_SIZE" 402 (.int 2 401)),(oE P "GREATEST_SIZE" 404 (.int 5 403)),(oE P "LEAST_PRICE" 406 (.int 1 405)),(oE P "WORDS_OF_CONDITIONS" 410 (oR 169)),(oE P "world_of" 416 (oR 174)),(oE P "standings_of_boxes" 422 (oR 179)),(oE P "copied_deed" 428 (oR 184)),(oE P "is_whole" 435 (oR 191)),(oE P "refuse_boxes" 441 (oR 196)),(oE P "refuse_twice" 449 (oR 203)),(oE P "refuse_price" 457 (oR 210)),(oE P "refuse_ways" 463 (oR 215)),(oE P "refuse_strange_name" 471 (oR 222)),(oE P "refuse_strange_names" 480 (oR 229)),(oE P "refuse_begin" 489 (oR 236)),(oE P "_law_cell_at" 499 (oR 243)),(oE P "_law_stir" 508 (oR 250)),(oE P "_law_drawn" 519 (oR 257)),(oE P "_law_deck" 526 (oR 264)),(oE P "_law_take" 535 (oR 271)),(oE P "_law_unlike" 551 (oR 278)),(oE P "_law_boxes" 564 (oR 285)),(oE P "_law_expr" 575 (oR 292)),(oE P "_law_cond" 586 (oR 299)),(oE P "_law_worth" 598 (oR 306)),(oE P "_law_holds" 607 (oR 313)),(oE P "_law_values" 613 (oR 318)),(oE P "_law_standings" 619 (oR 323)),(oE P "_law_deed" 634 (oR 330)),(oE P "_law_world" 640 (oR 335)),(oE P "_law_refused" 649 (oR 342)),(oE P "_law_strange" 655 (oR 347)),(oE P "_law_leaves" 665 (oR 354)),(oE P "_law_put" 674 (oR 361)),(oE P "_law_misnamed" 684 (oR 368)),(oE P "_law_put_in" 694 (oR 375)),(oE P "_law_bad_way" 708 (oR 382)),(oE P "_law_bad_deed" 729 (oR 389)),(oE P "_law_bad_look" 744 (oR 396)),(oE P "_law_bad_boxes" 750 (oR 401)),(oE P "_law_nowhere" 761 (oR 408)),(oE P "_law_wrong" 767 (oR 413)),(oE P "_law_copied" 773 (oR 418)),(oE P "law" 784 (oR 425))] 68) #[]),
  boot_o_4 P,
  boot_o_5 P,
  boot_o_6 P,
  boot_o_7 P,
  boot_o_8 P,
  boot_o_9 P,
  boot_o_10 P,
  oT #[],
  (Obj.mk .none none (Data.fields #[(oI 2),(oI 0),(oR 20),(oI 4),(oI 0),(oR 33),(oI 6),(oI 0),(oR 45),(oI 8),(oI 0),(oR 57),(oI 10),(oI 0),(oR 69),(oI 12),(oI 0),(oR 81),(oI 14),(oI 0),(oR 93),(oI 16),(oI 0),(oR 105),(oI 18),(oI 0),(oR 117),(oI 20),(oI 0),(oR 129),(oI 23),(oI 0),(oR 141),(oI 25),(oI 0),(oR 148),(oI 33),(oI 0),(oR 153),(oI 35),(oI 0),(oR 160),(oI 44),(oI 0),(oR 167),(oI 60),(oI 0),(oR 173),(oI 75),(oI 0),(oR 178),(oI 83),(oI 0),(oR 183),(oI 85),(oI 0),(oR 190),(oI 87),(oI 0),(oR 195),(oI 96),(oI 0),(oR 202),(oI 99),(oI 0),(oR 209),(oI 102),(oI 0),(oR 214),(oI 110),(oI 0),(oR 221),(oI 113),(oI 0),(oR 228),(oI 116),(oI 0),(oR 235),(oI 122),(oI 0),(oR 242),(oI 126),(oI 0),(oR 249),(oI 130),(oI 0),(oR 256),(oI 140),(oI 0),(oR 263),(oI 144),(oI 0),(oR 270),(oI 148),(oI 0),(oR 277),(oI 159),(oI 0),(oR 284),(oI 172),(oI 0),(oR 291),(oI 180),(oI 0),(oR 298),(oI 191),(oI 0),(oR 305),(oI 204),(oI 0),(oR 312),(oI 213),(oI 0),(oR 317),(oI 215),(oI 0),(oR 322),(oI 223),(oI 0),(oR 329),(oI 236),(oI 0),(oR 334),(oI 257),(oI 0),(oR 341),(oI 266),(oI 0),(oR 346),(oI 272),(oI 0),(oR 353),(oI 279),(oI 0),(oR 360),(oI 283),(oI 0),(oR 367),(oI 288),(oI 0),(oR 374),(oI 291),(oI 0),(oR 381),(oI 305),(oI 0),(oR 388),(oI 324),(oI 0),(oR 395),(oI 336),(oI 0),(oR 400),(oI 347),(oI 0),(oR 407),(oI 352),(oI 0),(oR 412),(oI 369),(oI 0),(oR 417),(oI 373),(oI 0),(oR 424)]) #[]),
  oC #[(oS "<module>" 182),(oS "<module>" 183),(oS "/claim/cut.py" 184),(oI 1),(oI 0),(oI 0),(oI 0),(oI 0),(oR 11),(.bool Bool.false),(oI 181),(oR 12),.none,.none,.none,.none,(oI 185),(oI 1),(oS "/claim/cut.py" 186)],
  (Obj.mk (.type "frame") none Data.plain #[(some (oR 13)),(some (oR 3)),(some (oR 3)),none,(some (oS "__main__" 164)),none,(some (oR 0))]),
  oT #[(.type "ValueError")],
  (Obj.mk (.type "builtin_function_or_method") none (Data.fields #[(.builtin "type.__prepare__"),(.type "type")]) #[]),
  (Obj.mk (.type "dict") none (Data.dict #[(oE P "__module__" 196 (oS "forkplan.errors" 187)),(oE P "__qualname__" 198 (oS "ForkError" 197)),(oE P "__firstlineno__" 200 (.int 2 199)),(oE P "__static_attributes__" 201 (oR 22))] 4) #[]),
  oT #[],
  oN,
  oC #[(oS "ForkError" 191),(oS "ForkError" 192),(oS "/claim/cut.py" 193),(oI 2),(oI 0),(oI 0),(oI 0),(oI 0),(oR 18),(.bool Bool.false),(oI 181),(oR 19),.none,.none,.none,.none,(oI 194),(oI 2),(oS "/claim/cut.py" 195)],
  (Obj.mk (.type "frame") none Data.plain #[(some (oR 20)),(some (oR 3)),(some (oR 17)),none,(some (oS "forkplan.errors" 187)),none,(some (oR 0))]),
  oT #[],
  (Obj.mk (.type "dict") none (Data.dict #[(oE P "__module__" 196 (oS "forkplan.errors" 187)),(oE P "__firstlineno__" 200 (.int 2 199)),(oE P "__static_attributes__" 201 (oR 22)),(oE P "__weakref__" 203 (oR 25)),(oE P "__doc__" 204 .none)] 3) #[]),
  (Obj.mk (.type "type") none (Data.cls (ClassData.mk (Str.ofString "ForkError") [(.type "ValueError")] [(oR 24),(.type "ValueError"),(.type "Exception"),(.type "BaseException"),(.type "object")] 23 (Str.ofString "ForkError") Bool.true [] [(oR 37),(oR 49),(oR 61),(oR 73),(oR 85),(oR 97),(oR 109),(oR 121),(oR 133)] Bool.false none Bool.false)) #[(some (oR 15)),none,(some (oS "ForkError" 189)),(some (oS "ForkError" 197)),(some (.builtin "ValueError.__new__")),(some (.bool Bool.true))]),
  (Obj.mk (.type "getset_descriptor") none (Data.fields #[(oS "__weakref__" 202),(oR 24),(.builtin "ExceptionGroup.__weakref__"),.none]) #[]),
  (Obj.mk (.type "super") none (Data.fields #[(oR 24),(oR 24),(oR 24)]) #[]),
  (Obj.mk (.type "builtin_function_or_method") none (Data.fields #[(.builtin "object.__init_subclass__"),(oR 24)]) #[]),
  oT #[(oR 24)],
  (Obj.mk (.type "builtin_function_or_method") none (Data.fields #[(.builtin "type.__prepare__"),(.type "type")]) #[]),
  (Obj.mk (.type "dict") none (Data.dict #[(oE P "__module__" 214 (oS "forkplan.errors" 187)),(oE P "__qualname__" 216 (oS "NoWorld" 215)),(oE P "__firstlineno__" 218 (.int 4 217)),(oE P "__static_attributes__" 219 (oR 35))] 4) #[]),
  oT #[],
  oN,
  oC #[(oS "NoWorld" 209),(oS "NoWorld" 210),(oS "/claim/cut.py" 211),(oI 4),(oI 0),(oI 0),(oI 0),(oI 0),(oR 31),(.bool Bool.false),(oI 181),(oR 32),.none,.none,.none,.none,(oI 212),(oI 4),(oS "/claim/cut.py" 213)],
  (Obj.mk (.type "frame") none Data.plain #[(some (oR 33)),(some (oR 3)),(some (oR 30)),none,(some (oS "forkplan.errors" 187)),none,(some (oR 0))]),
  oT #[],
  (Obj.mk (.type "dict") none (Data.dict #[(oE P "__module__" 214 (oS "forkplan.errors" 187)),(oE P "__firstlineno__" 218 (.int 4 217)),(oE P "__static_attributes__" 219 (oR 35)),(oE P "__doc__" 220 .none)] 2) #[]),
  (Obj.mk (.type "type") none (Data.cls (ClassData.mk (Str.ofString "NoWorld") [(oR 24)] [(oR 37),(oR 24),(.type "ValueError"),(.type "Exception"),(.type "BaseException"),(.type "object")] 36 (Str.ofString "NoWorld") Bool.true [] [] Bool.false none Bool.false)) #[(some (oR 28)),none,(some (oS "NoWorld" 207)),(some (oS "NoWorld" 215)),(some (.builtin "ValueError.__new__")),(some (.bool Bool.true))]),
  (Obj.mk (.type "super") none (Data.fields #[(oR 37),(oR 37),(oR 37)]) #[]),
  (Obj.mk (.type "builtin_function_or_method") none (Data.fields #[(.builtin "object.__init_subclass__"),(oR 37)]) #[]),
  oT #[(oR 24)],
  (Obj.mk (.type "builtin_function_or_method") none (Data.fields #[(.builtin "type.__prepare__"),(.type "type")]) #[]),
  (Obj.mk (.type "dict") none (Data.dict #[(oE P "__module__" 230 (oS "forkplan.errors" 187)),(oE P "__qualname__" 232 (oS "NoName" 231)),(oE P "__firstlineno__" 234 (.int 6 233)),(oE P "__static_attributes__" 235 (oR 47))] 4) #[]),
  oT #[],
  oN,
  oC #[(oS "NoName" 225),(oS "NoName" 226),(oS "/claim/cut.py" 227),(oI 6),(oI 0),(oI 0),(oI 0),(oI 0),(oR 43),(.bool Bool.false),(oI 181),(oR 44),.none,.none,.none,.none,(oI 228),(oI 6),(oS "/claim/cut.py" 229)],
  (Obj.mk (.type "frame") none Data.plain #[(some (oR 45)),(some (oR 3)),(some (oR 42)),none,(some (oS "forkplan.errors" 187)),none,(some (oR 0))]),
  oT #[],
  (Obj.mk (.type "dict") none (Data.dict #[(oE P "__module__" 230 (oS "forkplan.errors" 187)),(oE P "__firstlineno__" 234 (.int 6 233)),(oE P "__static_attributes__" 235 (oR 47)),(oE P "__doc__" 236 .none)] 2) #[]),
  (Obj.mk (.type "type") none (Data.cls (ClassData.mk (Str.ofString "NoName") [(oR 24)] [(oR 49),(oR 24),(.type "ValueError"),(.type "Exception"),(.type "BaseException"),(.type "object")] 48 (Str.ofString "NoName") Bool.true [] [] Bool.false none Bool.false)) #[(some (oR 40)),none,(some (oS "NoName" 223)),(some (oS "NoName" 231)),(some (.builtin "ValueError.__new__")),(some (.bool Bool.true))]),
  (Obj.mk (.type "super") none (Data.fields #[(oR 49),(oR 49),(oR 49)]) #[]),
  (Obj.mk (.type "builtin_function_or_method") none (Data.fields #[(.builtin "object.__init_subclass__"),(oR 49)]) #[]),
  oT #[(oR 24)],
  (Obj.mk (.type "builtin_function_or_method") none (Data.fields #[(.builtin "type.__prepare__"),(.type "type")]) #[]),
  (Obj.mk (.type "dict") none (Data.dict #[(oE P "__module__" 246 (oS "forkplan.errors" 187)),(oE P "__qualname__" 248 (oS "NoPlan" 247)),(oE P "__firstlineno__" 250 (.int 8 249)),(oE P "__static_attributes__" 251 (oR 59))] 4) #[]),
  oT #[],
  oN,
  oC #[(oS "NoPlan" 241),(oS "NoPlan" 242),(oS "/claim/cut.py" 243),(oI 8),(oI 0),(oI 0),(oI 0),(oI 0),(oR 55),(.bool Bool.false),(oI 181),(oR 56),.none,.none,.none,.none,(oI 244),(oI 8),(oS "/claim/cut.py" 245)],
  (Obj.mk (.type "frame") none Data.plain #[(some (oR 57)),(some (oR 3)),(some (oR 54)),none,(some (oS "forkplan.errors" 187)),none,(some (oR 0))]),
  oT #[],
  (Obj.mk (.type "dict") none (Data.dict #[(oE P "__module__" 246 (oS "forkplan.errors" 187)),(oE P "__firstlineno__" 250 (.int 8 249)),(oE P "__static_attributes__" 251 (oR 59)),(oE P "__doc__" 252 .none)] 2) #[]),
  (Obj.mk (.type "type") none (Data.cls (ClassData.mk (Str.ofString "NoPlan") [(oR 24)] [(oR 61),(oR 24),(.type "ValueError"),(.type "Exception"),(.type "BaseException"),(.type "object")] 60 (Str.ofString "NoPlan") Bool.true [] [] Bool.false none Bool.false)) #[(some (oR 52)),none,(some (oS "NoPlan" 239)),(some (oS "NoPlan" 247)),(some (.builtin "ValueError.__new__")),(some (.bool Bool.true))]),
  (Obj.mk (.type "super") none (Data.fields #[(oR 61),(oR 61),(oR 61)]) #[]),
  (Obj.mk (.type "builtin_function_or_method") none (Data.fields #[(.builtin "object.__init_subclass__"),(oR 61)]) #[]),
  oT #[(oR 24)],
  (Obj.mk (.type "builtin_function_or_method") none (Data.fields #[(.builtin "type.__prepare__"),(.type "type")]) #[]),
  (Obj.mk (.type "dict") none (Data.dict #[(oE P "__module__" 262 (oS "forkplan.errors" 187)),(oE P "__qualname__" 264 (oS "NotSure" 263)),(oE P "__firstlineno__" 266 (.int 10 265)),(oE P "__static_attributes__" 267 (oR 71))] 4) #[]),
  oT #[],
  oN,
  oC #[(oS "NotSure" 257),(oS "NotSure" 258),(oS "/claim/cut.py" 259),(oI 10),(oI 0),(oI 0),(oI 0),(oI 0),(oR 67),(.bool Bool.false),(oI 181),(oR 68),.none,.none,.none,.none,(oI 260),(oI 10),(oS "/claim/cut.py" 261)],
  (Obj.mk (.type "frame") none Data.plain #[(some (oR 69)),(some (oR 3)),(some (oR 66)),none,(some (oS "forkplan.errors" 187)),none,(some (oR 0))]),
  oT #[],
  (Obj.mk (.type "dict") none (Data.dict #[(oE P "__module__" 262 (oS "forkplan.errors" 187)),(oE P "__firstlineno__" 266 (.int 10 265)),(oE P "__static_attributes__" 267 (oR 71)),(oE P "__doc__" 268 .none)] 2) #[]),
  (Obj.mk (.type "type") none (Data.cls (ClassData.mk (Str.ofString "NotSure") [(oR 24)] [(oR 73),(oR 24),(.type "ValueError"),(.type "Exception"),(.type "BaseException"),(.type "object")] 72 (Str.ofString "NotSure") Bool.true [] [] Bool.false none Bool.false)) #[(some (oR 64)),none,(some (oS "NotSure" 255)),(some (oS "NotSure" 263)),(some (.builtin "ValueError.__new__")),(some (.bool Bool.true))]),
  (Obj.mk (.type "super") none (Data.fields #[(oR 73),(oR 73),(oR 73)]) #[]),
  (Obj.mk (.type "builtin_function_or_method") none (Data.fields #[(.builtin "object.__init_subclass__"),(oR 73)]) #[]),
  oT #[(oR 24)],
  (Obj.mk (.type "builtin_function_or_method") none (Data.fields #[(.builtin "type.__prepare__"),(.type "type")]) #[]),
  (Obj.mk (.type "dict") none (Data.dict #[(oE P "__module__" 278 (oS "forkplan.errors" 187)),(oE P "__qualname__" 280 (oS "NotPlain" 279)),(oE P "__firstlineno__" 282 (.int 12 281)),(oE P "__static_attributes__" 283 (oR 83))] 4) #[]),
  oT #[],
  oN,
  oC #[(oS "NotPlain" 273),(oS "NotPlain" 274),(oS "/claim/cut.py" 275),(oI 12),(oI 0),(oI 0),(oI 0),(oI 0),(oR 79),(.bool Bool.false),(oI 181),(oR 80),.none,.none,.none,.none,(oI 276),(oI 12),(oS "/claim/cut.py" 277)],
  (Obj.mk (.type "frame") none Data.plain #[(some (oR 81)),(some (oR 3)),(some (oR 78)),none,(some (oS "forkplan.errors" 187)),none,(some (oR 0))]),
  oT #[],
  (Obj.mk (.type "dict") none (Data.dict #[(oE P "__module__" 278 (oS "forkplan.errors" 187)),(oE P "__firstlineno__" 282 (.int 12 281)),(oE P "__static_attributes__" 283 (oR 83)),(oE P "__doc__" 284 .none)] 2) #[]),
  (Obj.mk (.type "type") none (Data.cls (ClassData.mk (Str.ofString "NotPlain") [(oR 24)] [(oR 85),(oR 24),(.type "ValueError"),(.type "Exception"),(.type "BaseException"),(.type "object")] 84 (Str.ofString "NotPlain") Bool.true [] [] Bool.false none Bool.false)) #[(some (oR 76)),none,(some (oS "NotPlain" 271)),(some (oS "NotPlain" 279)),(some (.builtin "ValueError.__new__")),(some (.bool Bool.true))]),
  (Obj.mk (.type "super") none (Data.fields #[(oR 85),(oR 85),(oR 85)]) #[]),
  (Obj.mk (.type "builtin_function_or_method") none (Data.fields #[(.builtin "object.__init_subclass__"),(oR 85)]) #[]),
  oT #[(oR 24)],
  (Obj.mk (.type "builtin_function_or_method") none (Data.fields #[(.builtin "type.__prepare__"),(.type "type")]) #[]),
  (Obj.mk (.type "dict") none (Data.dict #[(oE P "__module__" 294 (oS "forkplan.errors" 187)),(oE P "__qualname__" 296 (oS "NoWeights" 295)),(oE P "__firstlineno__" 298 (.int 14 297)),(oE P "__static_attributes__" 299 (oR 95))] 4) #[]),
  oT #[],
  oN,
  oC #[(oS "NoWeights" 289),(oS "NoWeights" 290),(oS "/claim/cut.py" 291),(oI 14),(oI 0),(oI 0),(oI 0),(oI 0),(oR 91),(.bool Bool.false),(oI 181),(oR 92),.none,.none,.none,.none,(oI 292),(oI 14),(oS "/claim/cut.py" 293)],
  (Obj.mk (.type "frame") none Data.plain #[(some (oR 93)),(some (oR 3)),(some (oR 90)),none,(some (oS "forkplan.errors" 187)),none,(some (oR 0))]),
  oT #[],
  (Obj.mk (.type "dict") none (Data.dict #[(oE P "__module__" 294 (oS "forkplan.errors" 187)),(oE P "__firstlineno__" 298 (.int 14 297)),(oE P "__static_attributes__" 299 (oR 95)),(oE P "__doc__" 300 .none)] 2) #[]),
  (Obj.mk (.type "type") none (Data.cls (ClassData.mk (Str.ofString "NoWeights") [(oR 24)] [(oR 97),(oR 24),(.type "ValueError"),(.type "Exception"),(.type "BaseException"),(.type "object")] 96 (Str.ofString "NoWeights") Bool.true [] [] Bool.false none Bool.false)) #[(some (oR 88)),none,(some (oS "NoWeights" 287)),(some (oS "NoWeights" 295)),(some (.builtin "ValueError.__new__")),(some (.bool Bool.true))]),
  (Obj.mk (.type "super") none (Data.fields #[(oR 97),(oR 97),(oR 97)]) #[]),
  (Obj.mk (.type "builtin_function_or_method") none (Data.fields #[(.builtin "object.__init_subclass__"),(oR 97)]) #[]),
  oT #[(oR 24)],
  (Obj.mk (.type "builtin_function_or_method") none (Data.fields #[(.builtin "type.__prepare__"),(.type "type")]) #[]),
  (Obj.mk (.type "dict") none (Data.dict #[(oE P "__module__" 310 (oS "forkplan.errors" 187)),(oE P "__qualname__" 312 (oS "TooMany" 311)),(oE P "__firstlineno__" 314 (.int 16 313)),(oE P "__static_attributes__" 315 (oR 107))] 4) #[]),
  oT #[],
  oN,
  oC #[(oS "TooMany" 305),(oS "TooMany" 306),(oS "/claim/cut.py" 307),(oI 16),(oI 0),(oI 0),(oI 0),(oI 0),(oR 103),(.bool Bool.false),(oI 181),(oR 104),.none,.none,.none,.none,(oI 308),(oI 16),(oS "/claim/cut.py" 309)],
  (Obj.mk (.type "frame") none Data.plain #[(some (oR 105)),(some (oR 3)),(some (oR 102)),none,(some (oS "forkplan.errors" 187)),none,(some (oR 0))]),
  oT #[],
  (Obj.mk (.type "dict") none (Data.dict #[(oE P "__module__" 310 (oS "forkplan.errors" 187)),(oE P "__firstlineno__" 314 (.int 16 313)),(oE P "__static_attributes__" 315 (oR 107)),(oE P "__doc__" 316 .none)] 2) #[]),
  (Obj.mk (.type "type") none (Data.cls (ClassData.mk (Str.ofString "TooMany") [(oR 24)] [(oR 109),(oR 24),(.type "ValueError"),(.type "Exception"),(.type "BaseException"),(.type "object")] 108 (Str.ofString "TooMany") Bool.true [] [] Bool.false none Bool.false)) #[(some (oR 100)),none,(some (oS "TooMany" 303)),(some (oS "TooMany" 311)),(some (.builtin "ValueError.__new__")),(some (.bool Bool.true))]),
  (Obj.mk (.type "super") none (Data.fields #[(oR 109),(oR 109),(oR 109)]) #[]),
  (Obj.mk (.type "builtin_function_or_method") none (Data.fields #[(.builtin "object.__init_subclass__"),(oR 109)]) #[]),
  oT #[(oR 24)],
  (Obj.mk (.type "builtin_function_or_method") none (Data.fields #[(.builtin "type.__prepare__"),(.type "type")]) #[]),
  (Obj.mk (.type "dict") none (Data.dict #[(oE P "__module__" 326 (oS "forkplan.errors" 187)),(oE P "__qualname__" 328 (oS "NoText" 327)),(oE P "__firstlineno__" 330 (.int 18 329)),(oE P "__static_attributes__" 331 (oR 119))] 4) #[]),
  oT #[],
  oN,
  oC #[(oS "NoText" 321),(oS "NoText" 322),(oS "/claim/cut.py" 323),(oI 18),(oI 0),(oI 0),(oI 0),(oI 0),(oR 115),(.bool Bool.false),(oI 181),(oR 116),.none,.none,.none,.none,(oI 324),(oI 18),(oS "/claim/cut.py" 325)],
  (Obj.mk (.type "frame") none Data.plain #[(some (oR 117)),(some (oR 3)),(some (oR 114)),none,(some (oS "forkplan.errors" 187)),none,(some (oR 0))]),
  oT #[],
  (Obj.mk (.type "dict") none (Data.dict #[(oE P "__module__" 326 (oS "forkplan.errors" 187)),(oE P "__firstlineno__" 330 (.int 18 329)),(oE P "__static_attributes__" 331 (oR 119)),(oE P "__doc__" 332 .none)] 2) #[]),
  (Obj.mk (.type "type") none (Data.cls (ClassData.mk (Str.ofString "NoText") [(oR 24)] [(oR 121),(oR 24),(.type "ValueError"),(.type "Exception"),(.type "BaseException"),(.type "object")] 120 (Str.ofString "NoText") Bool.true [] [] Bool.false none Bool.false)) #[(some (oR 112)),none,(some (oS "NoText" 319)),(some (oS "NoText" 327)),(some (.builtin "ValueError.__new__")),(some (.bool Bool.true))]),
  (Obj.mk (.type "super") none (Data.fields #[(oR 121),(oR 121),(oR 121)]) #[]),
  (Obj.mk (.type "builtin_function_or_method") none (Data.fields #[(.builtin "object.__init_subclass__"),(oR 121)]) #[]),
  oT #[(oR 24)],
  (Obj.mk (.type "builtin_function_or_method") none (Data.fields #[(.builtin "type.__prepare__"),(.type "type")]) #[]),
  (Obj.mk (.type "dict") none (Data.dict #[(oE P "__module__" 342 (oS "forkplan.errors" 187)),(oE P "__qualname__" 344 (oS "NoOrder" 343)),(oE P "__firstlineno__" 346 (.int 20 345)),(oE P "__static_attributes__" 347 (oR 131))] 4) #[]),
  oT #[],
  oN,
  oC #[(oS "NoOrder" 337),(oS "NoOrder" 338),(oS "/claim/cut.py" 339),(oI 20),(oI 0),(oI 0),(oI 0),(oI 0),(oR 127),(.bool Bool.false),(oI 181),(oR 128),.none,.none,.none,.none,(oI 340),(oI 20),(oS "/claim/cut.py" 341)],
  (Obj.mk (.type "frame") none Data.plain #[(some (oR 129)),(some (oR 3)),(some (oR 126)),none,(some (oS "forkplan.errors" 187)),none,(some (oR 0))]),
  oT #[],
  (Obj.mk (.type "dict") none (Data.dict #[(oE P "__module__" 342 (oS "forkplan.errors" 187)),(oE P "__firstlineno__" 346 (.int 20 345)),(oE P "__static_attributes__" 347 (oR 131)),(oE P "__doc__" 348 .none)] 2) #[]),
  (Obj.mk (.type "type") none (Data.cls (ClassData.mk (Str.ofString "NoOrder") [(oR 24)] [(oR 133),(oR 24),(.type "ValueError"),(.type "Exception"),(.type "BaseException"),(.type "object")] 132 (Str.ofString "NoOrder") Bool.true [] [] Bool.false none Bool.false)) #[(some (oR 124)),none,(some (oS "NoOrder" 335)),(some (oS "NoOrder" 343)),(some (.builtin "ValueError.__new__")),(some (.bool Bool.true))]),
  (Obj.mk (.type "super") none (Data.fields #[(oR 133),(oR 133),(oR 133)]) #[]),
  (Obj.mk (.type "builtin_function_or_method") none (Data.fields #[(.builtin "object.__init_subclass__"),(oR 133)]) #[]),
  oT #[],
  oN,
  oT #[(oS "condition" 356),(oS "boxes" 357),(oS "standing" 358)],
  oT #[],
  oG "holds" 12,
  oC #[(oS "holds" 353),(oS "holds" 354),(oS "/claim/cut.py" 355),(oI 23),(oI 3),(oI 0),(oI 0),(oI 3),(oR 136),(.bool Bool.true),(oI 181),(oR 137),.none,(oR 138),(oR 139),(oR 140),(oI 359),(oI 23),(oS "/claim/cut.py" 360)],
  oF "holds" 12 "forkplan.exprs" 351 141,
  oT #[],
  oN,
  oT #[(oS "thing" 365),(oS "names" 366),(oS "part" 367)],
  oT #[],
  oG "names_in" 13,
  oC #[(oS "names_in" 362),(oS "names_in" 363),(oS "/claim/cut.py" 364),(oI 25),(oI 1),(oI 0),(oI 0),(oI 3),(oR 143),(.bool Bool.true),(oI 181),(oR 144),.none,(oR 145),(oR 146),(oR 147),(oI 368),(oI 25),(oS "/claim/cut.py" 369)],
  oF "names_in" 13 "forkplan.exprs" 351 148,
  oT #[],
  oN,
  oG "values_by_name" 14,
  oC #[(oS "values_by_name" 371),(oS "values_by_name" 372),(oS "/claim/cut.py" 373),(oI 33),(oI 2),(oI 0),(oI 0),(oI 3),(oR 150),(.bool Bool.true),(oI 181),(oR 151),.none,.none,.none,(oR 152),(oI 374),(oI 33),(oS "/claim/cut.py" 375)],
  oF "values_by_name" 14 "forkplan.exprs" 351 153,
  oT #[],
  oN,
  oT #[(oS "expression" 380),(oS "values" 381),(oS "kind" 382),(oS "one" 383),(oS "other" 384)],
  oT #[],
  oG "worth_by" 15,
  oC #[(oS "worth_by" 377),(oS "worth_by" 378),(oS "/claim/cut.py" 379),(oI 35),(oI 2),(oI 0),(oI 0),(oI 3),(oR 155),(.bool Bool.true),(oI 181),(oR 156),.none,(oR 157),(oR 158),(oR 159),(oI 385),(oI 35),(oS "/claim/cut.py" 386)],
  oF "worth_by" 15 "forkplan.exprs" 351 160,
  oT #[],
  oN,
  oT #[(oS "condition" 391),(oS "values" 392),(oS "kind" 393),(oS "one" 394),(oS "other" 395)],
  oT #[],
  oG "holds_by" 16,
  oC #[(oS "holds_by" 388),(oS "holds_by" 389),(oS "/claim/cut.py" 390),(oI 44),(oI 2),(oI 0),(oI 0),(oI 3),(oR 162),(.bool Bool.true),(oI 181),(oR 163),.none,(oR 164),(oR 165),(oR 166),(oI 396),(oI 44),(oS "/claim/cut.py" 397)],
  oF "holds_by" 16 "forkplan.exprs" 351 167,
  oT #[(oS "not" 407),(oS "and" 408),(oS "yes" 409)],
  oT #[],
  oN,
  oG "world_of" 22,
  oC #[(oS "world_of" 411),(oS "world_of" 412),(oS "/claim/cut.py" 413),(oI 60),(oI 5),(oI 0),(oI 0),(oI 3),(oR 170),(.bool Bool.true),(oI 181),(oR 171),.none,.none,.none,(oR 172),(oI 414),(oI 60),(oS "/claim/cut.py" 415)],
  oF "world_of" 22 "forkplan.worlds" 399 173,
  oT #[],
  oN,
  oG "standings_of_boxes" 23,
  oC #[(oS "standings_of_boxes" 417),(oS "standings_of_boxes" 418),(oS "/claim/cut.py" 419),(oI 75),(oI 1),(oI 0),(oI 0),(oI 3),(oR 175),(.bool Bool.true),(oI 181),(oR 176),.none,.none,.none,(oR 177),(oI 420),(oI 75),(oS "/claim/cut.py" 421)],
  oF "standings_of_boxes" 23 "forkplan.worlds" 399 178,
  oT #[],
  oN,
  oG "copied_deed" 24,
  oC #[(oS "copied_deed" 423),(oS "copied_deed" 424),(oS "/claim/cut.py" 425),(oI 83),(oI 1),(oI 0),(oI 0),(oI 3),(oR 180),(.bool Bool.true),(oI 181),(oR 181),.none,.none,.none,(oR 182),(oI 426),(oI 83),(oS "/claim/cut.py" 427)],
  oF "copied_deed" 24 "forkplan.worlds" 399 183,
  oT #[],
  oN,
  oT #[(oS "thing" 432)],
  oT #[],
  oG "is_whole" 25,
  oC #[(oS "is_whole" 429),(oS "is_whole" 430),(oS "/claim/cut.py" 431),(oI 85),(oI 1),(oI 0),(oI 0),(oI 3),(oR 185),(.bool Bool.true),(oI 181),(oR 186),.none,(oR 187),(oR 188),(oR 189),(oI 433),(oI 85),(oS "/claim/cut.py" 434)],
  oF "is_whole" 25 "forkplan.worlds" 399 190,
  oT #[],
  oN,
  oG "refuse_boxes" 26,
  oC #[(oS "refuse_boxes" 436),(oS "refuse_boxes" 437),(oS "/claim/cut.py" 438),(oI 87),(oI 1),(oI 0),(oI 0),(oI 3),(oR 192),(.bool Bool.true),(oI 181),(oR 193),.none,.none,.none,(oR 194),(oI 439),(oI 87),(oS "/claim/cut.py" 440)],
  oF "refuse_boxes" 26 "forkplan.worlds" 399 195,
  oT #[],
  oN,
  oT #[(oS "names" 445),(oS "kind" 446)],
  oT #[],
  oG "refuse_twice" 27,
  oC #[(oS "refuse_twice" 442),(oS "refuse_twice" 443),(oS "/claim/cut.py" 444),(oI 96),(oI 2),(oI 0),(oI 0),(oI 3),(oR 197),(.bool Bool.true),(oI 181),(oR 198),.none,(oR 199),(oR 200),(oR 201),(oI 447),(oI 96),(oS "/claim/cut.py" 448)],
  oF "refuse_twice" 27 "forkplan.worlds" 399 202,
  oT #[],
  oN,
  oT #[(oS "name" 453),(oS "price" 454)],
  oT #[],
  oG "refuse_price" 28,
  oC #[(oS "refuse_price" 450),(oS "refuse_price" 451),(oS "/claim/cut.py" 452),(oI 99),(oI 2),(oI 0),(oI 0),(oI 3),(oR 204),(.bool Bool.true),(oI 181),(oR 205),.none,(oR 206),(oR 207),(oR 208),(oI 455),(oI 99),(oS "/claim/cut.py" 456)],
  oF "refuse_price" 28 "forkplan.worlds" 399 209,
  oT #[],
  oN,
  oG "refuse_ways" 29,
  oC #[(oS "refuse_ways" 458),(oS "refuse_ways" 459),(oS "/claim/cut.py" 460),(oI 102),(oI 3),(oI 0),(oI 0),(oI 3),(oR 211),(.bool Bool.true),(oI 181),(oR 212),.none,.none,.none,(oR 213),(oI 461),(oI 102),(oS "/claim/cut.py" 462)],
  oF "refuse_ways" 29 "forkplan.worlds" 399 214,
  oT #[],
  oN,
  oT #[(oS "name" 467),(oS "names" 468)],
  oT #[],
  oG "refuse_strange_name" 30,
  oC #[(oS "refuse_strange_name" 464),(oS "refuse_strange_name" 465),(oS "/claim/cut.py" 466),(oI 110),(oI 2),(oI 0),(oI 0),(oI 3),(oR 216),(.bool Bool.true),(oI 181),(oR 217),.none,(oR 218),(oR 219),(oR 220),(oI 469),(oI 110),(oS "/claim/cut.py" 470)],
  oF "refuse_strange_name" 30 "forkplan.worlds" 399 221,
  oT #[],
  oN,
  oT #[(oS "thing" 475),(oS "names" 476),(oS "name" 477)],
  oT #[],
  oG "refuse_strange_names" 31,
  oC #[(oS "refuse_strange_names" 472),(oS "refuse_strange_names" 473),(oS "/claim/cut.py" 474),(oI 113),(oI 2),(oI 0),(oI 0),(oI 3),(oR 223),(.bool Bool.true),(oI 181),(oR 224),.none,(oR 225),(oR 226),(oR 227),(oI 478),(oI 113),(oS "/claim/cut.py" 479)],
  oF "refuse_strange_names" 31 "forkplan.worlds" 399 228,
  oT #[],
  oN,
  oT #[(oS "begin" 484),(oS "boxes" 485),(oS "standing" 486)],
  oT #[],
  oG "refuse_begin" 32,
  oC #[(oS "refuse_begin" 481),(oS "refuse_begin" 482),(oS "/claim/cut.py" 483),(oI 116),(oI 2),(oI 0),(oI 0),(oI 3),(oR 230),(.bool Bool.true),(oI 181),(oR 231),.none,(oR 232),(oR 233),(oR 234),(oI 487),(oI 116),(oS "/claim/cut.py" 488)],
  oF "refuse_begin" 32 "forkplan.worlds" 399 235,
  oT #[],
  oN,
  oT #[(oS "script" 495),(oS "k" 496)],
  oT #[],
  oG "_law_cell_at" 34,
  oC #[(oS "_law_cell_at" 492),(oS "_law_cell_at" 493),(oS "/claim/cut.py" 494),(oI 122),(oI 2),(oI 0),(oI 0),(oI 3),(oR 237),(.bool Bool.true),(oI 181),(oR 238),.none,(oR 239),(oR 240),(oR 241),(oI 497),(oI 122),(oS "/claim/cut.py" 498)],
  oF "_law_cell_at" 34 "law_forkplan_k05_no_world" 490 242,
  oT #[],
  oN,
  oT #[(oS "cell" 503),(oS "k" 504),(oS "number" 505)],
  oT #[],
  oG "_law_stir" 35,
  oC #[(oS "_law_stir" 500),(oS "_law_stir" 501),(oS "/claim/cut.py" 502),(oI 126),(oI 2),(oI 0),(oI 0),(oI 3),(oR 244),(.bool Bool.true),(oI 181),(oR 245),.none,(oR 246),(oR 247),(oR 248),(oI 506),(oI 126),(oS "/claim/cut.py" 507)],
  oF "_law_stir" 35 "law_forkplan_k05_no_world" 490 249,
  oT #[],
  oN,
  oT #[(oS "cell" 512),(oS "sizes" 513),(oS "found" 514),(oS "rest" 515),(oS "k" 516)],
  oT #[],
  oG "_law_drawn" 36,
  oC #[(oS "_law_drawn" 509),(oS "_law_drawn" 510),(oS "/claim/cut.py" 511),(oI 130),(oI 2),(oI 0),(oI 0),(oI 3),(oR 251),(.bool Bool.true),(oI 181),(oR 252),.none,(oR 253),(oR 254),(oR 255),(oI 517),(oI 130),(oS "/claim/cut.py" 518)],
  oF "_law_drawn" 36 "law_forkplan_k05_no_world" 490 256,
  oT #[],
  oN,
  oT #[(oS "cell" 523)],
  oT #[],
  oG "_law_deck" 37,
  oC #[(oS "_law_deck" 520),(oS "_law_deck" 521),(oS "/claim/cut.py" 522),(oI 140),(oI 1),(oI 0),(oI 0),(oI 3),(oR 258),(.bool Bool.true),(oI 181),(oR 259),.none,(oR 260),(oR 261),(oR 262),(oI 524),(oI 140),(oS "/claim/cut.py" 525)],
  oF "_law_deck" 37 "law_forkplan_k05_no_world" 490 263,
  oT #[],
  oN,
  oT #[(oS "deck" 530),(oS "many" 531),(oS "taken" 532)],
  oT #[],
  oG "_law_take" 38,
  oC #[(oS "_law_take" 527),(oS "_law_take" 528),(oS "/claim/cut.py" 529),(oI 144),(oI 2),(oI 0),(oI 0),(oI 3),(oR 265),(.bool Bool.true),(oI 181),(oR 266),.none,(oR 267),(oR 268),(oR 269),(oI 533),(oI 144),(oS "/claim/cut.py" 534)],
  oF "_law_take" 38 "law_forkplan_k05_no_world" 490 270,
  oT #[],
  oN,
  oT #[(oS "number" 539),(oS "many" 540),(oS "letters" 541),(oS "pad" 542),(oS "size" 543),(oS "at" 544),(oS "first" 545),(oS "found" 546),(oS "k" 547),(oS "sign" 548)],
  oT #[],
  oG "_law_unlike" 39,
  oC #[(oS "_law_unlike" 536),(oS "_law_unlike" 537),(oS "/claim/cut.py" 538),(oI 148),(oI 2),(oI 0),(oI 0),(oI 3),(oR 272),(.bool Bool.true),(oI 181),(oR 273),.none,(oR 274),(oR 275),(oR 276),(oI 549),(oI 148),(oS "/claim/cut.py" 550)],
  oF "_law_unlike" 39 "law_forkplan_k05_no_world" 490 277,
  oT #[],
  oN,
  oT #[(oS "cell" 555),(oS "drawn" 556),(oS "words" 557),(oS "boxes" 558),(oS "room" 559),(oS "k" 560),(oS "size" 561)],
  oT #[],
  oG "_law_boxes" 40,
  oC #[(oS "_law_boxes" 552),(oS "_law_boxes" 553),(oS "/claim/cut.py" 554),(oI 159),(oI 1),(oI 0),(oI 0),(oI 3),(oR 279),(.bool Bool.true),(oI 181),(oR 280),.none,(oR 281),(oR 282),(oR 283),(oI 562),(oI 159),(oS "/claim/cut.py" 563)],
  oF "_law_boxes" 40 "law_forkplan_k05_no_world" 490 284,
  oT #[],
  oN,
  oT #[(oS "deck" 568),(oS "words" 569),(oS "deep" 570),(oS "kind" 571),(oS "one" 572)],
  oT #[],
  oG "_law_expr" 41,
  oC #[(oS "_law_expr" 565),(oS "_law_expr" 566),(oS "/claim/cut.py" 567),(oI 172),(oI 3),(oI 0),(oI 0),(oI 3),(oR 286),(.bool Bool.true),(oI 181),(oR 287),.none,(oR 288),(oR 289),(oR 290),(oI 573),(oI 172),(oS "/claim/cut.py" 574)],
  oF "_law_expr" 41 "law_forkplan_k05_no_world" 490 291,
  oT #[],
  oN,
  oT #[(oS "deck" 579),(oS "words" 580),(oS "deep" 581),(oS "kind" 582),(oS "one" 583)],
  oT #[],
  oG "_law_cond" 42,
  oC #[(oS "_law_cond" 576),(oS "_law_cond" 577),(oS "/claim/cut.py" 578),(oI 180),(oI 3),(oI 0),(oI 0),(oI 3),(oR 293),(.bool Bool.true),(oI 181),(oR 294),.none,(oR 295),(oR 296),(oR 297),(oI 584),(oI 180),(oS "/claim/cut.py" 585)],
  oF "_law_cond" 42 "law_forkplan_k05_no_world" 490 298,
  oT #[],
  oN,
  oT #[(oS "part" 590),(oS "values" 591),(oS "total" 592),(oS "pile" 593),(oS "one" 594),(oS "sign" 595)],
  oT #[],
  oG "_law_worth" 43,
  oC #[(oS "_law_worth" 587),(oS "_law_worth" 588),(oS "/claim/cut.py" 589),(oI 191),(oI 2),(oI 0),(oI 0),(oI 3),(oR 300),(.bool Bool.true),(oI 181),(oR 301),.none,(oR 302),(oR 303),(oR 304),(oI 596),(oI 191),(oS "/claim/cut.py" 597)],
  oF "_law_worth" 43 "law_forkplan_k05_no_world" 490 305,
  oT #[],
  oN,
  oT #[(oS "cond" 602),(oS "values" 603),(oS "apart" 604)],
  oT #[],
  oG "_law_holds" 44,
  oC #[(oS "_law_holds" 599),(oS "_law_holds" 600),(oS "/claim/cut.py" 601),(oI 204),(oI 2),(oI 0),(oI 0),(oI 3),(oR 307),(.bool Bool.true),(oI 181),(oR 308),.none,(oR 309),(oR 310),(oR 311),(oI 605),(oI 204),(oS "/claim/cut.py" 606)],
  oF "_law_holds" 44 "law_forkplan_k05_no_world" 490 312,
  oT #[],
  oN,
  oG "_law_values" 45,
  oC #[(oS "_law_values" 608),(oS "_law_values" 609),(oS "/claim/cut.py" 610),(oI 213),(oI 2),(oI 0),(oI 0),(oI 3),(oR 314),(.bool Bool.true),(oI 181),(oR 315),.none,.none,.none,(oR 316),(oI 611),(oI 213),(oS "/claim/cut.py" 612)],
  oF "_law_values" 45 "law_forkplan_k05_no_world" 490 317,
  oT #[],
  oN,
  oG "_law_standings" 46,
  oC #[(oS "_law_standings" 614),(oS "_law_standings" 615),(oS "/claim/cut.py" 616),(oI 215),(oI 1),(oI 0),(oI 0),(oI 3),(oR 319),(.bool Bool.true),(oI 181),(oR 320),.none,.none,.none,(oR 321),(oI 617),(oI 215),(oS "/claim/cut.py" 618)],
  oF "_law_standings" 46 "law_forkplan_k05_no_world" 490 322,
  oT #[],
  oN,
  oT #[(oS "deck" 623),(oS "name" 624),(oS "words" 625),(oS "price" 626),(oS "need" 627),(oS "ways" 628),(oS "k" 629),(oS "way" 630),(oS "word" 631)],
  oT #[],
  oG "_law_deed" 47,
  oC #[(oS "_law_deed" 620),(oS "_law_deed" 621),(oS "/claim/cut.py" 622),(oI 223),(oI 3),(oI 0),(oI 0),(oI 3),(oR 324),(.bool Bool.true),(oI 181),(oR 325),.none,(oR 326),(oR 327),(oR 328),(oI 632),(oI 223),(oS "/claim/cut.py" 633)],
  oF "_law_deed" 47 "law_forkplan_k05_no_world" 490 329,
  oT #[],
  oN,
  oG "_law_world" 48,
  oC #[(oS "_law_world" 635),(oS "_law_world" 636),(oS "/claim/cut.py" 637),(oI 236),(oI 1),(oI 0),(oI 0),(oI 3),(oR 331),(.bool Bool.true),(oI 181),(oR 332),.none,.none,.none,(oR 333),(oI 638),(oI 236),(oS "/claim/cut.py" 639)],
  oF "_law_world" 48 "law_forkplan_k05_no_world" 490 334,
  oT #[],
  oN,
  oT #[(oS "world" 644),(oS "good" 645),(oS "e" 646)],
  oT #[],
  oG "_law_refused" 49,
  oC #[(oS "_law_refused" 641),(oS "_law_refused" 642),(oS "/claim/cut.py" 643),(oI 257),(oI 1),(oI 0),(oI 0),(oI 3),(oR 336),(.bool Bool.true),(oI 181),(oR 337),.none,(oR 338),(oR 339),(oR 340),(oI 647),(oI 257),(oS "/claim/cut.py" 648)],
  oF "_law_refused" 49 "law_forkplan_k05_no_world" 490 341,
  oT #[],
  oN,
  oG "_law_strange" 50,
  oC #[(oS "_law_strange" 650),(oS "_law_strange" 651),(oS "/claim/cut.py" 652),(oI 266),(oI 2),(oI 0),(oI 0),(oI 3),(oR 343),(.bool Bool.true),(oI 181),(oR 344),.none,.none,.none,(oR 345),(oI 653),(oI 266),(oS "/claim/cut.py" 654)],
  oF "_law_strange" 50 "law_forkplan_k05_no_world" 490 346,
  oT #[],
  oN,
  oT #[(oS "thing" 659),(oS "path" 660),(oS "found" 661),(oS "k" 662)],
  oT #[],
  oG "_law_leaves" 51,
  oC #[(oS "_law_leaves" 656),(oS "_law_leaves" 657),(oS "/claim/cut.py" 658),(oI 272),(oI 2),(oI 0),(oI 0),(oI 3),(oR 348),(.bool Bool.true),(oI 181),(oR 349),.none,(oR 350),(oR 351),(oR 352),(oI 663),(oI 272),(oS "/claim/cut.py" 664)],
  oF "_law_leaves" 51 "law_forkplan_k05_no_world" 490 353,
  oT #[],
  oN,
  oT #[(oS "thing" 669),(oS "path" 670),(oS "part" 671)],
  oT #[],
  oG "_law_put" 52,
  oC #[(oS "_law_put" 666),(oS "_law_put" 667),(oS "/claim/cut.py" 668),(oI 279),(oI 3),(oI 0),(oI 0),(oI 3),(oR 355),(.bool Bool.true),(oI 181),(oR 356),.none,(oR 357),(oR 358),(oR 359),(oI 672),(oI 279),(oS "/claim/cut.py" 673)],
  oF "_law_put" 52 "law_forkplan_k05_no_world" 490 360,
  oT #[],
  oN,
  oT #[(oS "thing" 678),(oS "strange" 679),(oS "number" 680),(oS "paths" 681)],
  oT #[],
  oG "_law_misnamed" 53,
  oC #[(oS "_law_misnamed" 675),(oS "_law_misnamed" 676),(oS "/claim/cut.py" 677),(oI 283),(oI 3),(oI 0),(oI 0),(oI 3),(oR 362),(.bool Bool.true),(oI 181),(oR 363),.none,(oR 364),(oR 365),(oR 366),(oI 682),(oI 283),(oS "/claim/cut.py" 683)],
  oF "_law_misnamed" 53 "law_forkplan_k05_no_world" 490 367,
  oT #[],
  oN,
  oT #[(oS "things" 688),(oS "thing" 689),(oS "number" 690),(oS "at" 691)],
  oT #[],
  oG "_law_put_in" 54,
  oC #[(oS "_law_put_in" 685),(oS "_law_put_in" 686),(oS "/claim/cut.py" 687),(oI 288),(oI 3),(oI 0),(oI 0),(oI 3),(oR 369),(.bool Bool.true),(oI 181),(oR 370),.none,(oR 371),(oR 372),(oR 373),(oI 692),(oI 288),(oS "/claim/cut.py" 693)],
  oF "_law_put_in" 54 "law_forkplan_k05_no_world" 490 374,
  oT #[],
  oN,
  oT #[(oS "way" 698),(oS "words" 699),(oS "strange" 700),(oS "number" 701),(oS "at" 702),(oS "word" 703),(oS "box" 704),(oS "part" 705)],
  oT #[],
  oG "_law_bad_way" 55,
  oC #[(oS "_law_bad_way" 695),(oS "_law_bad_way" 696),(oS "/claim/cut.py" 697),(oI 291),(oI 4),(oI 0),(oI 0),(oI 3),(oR 376),(.bool Bool.true),(oI 181),(oR 377),.none,(oR 378),(oR 379),(oR 380),(oI 706),(oI 291),(oS "/claim/cut.py" 707)],
  oF "_law_bad_way" 55 "law_forkplan_k05_no_world" 490 381,
  oT #[],
  oN,
  oT #[(oS "deeds" 712),(oS "words" 713),(oS "strange" 714),(oS "number" 715),(oS "at" 716),(oS "name" 717),(oS "price" 718),(oS "need" 719),(oS "ways" 720),(oS "kind" 721),(oS "other" 722),(oS "some" 723),(oS "bad" 724),(oS "here" 725),(oS "way" 726)],
  oT #[],
  oG "_law_bad_deed" 56,
  oC #[(oS "_law_bad_deed" 709),(oS "_law_bad_deed" 710),(oS "/claim/cut.py" 711),(oI 305),(oI 4),(oI 0),(oI 0),(oI 3),(oR 383),(.bool Bool.true),(oI 181),(oR 384),.none,(oR 385),(oR 386),(oR 387),(oI 727),(oI 305),(oS "/claim/cut.py" 728)],
  oF "_law_bad_deed" 56 "law_forkplan_k05_no_world" 490 388,
  oT #[],
  oN,
  oT #[(oS "deeds" 733),(oS "looks" 734),(oS "strange" 735),(oS "number" 736),(oS "part" 737),(oS "kind" 738),(oS "at" 739),(oS "name" 740),(oS "price" 741)],
  oT #[],
  oG "_law_bad_look" 57,
  oC #[(oS "_law_bad_look" 730),(oS "_law_bad_look" 731),(oS "/claim/cut.py" 732),(oI 324),(oI 4),(oI 0),(oI 0),(oI 3),(oR 390),(.bool Bool.true),(oI 181),(oR 391),.none,(oR 392),(oR 393),(oR 394),(oI 742),(oI 324),(oS "/claim/cut.py" 743)],
  oF "_law_bad_look" 57 "law_forkplan_k05_no_world" 490 395,
  oT #[],
  oN,
  oG "_law_bad_boxes" 58,
  oC #[(oS "_law_bad_boxes" 745),(oS "_law_bad_boxes" 746),(oS "/claim/cut.py" 747),(oI 336),(oI 2),(oI 0),(oI 0),(oI 3),(oR 397),(.bool Bool.true),(oI 181),(oR 398),.none,.none,.none,(oR 399),(oI 748),(oI 336),(oS "/claim/cut.py" 749)],
  oF "_law_bad_boxes" 58 "law_forkplan_k05_no_world" 490 400,
  oT #[],
  oN,
  oT #[(oS "words" 754),(oS "begin" 755),(oS "number" 756),(oS "word" 757),(oS "some" 758)],
  oT #[],
  oG "_law_nowhere" 59,
  oC #[(oS "_law_nowhere" 751),(oS "_law_nowhere" 752),(oS "/claim/cut.py" 753),(oI 347),(oI 3),(oI 0),(oI 0),(oI 3),(oR 402),(.bool Bool.true),(oI 181),(oR 403),.none,(oR 404),(oR 405),(oR 406),(oI 759),(oI 347),(oS "/claim/cut.py" 760)],
  oF "_law_nowhere" 59 "law_forkplan_k05_no_world" 490 407,
  oT #[],
  oN,
  oG "_law_wrong" 60,
  oC #[(oS "_law_wrong" 762),(oS "_law_wrong" 763),(oS "/claim/cut.py" 764),(oI 352),(oI 2),(oI 0),(oI 0),(oI 3),(oR 409),(.bool Bool.true),(oI 181),(oR 410),.none,.none,.none,(oR 411),(oI 765),(oI 352),(oS "/claim/cut.py" 766)],
  oF "_law_wrong" 60 "law_forkplan_k05_no_world" 490 412,
  oT #[],
  oN,
  oG "_law_copied" 61,
  oC #[(oS "_law_copied" 768),(oS "_law_copied" 769),(oS "/claim/cut.py" 770),(oI 369),(oI 1),(oI 0),(oI 0),(oI 3),(oR 414),(.bool Bool.true),(oI 181),(oR 415),.none,.none,.none,(oR 416),(oI 771),(oI 369),(oS "/claim/cut.py" 772)],
  oF "_law_copied" 61 "law_forkplan_k05_no_world" 490 417,
  oT #[],
  oN,
  oT #[(oS "script" 777),(oS "world" 778),(oS "cell" 779),(oS "wrong" 780),(oS "handed" 781)],
  oT #[],
  oG "law" 62,
  oC #[(oS "law" 774),(oS "law" 775),(oS "/claim/cut.py" 776),(oI 373),(oI 1),(oI 0),(oI 0),(oI 3),(oR 419),(.bool Bool.true),(oI 181),(oR 420),.none,(oR 421),(oR 422),(oR 423),(oI 782),(oI 373),(oS "/claim/cut.py" 783)],
  oF "law" 62 "law_forkplan_k05_no_world" 490 424]
noncomputable def qEe (P:Params):List Obj:=[boot_o_0 P,boot_o_1 P,boot_o_2 P,boot_o_3 P,boot_o_4 P,boot_o_5 P,boot_o_6 P,boot_o_7 P,boot_o_8 P,boot_o_9 P,boot_o_10 P,oT #[],oN,oC #[(oS "<module>" 182),(oS "<module>" 183),(oS "/claim/cut.py" 184),(oI 1),(oI 0),(oI 0),(oI 0),(oI 0),(oR 11),(.bool Bool.false),(oI 181),(oR 12),.none,.none,.none,.none,(oI 185),(oI 1),(oS "/claim/cut.py" 186)],(Obj.mk (.type "frame") none Data.plain #[(some (oR 13)),(some (oR 3)),(some (oR 3)),none,(some (oS "__main__" 164)),none,(some (oR 0))])]
noncomputable def qXk (os:List Obj):Nat→Nat→Nat→BT
 | 0,_,_=>.nil
 | f+1,a,b=>match os[b]? with
  | some o=>.node o (qXk os f (2 * a) (a+b)) (qXk os f (2 * a) (2 * a+b))
  | none=>.nil
noncomputable def qJo:Life:=(Life.mk [] [] [] 0 [] [] Bool.false #[] [] 0 Bool.false Bool.false Bool.false 0 [2000,10,10] Bool.false 0 Bool.true [] [] 0 Bool.false)
noncomputable def topEnv:Env:={ scope:=PySem.Challenge.pw_forkplan_k05_no_world.main.scope,locals:=mainNs,globals:=mainNs,cells:=[],code:=(Value.ref 13),frame:=some 14 }
noncomputable def qXv:List Stmt:=behindTheImports PySem.Challenge.pw_forkplan_k05_no_world
noncomputable def vN:Code:=.body qXv topEnv
noncomputable def topA (w:World)(os:OsState):Shared:=⟨⟨⟨qEe w.params⟩,qJo⟩,⟨[]⟩,(Drawn.mk 0 0 0 0),187,os⟩
noncomputable def topB (w:World)(os:OsState):SharedT:=⟨qXk (qEe w.params) 12 1 0,15,qJo,⟨[]⟩,(Drawn.mk 0 0 0 0),187,os⟩
noncomputable def topZ (w:World)(os:OsState):SharedT:=⟨qXk (qEf w.params) 12 1 0,426,qJo,⟨[]⟩,(Drawn.mk 0 0 0 0),785,os⟩
theorem topPre (w:World)(os:OsState):topGo treeTable PySem.Challenge.pw_forkplan_k05_no_world w 11 (some (Value.ref 6)) 12 ⟨boot_heap w.params,⟨[]⟩,boot_drawn,boot_toks,os⟩ (topStub PySem.Challenge.pw_forkplan_k05_no_world)=some (topA w os,⟨denote treeTable vN,vN,(Pos.mk 0 0 0 0),[topFrame (Pos.mk 0 0 0 0)]⟩):=by kernel_rfl
theorem qMx (w:World)(os:OsState):segRun treeTable PySem.Challenge.pw_forkplan_k05_no_world w 11 (some (Value.ref 6)) 1 1 (topA w os) (blockOf qXv topEnv vN (Pos.mk 0 0 0 0) [topFrame (Pos.mk 0 0 0 0)])=some (.next,(topB w os).abs,vN,(Pos.mk 0 0 0 0)):=by kernel_rfl
theorem topSeg (w:World)(os:OsState):segRunT treeTable PySem.Challenge.pw_forkplan_k05_no_world w 11 (some (Value.ref 6)) 1 3562 (topB w os) (piecesOf qXv topEnv vN (Pos.mk 0 0 0 0) [topFrame (Pos.mk 0 0 0 0)])=some (.next,topZ w os,vN,(Pos.mk 373 0 382 15)):=by kernel_rfl
theorem topFin (w:World)(os:OsState):topRun treeTable PySem.Challenge.pw_forkplan_k05_no_world w 11 (some (Value.ref 6)) 2 (topZ w os).abs ⟨doneF .next,vN,(Pos.mk 373 0 382 15),[topFrame (Pos.mk 0 0 0 0)]⟩=some (topZ w os).abs:=by kernel_rfl
noncomputable def qWv (P:Params):PySem.W.Frag:=
 (nat_lit 2,(Obj.mk .none none (Data.dict #[] 0) #[]))::
 (nat_lit 3,(Obj.mk (.type "dict") none (Data.dict #[(oE P "__name__" 165 (.str (Str.ofString "law_forkplan_k05_no_world") 490)),(oE P "__doc__" 166 .none),(oE P "__package__" 167 .none),(oE P "__loader__" 168 (.builtin "__main__.__loader__#opaque")),(oE P "__spec__" 169 .none),(oE P "__annotations__" 170 (.ref 6)),(oE P "__builtins__" 171 (.ref 4)),(oE P "__file__" 173 (.str (Str.ofString "/claim/cut.py") 172)),(oE P "__cached__" 174 .none),(oE P "ForkError" 206 (.ref 24)),(oE P "NoWorld" 222 (.ref 37)),(oE P "NoName" 238 (.ref 49)),(oE P "NoPlan" 254 (.ref 61)),(oE P "NotSure" 270 (.ref 73)),(oE P "NotPlain" 286 (.ref 85)),(oE P "NoWeights" 302 (.ref 97)),(oE P "TooMany" 318 (.ref 109)),(oE P "NoText" 334 (.ref 121)),(oE P "NoOrder" 350 (.ref 133)),(oE P "holds" 361 (.ref 142)),(oE P "names_in" 370 (.ref 149)),(oE P "values_by_name" 376 (.ref 154)),(oE P "worth_by" 387 (.ref 161)),(oE P "holds_by" 398 (.ref 168)),(oE P "LEAST_SIZE" 402 (.int 2 401)),(oE P "GREATEST_SIZE" 404 (.int 5 403)),(oE P "LEAST_PRICE" 406 (.int 1 405)),(oE P "WORDS_OF_CONDITIONS" 410 (.ref 169)),(oE P "world_of" 416 (.ref 174)),(oE P "standings_of_boxes" 422 (.ref 179)),(oE P "copied_deed" 428 (.ref 184)),(oE P "is_whole" 435 (.ref 191)),(oE P "refuse_boxes" 441 (.ref 196)),(oE P "refuse_twice" 449 (.ref 203)),(oE P "refuse_price" 457 (.ref 210)),(oE P "refuse_ways" 463 (.ref 215)),(oE P "refuse_strange_name" 471 (.ref 222)),(oE P "refuse_strange_names" 480 (.ref 229)),(oE P "refuse_begin" 489 (.ref 236)),(oE P "_law_cell_at" 499 (.ref 243)),(oE P "_law_stir" 508 (.ref 250)),(oE P "_law_drawn" 519 (.ref 257)),(oE P "_law_deck" 526 (.ref 264)),(oE P "_law_take" 535 (.ref 271)),(oE P "_law_unlike" 551 (.ref 278)),(oE P "_law_boxes" 564 (.ref 285)),(oE P "_law_expr" 575 (.ref 292)),(oE P "_law_cond" 586 (.ref 299)),(oE P "_law_worth" 598 (.ref 306)),(oE P "_law_holds" 607 (.ref 313)),(oE P "_law_values" 613 (.ref 318)),(oE P "_law_standings" 619 (.ref 323)),(oE P "_law_deed" 634 (.ref 330)),(oE P "_law_world" 640 (.ref 335)),(oE P "_law_refused" 649 (.ref 342)),(oE P "_law_strange" 655 (.ref 347)),(oE P "_law_leaves" 665 (.ref 354)),(oE P "_law_put" 674 (.ref 361)),(oE P "_law_misnamed" 684 (.ref 368)),(oE P "_law_put_in" 694 (.ref 375)),(oE P "_law_bad_way" 708 (.ref 382)),(oE P "_law_bad_deed" 729 (.ref 389)),(oE P "_law_bad_look" 744 (.ref 396)),(oE P "_law_bad_boxes" 750 (.ref 401)),(oE P "_law_nowhere" 761 (.ref 408)),(oE P "_law_wrong" 767 (.ref 413)),(oE P "_law_copied" 773 (.ref 418)),(oE P "law" 784 (.ref 425))] 68) #[]))::
 (nat_lit 15,(Obj.mk (.type "tuple") none (Data.seq #[(.type "ValueError")] 0) #[]))::
 (nat_lit 22,(Obj.mk (.type "tuple") none (Data.seq #[] 0) #[]))::
 (nat_lit 23,(Obj.mk (.type "dict") none (Data.dict #[(oE P "__module__" 196 (.str (Str.ofString "forkplan.errors") 187)),(oE P "__firstlineno__" 200 (.int 2 199)),(oE P "__static_attributes__" 201 (.ref 22)),(oE P "__weakref__" 203 (.ref 25)),(oE P "__doc__" 204 .none)] 3) #[]))::
 (nat_lit 24,(Obj.mk (.type "type") none (Data.cls (ClassData.mk (Str.ofString "ForkError") [(.type "ValueError")] [(.ref 24),(.type "ValueError"),(.type "Exception"),(.type "BaseException"),(.type "object")] 23 (Str.ofString "ForkError") Bool.true [] [(.ref 37),(.ref 49),(.ref 61),(.ref 73),(.ref 85),(.ref 97),(.ref 109),(.ref 121),(.ref 133)] Bool.false none Bool.false)) #[(some (.ref 15)),none,(some (.str (Str.ofString "ForkError") 189)),(some (.str (Str.ofString "ForkError") 197)),(some (.builtin "ValueError.__new__")),(some (.bool Bool.true))]))::
 (nat_lit 25,(Obj.mk (.type "getset_descriptor") none (Data.fields #[(.str (Str.ofString "__weakref__") 202),(.ref 24),(.builtin "ExceptionGroup.__weakref__"),.none]) #[]))::
 (nat_lit 28,(Obj.mk (.type "tuple") none (Data.seq #[(.ref 24)] 0) #[]))::
 (nat_lit 35,(Obj.mk (.type "tuple") none (Data.seq #[] 0) #[]))::
 (nat_lit 36,(Obj.mk (.type "dict") none (Data.dict #[(oE P "__module__" 214 (.str (Str.ofString "forkplan.errors") 187)),(oE P "__firstlineno__" 218 (.int 4 217)),(oE P "__static_attributes__" 219 (.ref 35)),(oE P "__doc__" 220 .none)] 2) #[]))::
 (nat_lit 37,(Obj.mk (.type "type") none (Data.cls (ClassData.mk (Str.ofString "NoWorld") [(.ref 24)] [(.ref 37),(.ref 24),(.type "ValueError"),(.type "Exception"),(.type "BaseException"),(.type "object")] 36 (Str.ofString "NoWorld") Bool.true [] [] Bool.false none Bool.false)) #[(some (.ref 28)),none,(some (.str (Str.ofString "NoWorld") 207)),(some (.str (Str.ofString "NoWorld") 215)),(some (.builtin "ValueError.__new__")),(some (.bool Bool.true))]))::
 (nat_lit 40,(Obj.mk (.type "tuple") none (Data.seq #[(.ref 24)] 0) #[]))::
 (nat_lit 47,(Obj.mk (.type "tuple") none (Data.seq #[] 0) #[]))::
 (nat_lit 48,(Obj.mk (.type "dict") none (Data.dict #[(oE P "__module__" 230 (.str (Str.ofString "forkplan.errors") 187)),(oE P "__firstlineno__" 234 (.int 6 233)),(oE P "__static_attributes__" 235 (.ref 47)),(oE P "__doc__" 236 .none)] 2) #[]))::
 (nat_lit 49,(Obj.mk (.type "type") none (Data.cls (ClassData.mk (Str.ofString "NoName") [(.ref 24)] [(.ref 49),(.ref 24),(.type "ValueError"),(.type "Exception"),(.type "BaseException"),(.type "object")] 48 (Str.ofString "NoName") Bool.true [] [] Bool.false none Bool.false)) #[(some (.ref 40)),none,(some (.str (Str.ofString "NoName") 223)),(some (.str (Str.ofString "NoName") 231)),(some (.builtin "ValueError.__new__")),(some (.bool Bool.true))]))::
 (nat_lit 52,(Obj.mk (.type "tuple") none (Data.seq #[(.ref 24)] 0) #[]))::
 (nat_lit 59,(Obj.mk (.type "tuple") none (Data.seq #[] 0) #[]))::
 (nat_lit 60,(Obj.mk (.type "dict") none (Data.dict #[(oE P "__module__" 246 (.str (Str.ofString "forkplan.errors") 187)),(oE P "__firstlineno__" 250 (.int 8 249)),(oE P "__static_attributes__" 251 (.ref 59)),(oE P "__doc__" 252 .none)] 2) #[]))::
 (nat_lit 61,(Obj.mk (.type "type") none (Data.cls (ClassData.mk (Str.ofString "NoPlan") [(.ref 24)] [(.ref 61),(.ref 24),(.type "ValueError"),(.type "Exception"),(.type "BaseException"),(.type "object")] 60 (Str.ofString "NoPlan") Bool.true [] [] Bool.false none Bool.false)) #[(some (.ref 52)),none,(some (.str (Str.ofString "NoPlan") 239)),(some (.str (Str.ofString "NoPlan") 247)),(some (.builtin "ValueError.__new__")),(some (.bool Bool.true))]))::
 (nat_lit 64,(Obj.mk (.type "tuple") none (Data.seq #[(.ref 24)] 0) #[]))::
 (nat_lit 71,(Obj.mk (.type "tuple") none (Data.seq #[] 0) #[]))::
 (nat_lit 72,(Obj.mk (.type "dict") none (Data.dict #[(oE P "__module__" 262 (.str (Str.ofString "forkplan.errors") 187)),(oE P "__firstlineno__" 266 (.int 10 265)),(oE P "__static_attributes__" 267 (.ref 71)),(oE P "__doc__" 268 .none)] 2) #[]))::
 (nat_lit 73,(Obj.mk (.type "type") none (Data.cls (ClassData.mk (Str.ofString "NotSure") [(.ref 24)] [(.ref 73),(.ref 24),(.type "ValueError"),(.type "Exception"),(.type "BaseException"),(.type "object")] 72 (Str.ofString "NotSure") Bool.true [] [] Bool.false none Bool.false)) #[(some (.ref 64)),none,(some (.str (Str.ofString "NotSure") 255)),(some (.str (Str.ofString "NotSure") 263)),(some (.builtin "ValueError.__new__")),(some (.bool Bool.true))]))::
 (nat_lit 76,(Obj.mk (.type "tuple") none (Data.seq #[(.ref 24)] 0) #[]))::
 (nat_lit 83,(Obj.mk (.type "tuple") none (Data.seq #[] 0) #[]))::
 (nat_lit 84,(Obj.mk (.type "dict") none (Data.dict #[(oE P "__module__" 278 (.str (Str.ofString "forkplan.errors") 187)),(oE P "__firstlineno__" 282 (.int 12 281)),(oE P "__static_attributes__" 283 (.ref 83)),(oE P "__doc__" 284 .none)] 2) #[]))::
 (nat_lit 85,(Obj.mk (.type "type") none (Data.cls (ClassData.mk (Str.ofString "NotPlain") [(.ref 24)] [(.ref 85),(.ref 24),(.type "ValueError"),(.type "Exception"),(.type "BaseException"),(.type "object")] 84 (Str.ofString "NotPlain") Bool.true [] [] Bool.false none Bool.false)) #[(some (.ref 76)),none,(some (.str (Str.ofString "NotPlain") 271)),(some (.str (Str.ofString "NotPlain") 279)),(some (.builtin "ValueError.__new__")),(some (.bool Bool.true))]))::
 (nat_lit 88,(Obj.mk (.type "tuple") none (Data.seq #[(.ref 24)] 0) #[]))::
 (nat_lit 95,(Obj.mk (.type "tuple") none (Data.seq #[] 0) #[]))::
 (nat_lit 96,(Obj.mk (.type "dict") none (Data.dict #[(oE P "__module__" 294 (.str (Str.ofString "forkplan.errors") 187)),(oE P "__firstlineno__" 298 (.int 14 297)),(oE P "__static_attributes__" 299 (.ref 95)),(oE P "__doc__" 300 .none)] 2) #[]))::
 (nat_lit 97,(Obj.mk (.type "type") none (Data.cls (ClassData.mk (Str.ofString "NoWeights") [(.ref 24)] [(.ref 97),(.ref 24),(.type "ValueError"),(.type "Exception"),(.type "BaseException"),(.type "object")] 96 (Str.ofString "NoWeights") Bool.true [] [] Bool.false none Bool.false)) #[(some (.ref 88)),none,(some (.str (Str.ofString "NoWeights") 287)),(some (.str (Str.ofString "NoWeights") 295)),(some (.builtin "ValueError.__new__")),(some (.bool Bool.true))]))::
 (nat_lit 100,(Obj.mk (.type "tuple") none (Data.seq #[(.ref 24)] 0) #[]))::
 (nat_lit 107,(Obj.mk (.type "tuple") none (Data.seq #[] 0) #[]))::
 (nat_lit 108,(Obj.mk (.type "dict") none (Data.dict #[(oE P "__module__" 310 (.str (Str.ofString "forkplan.errors") 187)),(oE P "__firstlineno__" 314 (.int 16 313)),(oE P "__static_attributes__" 315 (.ref 107)),(oE P "__doc__" 316 .none)] 2) #[]))::
 (nat_lit 109,(Obj.mk (.type "type") none (Data.cls (ClassData.mk (Str.ofString "TooMany") [(.ref 24)] [(.ref 109),(.ref 24),(.type "ValueError"),(.type "Exception"),(.type "BaseException"),(.type "object")] 108 (Str.ofString "TooMany") Bool.true [] [] Bool.false none Bool.false)) #[(some (.ref 100)),none,(some (.str (Str.ofString "TooMany") 303)),(some (.str (Str.ofString "TooMany") 311)),(some (.builtin "ValueError.__new__")),(some (.bool Bool.true))]))::
 (nat_lit 112,(Obj.mk (.type "tuple") none (Data.seq #[(.ref 24)] 0) #[]))::
 (nat_lit 119,(Obj.mk (.type "tuple") none (Data.seq #[] 0) #[]))::
 (nat_lit 120,(Obj.mk (.type "dict") none (Data.dict #[(oE P "__module__" 326 (.str (Str.ofString "forkplan.errors") 187)),(oE P "__firstlineno__" 330 (.int 18 329)),(oE P "__static_attributes__" 331 (.ref 119)),(oE P "__doc__" 332 .none)] 2) #[]))::
 (nat_lit 121,(Obj.mk (.type "type") none (Data.cls (ClassData.mk (Str.ofString "NoText") [(.ref 24)] [(.ref 121),(.ref 24),(.type "ValueError"),(.type "Exception"),(.type "BaseException"),(.type "object")] 120 (Str.ofString "NoText") Bool.true [] [] Bool.false none Bool.false)) #[(some (.ref 112)),none,(some (.str (Str.ofString "NoText") 319)),(some (.str (Str.ofString "NoText") 327)),(some (.builtin "ValueError.__new__")),(some (.bool Bool.true))]))::
 (nat_lit 124,(Obj.mk (.type "tuple") none (Data.seq #[(.ref 24)] 0) #[]))::
 (nat_lit 131,(Obj.mk (.type "tuple") none (Data.seq #[] 0) #[]))::
 (nat_lit 132,(Obj.mk (.type "dict") none (Data.dict #[(oE P "__module__" 342 (.str (Str.ofString "forkplan.errors") 187)),(oE P "__firstlineno__" 346 (.int 20 345)),(oE P "__static_attributes__" 347 (.ref 131)),(oE P "__doc__" 348 .none)] 2) #[]))::
 (nat_lit 133,(Obj.mk (.type "type") none (Data.cls (ClassData.mk (Str.ofString "NoOrder") [(.ref 24)] [(.ref 133),(.ref 24),(.type "ValueError"),(.type "Exception"),(.type "BaseException"),(.type "object")] 132 (Str.ofString "NoOrder") Bool.true [] [] Bool.false none Bool.false)) #[(some (.ref 124)),none,(some (.str (Str.ofString "NoOrder") 335)),(some (.str (Str.ofString "NoOrder") 343)),(some (.builtin "ValueError.__new__")),(some (.bool Bool.true))]))::
 (nat_lit 141,oC #[(oS "holds" 353),(oS "holds" 354),(oS "/claim/cut.py" 355),(oI 23),(oI 3),(oI 0),(oI 0),(oI 3),(oR 136),(.bool Bool.true),(oI 181),(oR 137),.none,(oR 138),(oR 139),(oR 140),(oI 359),(oI 23),(oS "/claim/cut.py" 360)])::
 (nat_lit 142,oF "holds" 12 "forkplan.exprs" 351 141)::
 (nat_lit 148,oC #[(oS "names_in" 362),(oS "names_in" 363),(oS "/claim/cut.py" 364),(oI 25),(oI 1),(oI 0),(oI 0),(oI 3),(oR 143),(.bool Bool.true),(oI 181),(oR 144),.none,(oR 145),(oR 146),(oR 147),(oI 368),(oI 25),(oS "/claim/cut.py" 369)])::
 (nat_lit 149,oF "names_in" 13 "forkplan.exprs" 351 148)::
 (nat_lit 153,oC #[(oS "values_by_name" 371),(oS "values_by_name" 372),(oS "/claim/cut.py" 373),(oI 33),(oI 2),(oI 0),(oI 0),(oI 3),(oR 150),(.bool Bool.true),(oI 181),(oR 151),.none,.none,.none,(oR 152),(oI 374),(oI 33),(oS "/claim/cut.py" 375)])::
 (nat_lit 154,oF "values_by_name" 14 "forkplan.exprs" 351 153)::
 (nat_lit 160,oC #[(oS "worth_by" 377),(oS "worth_by" 378),(oS "/claim/cut.py" 379),(oI 35),(oI 2),(oI 0),(oI 0),(oI 3),(oR 155),(.bool Bool.true),(oI 181),(oR 156),.none,(oR 157),(oR 158),(oR 159),(oI 385),(oI 35),(oS "/claim/cut.py" 386)])::
 (nat_lit 161,oF "worth_by" 15 "forkplan.exprs" 351 160)::
 (nat_lit 167,oC #[(oS "holds_by" 388),(oS "holds_by" 389),(oS "/claim/cut.py" 390),(oI 44),(oI 2),(oI 0),(oI 0),(oI 3),(oR 162),(.bool Bool.true),(oI 181),(oR 163),.none,(oR 164),(oR 165),(oR 166),(oI 396),(oI 44),(oS "/claim/cut.py" 397)])::
 (nat_lit 168,oF "holds_by" 16 "forkplan.exprs" 351 167)::
 (nat_lit 169,(Obj.mk (.type "tuple") none (Data.seq #[(.str (Str.ofString "not") 407),(.str (Str.ofString "and") 408),(.str (Str.ofString "yes") 409)] 0) #[]))::
 (nat_lit 173,oC #[(oS "world_of" 411),(oS "world_of" 412),(oS "/claim/cut.py" 413),(oI 60),(oI 5),(oI 0),(oI 0),(oI 3),(oR 170),(.bool Bool.true),(oI 181),(oR 171),.none,.none,.none,(oR 172),(oI 414),(oI 60),(oS "/claim/cut.py" 415)])::
 (nat_lit 174,oF "world_of" 22 "forkplan.worlds" 399 173)::
 (nat_lit 178,oC #[(oS "standings_of_boxes" 417),(oS "standings_of_boxes" 418),(oS "/claim/cut.py" 419),(oI 75),(oI 1),(oI 0),(oI 0),(oI 3),(oR 175),(.bool Bool.true),(oI 181),(oR 176),.none,.none,.none,(oR 177),(oI 420),(oI 75),(oS "/claim/cut.py" 421)])::
 (nat_lit 179,oF "standings_of_boxes" 23 "forkplan.worlds" 399 178)::
 (nat_lit 183,oC #[(oS "copied_deed" 423),(oS "copied_deed" 424),(oS "/claim/cut.py" 425),(oI 83),(oI 1),(oI 0),(oI 0),(oI 3),(oR 180),(.bool Bool.true),(oI 181),(oR 181),.none,.none,.none,(oR 182),(oI 426),(oI 83),(oS "/claim/cut.py" 427)])::
 (nat_lit 184,oF "copied_deed" 24 "forkplan.worlds" 399 183)::
 (nat_lit 190,oC #[(oS "is_whole" 429),(oS "is_whole" 430),(oS "/claim/cut.py" 431),(oI 85),(oI 1),(oI 0),(oI 0),(oI 3),(oR 185),(.bool Bool.true),(oI 181),(oR 186),.none,(oR 187),(oR 188),(oR 189),(oI 433),(oI 85),(oS "/claim/cut.py" 434)])::
 (nat_lit 191,oF "is_whole" 25 "forkplan.worlds" 399 190)::
 (nat_lit 195,oC #[(oS "refuse_boxes" 436),(oS "refuse_boxes" 437),(oS "/claim/cut.py" 438),(oI 87),(oI 1),(oI 0),(oI 0),(oI 3),(oR 192),(.bool Bool.true),(oI 181),(oR 193),.none,.none,.none,(oR 194),(oI 439),(oI 87),(oS "/claim/cut.py" 440)])::
 (nat_lit 196,oF "refuse_boxes" 26 "forkplan.worlds" 399 195)::
 (nat_lit 202,oC #[(oS "refuse_twice" 442),(oS "refuse_twice" 443),(oS "/claim/cut.py" 444),(oI 96),(oI 2),(oI 0),(oI 0),(oI 3),(oR 197),(.bool Bool.true),(oI 181),(oR 198),.none,(oR 199),(oR 200),(oR 201),(oI 447),(oI 96),(oS "/claim/cut.py" 448)])::
 (nat_lit 203,oF "refuse_twice" 27 "forkplan.worlds" 399 202)::
 (nat_lit 209,oC #[(oS "refuse_price" 450),(oS "refuse_price" 451),(oS "/claim/cut.py" 452),(oI 99),(oI 2),(oI 0),(oI 0),(oI 3),(oR 204),(.bool Bool.true),(oI 181),(oR 205),.none,(oR 206),(oR 207),(oR 208),(oI 455),(oI 99),(oS "/claim/cut.py" 456)])::
 (nat_lit 210,oF "refuse_price" 28 "forkplan.worlds" 399 209)::
 (nat_lit 214,oC #[(oS "refuse_ways" 458),(oS "refuse_ways" 459),(oS "/claim/cut.py" 460),(oI 102),(oI 3),(oI 0),(oI 0),(oI 3),(oR 211),(.bool Bool.true),(oI 181),(oR 212),.none,.none,.none,(oR 213),(oI 461),(oI 102),(oS "/claim/cut.py" 462)])::
 (nat_lit 215,oF "refuse_ways" 29 "forkplan.worlds" 399 214)::
 (nat_lit 221,oC #[(oS "refuse_strange_name" 464),(oS "refuse_strange_name" 465),(oS "/claim/cut.py" 466),(oI 110),(oI 2),(oI 0),(oI 0),(oI 3),(oR 216),(.bool Bool.true),(oI 181),(oR 217),.none,(oR 218),(oR 219),(oR 220),(oI 469),(oI 110),(oS "/claim/cut.py" 470)])::
 (nat_lit 222,oF "refuse_strange_name" 30 "forkplan.worlds" 399 221)::
 (nat_lit 228,oC #[(oS "refuse_strange_names" 472),(oS "refuse_strange_names" 473),(oS "/claim/cut.py" 474),(oI 113),(oI 2),(oI 0),(oI 0),(oI 3),(oR 223),(.bool Bool.true),(oI 181),(oR 224),.none,(oR 225),(oR 226),(oR 227),(oI 478),(oI 113),(oS "/claim/cut.py" 479)])::
 (nat_lit 229,oF "refuse_strange_names" 31 "forkplan.worlds" 399 228)::
 (nat_lit 235,oC #[(oS "refuse_begin" 481),(oS "refuse_begin" 482),(oS "/claim/cut.py" 483),(oI 116),(oI 2),(oI 0),(oI 0),(oI 3),(oR 230),(.bool Bool.true),(oI 181),(oR 231),.none,(oR 232),(oR 233),(oR 234),(oI 487),(oI 116),(oS "/claim/cut.py" 488)])::
 (nat_lit 236,oF "refuse_begin" 32 "forkplan.worlds" 399 235)::
 (nat_lit 242,oC #[(oS "_law_cell_at" 492),(oS "_law_cell_at" 493),(oS "/claim/cut.py" 494),(oI 122),(oI 2),(oI 0),(oI 0),(oI 3),(oR 237),(.bool Bool.true),(oI 181),(oR 238),.none,(oR 239),(oR 240),(oR 241),(oI 497),(oI 122),(oS "/claim/cut.py" 498)])::
 (nat_lit 243,oF "_law_cell_at" 34 "law_forkplan_k05_no_world" 490 242)::
 (nat_lit 249,oC #[(oS "_law_stir" 500),(oS "_law_stir" 501),(oS "/claim/cut.py" 502),(oI 126),(oI 2),(oI 0),(oI 0),(oI 3),(oR 244),(.bool Bool.true),(oI 181),(oR 245),.none,(oR 246),(oR 247),(oR 248),(oI 506),(oI 126),(oS "/claim/cut.py" 507)])::
 (nat_lit 250,oF "_law_stir" 35 "law_forkplan_k05_no_world" 490 249)::
 (nat_lit 256,oC #[(oS "_law_drawn" 509),(oS "_law_drawn" 510),(oS "/claim/cut.py" 511),(oI 130),(oI 2),(oI 0),(oI 0),(oI 3),(oR 251),(.bool Bool.true),(oI 181),(oR 252),.none,(oR 253),(oR 254),(oR 255),(oI 517),(oI 130),(oS "/claim/cut.py" 518)])::
 (nat_lit 257,oF "_law_drawn" 36 "law_forkplan_k05_no_world" 490 256)::
 (nat_lit 263,oC #[(oS "_law_deck" 520),(oS "_law_deck" 521),(oS "/claim/cut.py" 522),(oI 140),(oI 1),(oI 0),(oI 0),(oI 3),(oR 258),(.bool Bool.true),(oI 181),(oR 259),.none,(oR 260),(oR 261),(oR 262),(oI 524),(oI 140),(oS "/claim/cut.py" 525)])::
 (nat_lit 264,oF "_law_deck" 37 "law_forkplan_k05_no_world" 490 263)::
 (nat_lit 270,oC #[(oS "_law_take" 527),(oS "_law_take" 528),(oS "/claim/cut.py" 529),(oI 144),(oI 2),(oI 0),(oI 0),(oI 3),(oR 265),(.bool Bool.true),(oI 181),(oR 266),.none,(oR 267),(oR 268),(oR 269),(oI 533),(oI 144),(oS "/claim/cut.py" 534)])::
 (nat_lit 271,oF "_law_take" 38 "law_forkplan_k05_no_world" 490 270)::
 (nat_lit 277,oC #[(oS "_law_unlike" 536),(oS "_law_unlike" 537),(oS "/claim/cut.py" 538),(oI 148),(oI 2),(oI 0),(oI 0),(oI 3),(oR 272),(.bool Bool.true),(oI 181),(oR 273),.none,(oR 274),(oR 275),(oR 276),(oI 549),(oI 148),(oS "/claim/cut.py" 550)])::
 (nat_lit 278,oF "_law_unlike" 39 "law_forkplan_k05_no_world" 490 277)::
 (nat_lit 284,oC #[(oS "_law_boxes" 552),(oS "_law_boxes" 553),(oS "/claim/cut.py" 554),(oI 159),(oI 1),(oI 0),(oI 0),(oI 3),(oR 279),(.bool Bool.true),(oI 181),(oR 280),.none,(oR 281),(oR 282),(oR 283),(oI 562),(oI 159),(oS "/claim/cut.py" 563)])::
 (nat_lit 285,oF "_law_boxes" 40 "law_forkplan_k05_no_world" 490 284)::
 (nat_lit 291,oC #[(oS "_law_expr" 565),(oS "_law_expr" 566),(oS "/claim/cut.py" 567),(oI 172),(oI 3),(oI 0),(oI 0),(oI 3),(oR 286),(.bool Bool.true),(oI 181),(oR 287),.none,(oR 288),(oR 289),(oR 290),(oI 573),(oI 172),(oS "/claim/cut.py" 574)])::
 (nat_lit 292,oF "_law_expr" 41 "law_forkplan_k05_no_world" 490 291)::
 (nat_lit 298,oC #[(oS "_law_cond" 576),(oS "_law_cond" 577),(oS "/claim/cut.py" 578),(oI 180),(oI 3),(oI 0),(oI 0),(oI 3),(oR 293),(.bool Bool.true),(oI 181),(oR 294),.none,(oR 295),(oR 296),(oR 297),(oI 584),(oI 180),(oS "/claim/cut.py" 585)])::
 (nat_lit 299,oF "_law_cond" 42 "law_forkplan_k05_no_world" 490 298)::
 (nat_lit 305,oC #[(oS "_law_worth" 587),(oS "_law_worth" 588),(oS "/claim/cut.py" 589),(oI 191),(oI 2),(oI 0),(oI 0),(oI 3),(oR 300),(.bool Bool.true),(oI 181),(oR 301),.none,(oR 302),(oR 303),(oR 304),(oI 596),(oI 191),(oS "/claim/cut.py" 597)])::
 (nat_lit 306,oF "_law_worth" 43 "law_forkplan_k05_no_world" 490 305)::
 (nat_lit 312,oC #[(oS "_law_holds" 599),(oS "_law_holds" 600),(oS "/claim/cut.py" 601),(oI 204),(oI 2),(oI 0),(oI 0),(oI 3),(oR 307),(.bool Bool.true),(oI 181),(oR 308),.none,(oR 309),(oR 310),(oR 311),(oI 605),(oI 204),(oS "/claim/cut.py" 606)])::
 (nat_lit 313,oF "_law_holds" 44 "law_forkplan_k05_no_world" 490 312)::
 (nat_lit 317,oC #[(oS "_law_values" 608),(oS "_law_values" 609),(oS "/claim/cut.py" 610),(oI 213),(oI 2),(oI 0),(oI 0),(oI 3),(oR 314),(.bool Bool.true),(oI 181),(oR 315),.none,.none,.none,(oR 316),(oI 611),(oI 213),(oS "/claim/cut.py" 612)])::
 (nat_lit 318,oF "_law_values" 45 "law_forkplan_k05_no_world" 490 317)::
 (nat_lit 322,oC #[(oS "_law_standings" 614),(oS "_law_standings" 615),(oS "/claim/cut.py" 616),(oI 215),(oI 1),(oI 0),(oI 0),(oI 3),(oR 319),(.bool Bool.true),(oI 181),(oR 320),.none,.none,.none,(oR 321),(oI 617),(oI 215),(oS "/claim/cut.py" 618)])::
 (nat_lit 323,oF "_law_standings" 46 "law_forkplan_k05_no_world" 490 322)::
 (nat_lit 329,oC #[(oS "_law_deed" 620),(oS "_law_deed" 621),(oS "/claim/cut.py" 622),(oI 223),(oI 3),(oI 0),(oI 0),(oI 3),(oR 324),(.bool Bool.true),(oI 181),(oR 325),.none,(oR 326),(oR 327),(oR 328),(oI 632),(oI 223),(oS "/claim/cut.py" 633)])::
 (nat_lit 330,oF "_law_deed" 47 "law_forkplan_k05_no_world" 490 329)::
 (nat_lit 334,oC #[(oS "_law_world" 635),(oS "_law_world" 636),(oS "/claim/cut.py" 637),(oI 236),(oI 1),(oI 0),(oI 0),(oI 3),(oR 331),(.bool Bool.true),(oI 181),(oR 332),.none,.none,.none,(oR 333),(oI 638),(oI 236),(oS "/claim/cut.py" 639)])::
 (nat_lit 335,oF "_law_world" 48 "law_forkplan_k05_no_world" 490 334)::
 (nat_lit 341,oC #[(oS "_law_refused" 641),(oS "_law_refused" 642),(oS "/claim/cut.py" 643),(oI 257),(oI 1),(oI 0),(oI 0),(oI 3),(oR 336),(.bool Bool.true),(oI 181),(oR 337),.none,(oR 338),(oR 339),(oR 340),(oI 647),(oI 257),(oS "/claim/cut.py" 648)])::
 (nat_lit 342,oF "_law_refused" 49 "law_forkplan_k05_no_world" 490 341)::
 (nat_lit 346,oC #[(oS "_law_strange" 650),(oS "_law_strange" 651),(oS "/claim/cut.py" 652),(oI 266),(oI 2),(oI 0),(oI 0),(oI 3),(oR 343),(.bool Bool.true),(oI 181),(oR 344),.none,.none,.none,(oR 345),(oI 653),(oI 266),(oS "/claim/cut.py" 654)])::
 (nat_lit 347,oF "_law_strange" 50 "law_forkplan_k05_no_world" 490 346)::
 (nat_lit 353,oC #[(oS "_law_leaves" 656),(oS "_law_leaves" 657),(oS "/claim/cut.py" 658),(oI 272),(oI 2),(oI 0),(oI 0),(oI 3),(oR 348),(.bool Bool.true),(oI 181),(oR 349),.none,(oR 350),(oR 351),(oR 352),(oI 663),(oI 272),(oS "/claim/cut.py" 664)])::
 (nat_lit 354,oF "_law_leaves" 51 "law_forkplan_k05_no_world" 490 353)::
 (nat_lit 360,oC #[(oS "_law_put" 666),(oS "_law_put" 667),(oS "/claim/cut.py" 668),(oI 279),(oI 3),(oI 0),(oI 0),(oI 3),(oR 355),(.bool Bool.true),(oI 181),(oR 356),.none,(oR 357),(oR 358),(oR 359),(oI 672),(oI 279),(oS "/claim/cut.py" 673)])::
 (nat_lit 361,oF "_law_put" 52 "law_forkplan_k05_no_world" 490 360)::
 (nat_lit 367,oC #[(oS "_law_misnamed" 675),(oS "_law_misnamed" 676),(oS "/claim/cut.py" 677),(oI 283),(oI 3),(oI 0),(oI 0),(oI 3),(oR 362),(.bool Bool.true),(oI 181),(oR 363),.none,(oR 364),(oR 365),(oR 366),(oI 682),(oI 283),(oS "/claim/cut.py" 683)])::
 (nat_lit 368,oF "_law_misnamed" 53 "law_forkplan_k05_no_world" 490 367)::
 (nat_lit 374,oC #[(oS "_law_put_in" 685),(oS "_law_put_in" 686),(oS "/claim/cut.py" 687),(oI 288),(oI 3),(oI 0),(oI 0),(oI 3),(oR 369),(.bool Bool.true),(oI 181),(oR 370),.none,(oR 371),(oR 372),(oR 373),(oI 692),(oI 288),(oS "/claim/cut.py" 693)])::
 (nat_lit 375,oF "_law_put_in" 54 "law_forkplan_k05_no_world" 490 374)::
 (nat_lit 381,oC #[(oS "_law_bad_way" 695),(oS "_law_bad_way" 696),(oS "/claim/cut.py" 697),(oI 291),(oI 4),(oI 0),(oI 0),(oI 3),(oR 376),(.bool Bool.true),(oI 181),(oR 377),.none,(oR 378),(oR 379),(oR 380),(oI 706),(oI 291),(oS "/claim/cut.py" 707)])::
 (nat_lit 382,oF "_law_bad_way" 55 "law_forkplan_k05_no_world" 490 381)::
 (nat_lit 388,oC #[(oS "_law_bad_deed" 709),(oS "_law_bad_deed" 710),(oS "/claim/cut.py" 711),(oI 305),(oI 4),(oI 0),(oI 0),(oI 3),(oR 383),(.bool Bool.true),(oI 181),(oR 384),.none,(oR 385),(oR 386),(oR 387),(oI 727),(oI 305),(oS "/claim/cut.py" 728)])::
 (nat_lit 389,oF "_law_bad_deed" 56 "law_forkplan_k05_no_world" 490 388)::
 (nat_lit 395,oC #[(oS "_law_bad_look" 730),(oS "_law_bad_look" 731),(oS "/claim/cut.py" 732),(oI 324),(oI 4),(oI 0),(oI 0),(oI 3),(oR 390),(.bool Bool.true),(oI 181),(oR 391),.none,(oR 392),(oR 393),(oR 394),(oI 742),(oI 324),(oS "/claim/cut.py" 743)])::
 (nat_lit 396,oF "_law_bad_look" 57 "law_forkplan_k05_no_world" 490 395)::
 (nat_lit 400,oC #[(oS "_law_bad_boxes" 745),(oS "_law_bad_boxes" 746),(oS "/claim/cut.py" 747),(oI 336),(oI 2),(oI 0),(oI 0),(oI 3),(oR 397),(.bool Bool.true),(oI 181),(oR 398),.none,.none,.none,(oR 399),(oI 748),(oI 336),(oS "/claim/cut.py" 749)])::
 (nat_lit 401,oF "_law_bad_boxes" 58 "law_forkplan_k05_no_world" 490 400)::
 (nat_lit 407,oC #[(oS "_law_nowhere" 751),(oS "_law_nowhere" 752),(oS "/claim/cut.py" 753),(oI 347),(oI 3),(oI 0),(oI 0),(oI 3),(oR 402),(.bool Bool.true),(oI 181),(oR 403),.none,(oR 404),(oR 405),(oR 406),(oI 759),(oI 347),(oS "/claim/cut.py" 760)])::
 (nat_lit 408,oF "_law_nowhere" 59 "law_forkplan_k05_no_world" 490 407)::
 (nat_lit 412,oC #[(oS "_law_wrong" 762),(oS "_law_wrong" 763),(oS "/claim/cut.py" 764),(oI 352),(oI 2),(oI 0),(oI 0),(oI 3),(oR 409),(.bool Bool.true),(oI 181),(oR 410),.none,.none,.none,(oR 411),(oI 765),(oI 352),(oS "/claim/cut.py" 766)])::
 (nat_lit 413,oF "_law_wrong" 60 "law_forkplan_k05_no_world" 490 412)::
 (nat_lit 417,oC #[(oS "_law_copied" 768),(oS "_law_copied" 769),(oS "/claim/cut.py" 770),(oI 369),(oI 1),(oI 0),(oI 0),(oI 3),(oR 414),(.bool Bool.true),(oI 181),(oR 415),.none,.none,.none,(oR 416),(oI 771),(oI 369),(oS "/claim/cut.py" 772)])::
 (nat_lit 418,oF "_law_copied" 61 "law_forkplan_k05_no_world" 490 417)::
 (nat_lit 424,oC #[(oS "law" 774),(oS "law" 775),(oS "/claim/cut.py" 776),(oI 373),(oI 1),(oI 0),(oI 0),(oI 3),(oR 419),(.bool Bool.true),(oI 181),(oR 420),.none,(oR 421),(oR 422),(oR 423),(oI 782),(oI 373),(oS "/claim/cut.py" 783)])::
 (nat_lit 425,oF "law" 62 "law_forkplan_k05_no_world" 490 424)::[]
noncomputable def qXj:Program:={ PySem.Challenge.pw_forkplan_k05_no_world with main:={ PySem.Challenge.pw_forkplan_k05_no_world.main with body:=([1,2,3,4,5,6,7,8,9,10,12,13,14,15,16,18,19,20,21,22,23,24,25,26,27,28,29,30,31,32,34,35,36,37,38,39,40,41,42,43,44,45,46,47,48,49,50,51,52,53,54,55,56,57,58,59,60,61,62]:List Nat).filterMap fun i=>PySem.Challenge.pw_forkplan_k05_no_world.main.body[i]? } }
noncomputable def wN:PySem.W.Hook:=PySem.W.kHook qWv [2,3,15,22,23,24,25,28,35,36,37,40,47,48,49,52,59,60,61,64,71,72,73,76,83,84,85,88,95,96,97,100,107,108,109,112,119,120,121,124,131,132,133,141,142,148,149,153,154,160,161,167,168,169,173,174,178,179,183,184,190,191,195,196,202,203,209,210,214,215,221,222,228,229,235,236,242,243,249,250,256,257,263,264,270,271,277,278,284,285,291,292,298,299,305,306,312,313,317,318,322,323,329,330,334,335,341,342,346,347,353,354,360,361,367,368,374,375,381,382,388,389,395,396,400,401,407,408,412,413,417,418,424,425] (fun _=>by kernel_rfl)
theorem qOf:LeftO (PySem.W.OpenLaw.row PySem.Challenge.rw_forkplan_k05_no_world).prog qXj [] (fun s=>xlAt qXj [] s && recOk (RowW.records (OpenRow.toRowW (PySem.W.OpenLaw.row PySem.Challenge.rw_forkplan_k05_no_world))) s) (Hook.obs wN) (Hook.val wN) 7848:=
 LeftO.of_pieces (H₀:=boot_heap) (H₁:=fun P=>absHeap (qXk (qEf P) 12 1 0) 426 qJo) (gs₀:=⟨[]⟩) (gs₁:=⟨[]⟩) (d₀:=boot_drawn) (d₁:=(Drawn.mk 0 0 0 0)) (k₀:=boot_toks) (k₁:=785) (m₀:=11) (ann:=(some (Value.ref 6))) (M:=12+(1+(3562+2)))
  (boot_open (p:=PySem.Challenge.pw_forkplan_k05_no_world) (by kernel_rfl) (by decide +kernel) (fun s=>by rfl)) (fun w=>by kernel_rfl)
  (fun w os=>go_top (topPre w os) (piece_block (qMx w os) (List.append_nil qXv▸piece_app (l:=qXv) (rest:=[]) (segRun_of (topSeg w os)) (topFin w os)))) (by decide +kernel) (fun w=>by kernel_rfl)
end FP
namespace L2
open PySem PySem.Spec PyProof.Rows

noncomputable abbrev Key:=Sum Int Str
noncomputable def keyIs:Key→Value→Bool
 | .inl k,v=>Value.isInt k v
 | .inr x,v=>Value.isStrOf x v
noncomputable def keyH (w:World):Key→Int
 | .inl k=>hashInt k
 | .inr x=>hashStr w x
theorem zR:∀{k:Key} {v:Value},keyIs k v=true→(∃i t,k=Sum.inl i∧v=Value.int i t)∨(∃x t,k=Sum.inr x∧v=Value.str x t)
 | .inl i,v,h=>by
  obtain⟨t,e⟩:=Value.isInt_shape (k:=i) (v:=v) h
  exact .inl ⟨i,t,rfl,e⟩
 | .inr x,v,h=>by
  obtain⟨t,e⟩:=Value.isStrOf_shape (x:=x) (v:=v) h
  exact .inr ⟨x,t,rfl,e⟩
theorem qHx (i:Int)(t:Tok):keyIs (.inl i) (.int i t)=true:=by simp[keyIs,Value.isInt]
theorem qHq (x:Str)(t:Tok):keyIs (.inr x) (.str x t)=true:=by simp[keyIs,Value.isStrOf]
theorem qTm (a b:Int):decide ((Sum.inl a:Key)=Sum.inl b)=(a == b):=by
 by_cases e:a=b
 ·subst e;simp
 ·have h:¬(Sum.inl a:Key)=Sum.inl b:=fun q=>e (Sum.inl.inj q)
  rw[decide_eq_false h]
  exact(beq_eq_false_iff_ne.mpr e).symm
theorem qTh (a b:Str):decide ((Sum.inr a:Key)=Sum.inr b)=decide (a=b):=by
 by_cases e:a=b
 ·subst e;simp
 ·have h:¬(Sum.inr a:Key)=Sum.inr b:=fun q=>e (Sum.inr.inj q)
  rw[decide_eq_false h,decide_eq_false e]
theorem qTl (a:Int)(b:Str):decide ((Sum.inl a:Key)=Sum.inr b)=false:=decide_eq_false (fun q=>nomatch q)
theorem qTi (a:Str)(b:Int):decide ((Sum.inr a:Key)=Sum.inl b)=false:=decide_eq_false (fun q=>nomatch q)

noncomputable def jA (prog:Program)(w:World):PySem.KeyKind prog w Key where
 is:=keyIs
 hash:=keyH w
 inj:=fun v a b ha hb=>by
  rcases zR ha with⟨i,t,rfl,rfl⟩ | ⟨x,t,rfl,rfl⟩
  ·rcases zR hb with⟨j,u,rfl,e⟩ | ⟨y,u,rfl,e⟩
   ·injection e with e1 _;rw[e1]
   ·exact nomatch e
  ·rcases zR hb with⟨j,u,rfl,e⟩ | ⟨y,u,rfl,e⟩
   ·exact nomatch e
   ·injection e with e1 _;rw[e1]
 byValue:=fun k v h=>by
  rcases zR h with⟨i,t,rfl,rfl⟩ | ⟨x,t,rfl,rfl⟩ <;> rfl
 pyHash:=fun hv h=>by
  rcases zR hv with⟨i,t,rfl,rfl⟩ | ⟨x,t,rfl,rfl⟩
  ·exact wpAny_pyHash_int h
  ·exact wpAny_pyHash_str h
 eqBool:=fun hu hv h=>by
  rcases zR hu with⟨i,t,rfl,rfl⟩ | ⟨x,t,rfl,rfl⟩
  ·rcases zR hv with⟨j,u,rfl,rfl⟩ | ⟨y,u,rfl,rfl⟩
   ·rw[qTm] at h;exact wpAny_eqBool_int h
   ·rw[qTl] at h;exact SeqAt.EqAt.int_str i t y u _ _ _ _ h
  ·rcases zR hv with⟨j,u,rfl,rfl⟩ | ⟨y,u,rfl,rfl⟩
   ·rw[qTi] at h;exact SeqAt.EqAt.str_int x t j u _ _ _ _ h
   ·rw[qTh] at h;exact wpAny_eqBool_str h
 «strs»:=fun k x t v h=>by
  rcases zR h with⟨i,u,rfl,e⟩ | ⟨y,u,rfl,e⟩
  ·exact nomatch e
  ·injection e with e1 _
   subst e1
   cases v <;> rfl

theorem qWn (prog:Program)(w:World)(i:Int)(t:Tok):(jA prog w).is (.inl i) (.int i t)=true:=qHx i t
theorem kM (prog:Program)(w:World)(x:Str)(t:Tok):(jA prog w).is (.inr x) (.str x t)=true:=qHq x t
end L2

namespace L2
open PySem PySem.Spec PyProof.Rows

inductive V where
 | non | bl (b:Bool) | int (i:Int) | str (x:Str) | byt (b:Array UInt8) | flt (b:UInt64) | ref (a:Addr) | ty (n:String)
 deriving DecidableEq

noncomputable def RelV:V→Value→Prop
 | .non,u=>u=Value.none
 | .bl b,u=>u=Value.bool b
 | .int i,u=>∃t,u=Value.int i t
 | .str x,u=>∃t,u=Value.str x t
 | .byt b,u=>∃t,u=Value.bytes b t
 | .flt b,u=>∃t,u=Value.float b t
 | .ref a,u=>u=Value.ref a
 | .ty n,u=>u=Value.type n

noncomputable abbrev Vals:List V→List Value→Prop:=Paired RelV
theorem Vals.length {xs:List V}{us:List Value}(r:Vals xs us):xs.length=us.length:=Paired.length r
theorem Vals.get:∀{xs:List V} {us:List Value} {i:Nat} {x:V},Vals xs us→xs[i]? = some x→∃u,us[i]? = some u∧RelV x u
 | _,_,_,_,.nil,e=>by simp at e
 | _,_,0,_,.cons r _,e=>by simp at e;subst e;exact⟨_,rfl,r⟩
 | _,_,i+1,x,.cons _ t,e=>by
  obtain⟨u,h1,h2⟩:=Vals.get (i:=i) (x:=x) t (by simpa using e)
  exact⟨u,by simpa using h1,h2⟩
theorem Vals.set {x:V}{u:Value}(r:RelV x u):∀{xs:List V} {us:List Value} (i:Nat),Vals xs us→Vals (xs.set i x) (us.set i u)
 | _,_,_,.nil=>.nil
 | _,_,0,.cons _ t=>.cons r t
 | _,_,i+1,.cons q t=>.cons q (Vals.set r i t)
theorem Vals.append:∀{xs ys:List V} {us ws:List Value},Vals xs us→Vals ys ws→Vals (xs++ys) (us++ws)
 | _,_,_,_,.nil,s=>s
 | _,_,_,_,.cons r t,s=>.cons r (Vals.append t s)
theorem Vals.take:∀{xs:List V} {us:List Value} (n:Nat),Vals xs us→Vals (xs.take n) (us.take n)
 | _,_,0,_=>.nil
 | _,_,_+1,.nil=>.nil
 | _,_,n+1,.cons r t=>.cons r (Vals.take n t)
theorem Vals.drop:∀{xs:List V} {us:List Value} (n:Nat),Vals xs us→Vals (xs.drop n) (us.drop n)
 | _,_,0,r=>r
 | _,_,_+1,.nil=>.nil
 | _,_,n+1,.cons _ t=>Vals.drop n t
noncomputable def RelO:Option V→Option Value→Prop
 | some v,some u=>RelV v u
 | none,none=>True
 | _,_=>False
noncomputable def KV {κ:Type}:List (κ×V)→List (κ×Value)→Prop:=Paired fun(p:κ×V) (q:κ×Value)=>p.1=q.1∧RelV p.2 q.2

noncomputable def kV:Key→V
 | .inl i=>.int i
 | .inr x=>.str x

inductive HO where
 /-- a list -/
 | lst (xs:List V)
 /-- a tuple (never changes) -/
 | tup (xs:List V)
 /-- a dict whose keys are ints and texts; one whose keys are tuples of ints and texts (the empty one is both) -/
 | dK (kvs:List (Key×V)) | dT (kvs:List (List Key×V))
 /-- a set of ints: its members, its size -/
 | set (S:Int→Bool) (n:Nat)
 /-- an instance of the class at C, its dict at dx, its attributes -/
 | ins (C dx:Addr) (fs:List (Str×V))
 /-- the dict of the instance at x -/
 | own (x:Addr)
 /-- the dict of an exception -/
 | xd (fs:List (Str×V))
 /-- a bound method, f of x -/
 | met (f x:Addr)
 /-- a range object lo, lo + 1, .. below hi -/
 | rng (lo hi:Int)
 /-- a thing that is known to the object (the script; a dict while a loop walks it): read, never written while it is so -/
 | frz (o:Obj) (u:HO)
 /-- a code object's table -/
 | tbl (ps:Array Value)
 /-- any other thing, by what is true of its one object (a def of one's own: SetO a S n := HO.ext fun h => ..) -/
 | ext (φ:Heap→Prop)

noncomputable abbrev Hp:=Addr→Option HO
noncomputable def upd (H:Hp)(a:Addr)(o:HO):Hp:=fun b=>if b=a then some o else H b
theorem qW {H:Hp}{a:Addr}{o:HO}:upd H a o a=some o:=by unfold upd;rw[if_pos rfl]
theorem qA {H:Hp}{a b:Addr}{o:HO}(h:b≠a):upd H a o b=H b:=by unfold upd;rw[if_neg h]
theorem qEc {H:Hp}{a:Addr}{o u:HO}:upd (upd H a o) a u=upd H a u:=by
 funext b;unfold upd;split <;> rfl
theorem kI {H:Hp}{a b:Addr}{o u:HO}(h:H a=some o)(h':H b=some u)(d:o≠u):a≠b:=by
 intro e;subst e;rw[h] at h';exact d (Option.some.inj h')
theorem qB {H:Hp}{a b:Addr}{o:HO}(h:H a=some o)(h':H b=none):a≠b:=by
 intro e;subst e;rw[h] at h';cases h'

noncomputable def TupX (h:Heap)(a:Addr)(its:Array Value):Prop:=∃o,h.get? a=some o∧o.cls=.type "tuple" ∧ ∃n,o.data=.seq its n∧o.dict=none
theorem TupX.tup {h:Heap}{a:Addr}{its:Array Value}(x:TupX h a its):IsTup h a its:=let ⟨o,e,c,n,d,_⟩:=x;⟨o,e,c,n,d⟩
theorem TupX.lt {h:Heap}{a:Addr}{its:Array Value}(x:TupX h a its):a<h.objs.size:=x.tup.lt
theorem TupX.new (h:Heap)(its:Array Value):TupX (h.push { cls:=.type "tuple",data:=.seq its }) h.objs.size its:=⟨_,Heap.get?_push_size _ rfl,rfl,_,rfl,rfl⟩
section
variable (P:Program)(w:World)
noncomputable def ObjOk (H:Hp)(h:Heap)(a:Addr):HO→Prop
 | .lst xs=>xs.length≤sizeLine∧∃(its:List Value) (n:Nat),Vals xs its∧h.get? a=some { cls:=.type "list",data:=.seq its.toArray n }
 | .tup xs=>xs.length≤sizeLine∧∃its:List Value,Vals xs its∧TupX h a its.toArray
 | .dK kvs=>kvs.length≤sizeLine∧(a == sysModules)=false∧∃vs,KV kvs vs∧h.DictOf (jA P w) a vs
 | .dT kvs=>kvs.length≤sizeLine∧(a == sysModules)=false∧∃xs:List (List Key×Addr×Value),
   Paired (fun(p:List Key×V) (q:List Key×Addr×Value)=>p.1=q.1∧H q.2.1=some (.tup (p.1.map kV))∧RelV p.2 q.2.2) kvs xs∧
   ∃o es ep,h.get? a=some o∧o.ExactDict∧o.data=.dict es ep∧es.toList=xs.map (entryOfKey (tupleKind (jA P w)))∧(xs.map (·.1)).Nodup
 | .set S n=>h.SetOf (intKind P w) a S n
 | .ins C dx fs=>H dx=some (.own a)∧fs.length≤1000∧dx≠a∧h.get? a=some (PySem.W.instObj C dx)∧
   ∃mA,h.Ns1 dx mA∧(∀f,RelO (fs.lookup f) (mA f))∧PySem.Within mA (fs.map (·.1))
 | .own _=>∃o,h.get? a=some o
 | .xd fs=>∃mA,h.Ns1 a mA∧∀f,RelO (fs.lookup f) (mA f)
 | .rng lo hi=>∃t u v,h.get? a=some { cls:=.type "range",data:=.fields #[.int lo t,.int hi u,.int 1 v] }
 | .frz o u=>h.get? a=some o∧ObjOk H h a u
 | .tbl ps=>h.get? a=some { cls:=.none,data:=.fields ps }
 | .met f x=>h.get? a=some (PySem.W.methodObj (.ref f) (.ref x))
 | .ext φ=>φ h∧(∃o,h.get? a=some o)∧∀h1 h2:Heap,φ h1→(∀o,h1.get? a=some o→h2.get? a=some o)→φ h2
noncomputable def HOk (H:Hp)(h:Heap):Prop:=∀a o,H a=some o→ObjOk P w H h a o
end

section
variable {P:Program}{w:World}{H H':Hp}{h h':Heap}{a:Addr}{o:HO}
theorem ObjOk.lt (x:ObjOk P w H h a o):a<h.objs.size:=by
 cases o with
 | lst xs=>obtain⟨_,_,_,_,e⟩:=x;exact Heap.lt_size e
 | tup xs=>obtain⟨_,_,_,p⟩:=x;exact p.lt
 | dK kvs=>obtain⟨_,_,_,_,o,_,_,e,_⟩:=x;exact Heap.lt_size e
 | dT kvs=>obtain⟨_,_,_,_,o,_,_,e,_⟩:=x;exact Heap.lt_size e
 | set S n=>obtain⟨o,_,_,_,e,_⟩:=x;exact Heap.lt_size e
 | ins C dx fs=>obtain⟨_,_,_,e,_⟩:=x;exact Heap.lt_size e
 | own y=>obtain⟨_,e⟩:=x;exact Heap.lt_size e
 | xd fs=>obtain⟨_,⟨_,_,_,e,_⟩,_⟩:=x;exact Heap.lt_size e
 | rng lo hi=>obtain⟨_,_,_,e⟩:=x;exact Heap.lt_size e
 | frz ob u=>obtain⟨e,_⟩:=x;exact Heap.lt_size e
 | tbl ps=>exact Heap.lt_size (show h.get? a=some _ from x)
 | met f y=>exact Heap.lt_size (show h.get? a=some _ from x)
 | ext φ=>obtain⟨_,⟨_,e⟩,_⟩:=x;exact Heap.lt_size e
theorem Paired.mapP {α β:Type}{F G:α→β→Prop}:∀{l₁:List α} {l₂:List β},Paired F l₁ l₂→(∀a b,F a b→G a b)→Paired G l₁ l₂
 | _,_,.nil,_=>.nil
 | _,_,.cons r t,f=>.cons (f _ _ r) (Paired.mapP t f)
theorem ObjOk.stay (x:ObjOk P w H h a o)(k:∀b u,(b=a∨H b=some (.own a))→h.get? b=some u→h'.get? b=some u)
  (ho:∀b,H b=some (.own a)→H' b=some (.own a)) (ht:∀b xs,H b=some (.tup xs)→H' b=some (.tup xs)):ObjOk P w H' h' a o:=by
 induction o with
 | lst xs=>obtain⟨z,its,n,r,e⟩:=x;exact⟨z,its,n,r,k _ _ (.inl rfl) e⟩
 | tup xs=>obtain⟨z,its,r,ob,e,c⟩:=x;exact⟨z,its,r,ob,k _ _ (.inl rfl) e,c⟩
 | dK kvs=>obtain⟨z,y,vs,r,ob,es,ep,e,c⟩:=x;exact⟨z,y,vs,r,ob,es,ep,k _ _ (.inl rfl) e,c⟩
 | dT kvs=>
  obtain⟨z,y,xs,r,ob,es,ep,e,c⟩:=x
  exact⟨z,y,xs,Paired.mapP r fun p q z=>⟨z.1,ht _ _ z.2.1,z.2.2⟩,ob,es,ep,k _ _ (.inl rfl) e,c⟩
 | set S n=>obtain⟨ob,es,ep,t,e,c⟩:=x;exact⟨ob,es,ep,t,k _ _ (.inl rfl) e,c⟩
 | ins C dx fs=>
  obtain⟨d,z,ne,e,mA,⟨od,es,ep,e2,c⟩,r⟩:=x
  exact⟨ho _ d,z,ne,k _ _ (.inl rfl) e,mA,⟨od,es,ep,k _ _ (.inr d) e2,c⟩,r⟩
 | own y=>obtain⟨ob,e⟩:=x;exact⟨ob,k _ _ (.inl rfl) e⟩
 | xd fs=>obtain⟨mA,⟨od,es,ep,e,c⟩,r⟩:=x;exact⟨mA,⟨od,es,ep,k _ _ (.inl rfl) e,c⟩,r⟩
 | rng lo hi=>obtain⟨t,u,v,e⟩:=x;exact⟨t,u,v,k _ _ (.inl rfl) e⟩
 | frz ob u ih=>obtain⟨e,q⟩:=x;exact⟨k _ _ (.inl rfl) e,ih q⟩
 | tbl ps=>
  have e:h.get? a=some { cls:=.none,data:=.fields ps }:=x
  show h'.get? a=some { cls:=.none,data:=.fields ps }
  exact k a _ (.inl rfl) e
 | met f y=>
  have e:h.get? a=some (PySem.W.methodObj (.ref f) (.ref y)):=x
  show h'.get? a=some (PySem.W.methodObj (.ref f) (.ref y))
  exact k a _ (.inl rfl) e
 | ext φ=>obtain⟨p,⟨o,e⟩,st⟩:=x;exact⟨st _ _ p fun o q=>k _ _ (.inl rfl) q,⟨o,k _ _ (.inl rfl) e⟩,st⟩
theorem HOk.lt (x:HOk P w H h)(e:H a=some o):a<h.objs.size:=(x a o e).lt
theorem HOk.fresh (x:HOk P w H h)(e:h.objs.size≤a):H a=none:=by
 cases q:H a with
 | none=>rfl
 | some u=>exact absurd (Nat.lt_of_lt_of_le (x.lt q) e) (Nat.lt_irrefl _)
theorem HOk.kept (x:HOk P w H h)(k:∀b u,h.get? b=some u→h'.get? b=some u):HOk P w H h':=fun a o e=>
 (x a o e).stay (fun b u _ q=>k b u q) (fun _ q=>q) fun _ _ q=>q
theorem HOk.laid (x:HOk P w H h)(k:∀b u,h.get? b=some u→h'.get? b=some u)(hp:h.objs.size≤a)(new:ObjOk P w (upd H a o) h' a o):HOk P w (upd H a o) h':=fun b u e=>by
 have hn:=x.fresh hp
 by_cases hb:b=a
 ·subst hb;rw[qW] at e;cases e;exact new
 ·rw[qA hb] at e
  exact(x b u e).stay (fun c v _ q=>k c v q) (fun c q=>by rw[qA (qB q hn)];exact q) fun c xs q=>by rw[qA (qB q hn)];exact q
end

noncomputable def Rd (H:Hp)(a:Addr)(u:HO):Prop:=H a=some u∨∃o,H a=some (.frz o u)
theorem Rd.ok {P:Program}{w:World}{H:Hp}{h:Heap}{a:Addr}{u:HO}(r:Rd H a u)(x:HOk P w H h):ObjOk P w H h a u:=by
 rcases r with r | ⟨o,r⟩
 ·exact x a u r
 ·obtain⟨_,q⟩:=x a _ r
  exact q
noncomputable def Mut:Option HO→Prop
 | some (.lst _)=>True
 | some (.dK _)=>True
 | some (.dT _)=>True
 | some (.set _ _)=>True
 | some (.ins _ _ _)=>True
 | some (.ext _)=>True
 | _=>False
section
variable {P:Program}{w:World}{H:Hp}{h h':Heap}{x e:Addr}{o':HO}
theorem HOk.write (ok:HOk P w H h)(mu:Mut (H x))(he:e=x∨H e=some (.own x))(k:∀b u,b≠e→h.get? b=some u→h'.get? b=some u)(heo:∃u,h'.get? e=some u)
  (new:ObjOk P w (upd H x o') h' x o'):HOk P w (upd H x o') h':=fun b u q=>by
 have nown:∀c y,H c=some (.own y)→c≠x:=fun c y r z=>by subst z;rw[r] at mu;exact mu
 have ntup:∀c xs,H c=some (.tup xs)→c≠x:=fun c xs r z=>by subst z;rw[r] at mu;exact mu
 by_cases hb:b=x
 ·subst hb;rw[qW] at q;cases q;exact new
 ·rw[qA hb] at q
  by_cases hbe:b=e
  ·have q':H b=some (.own x):=by
    rcases he with z | z
    ·exact absurd (hbe.trans z) hb
    ·rw[hbe];exact z
   rw[q] at q';cases q'
   obtain⟨v,hv⟩:=heo
   exact⟨v,by rw[hbe];exact hv⟩
  ·refine(ok b u q).stay (fun c v hc r=>k c v ?_ r) (fun c r=>by rw[qA (nown c b r)];exact r) fun c xs r=>by rw[qA (ntup c xs r)];exact r
   rcases hc with rfl | hc
   ·exact hbe
   ·rintro rfl
    rcases he with z | z
    ·exact nown c b hc z
    ·rw[hc] at z;cases z;exact hb rfl
end

structure Un (fs ex:List Addr)(H H':Hp)(h h':Heap):Prop where
 keep:∀b o,h.get? b=some o→H b=none→b∉fs→b∉ex→h'.get? b=some o
 slot:∀b o,h.get? b=some o→H b=none→b∈fs→b∉ex→∃sl,h'.get? b=some { o with slots:=sl }
 free:∀b o,h.get? b=some o→H b=none→b∉ex→H' b=none
 there:∀b o,h.get? b=some o→b∉ex→∃o',h'.get? b=some o'
 tups:∀b xs,H b=some (.tup xs)→H' b=some (.tup xs)
 frzs:∀b o u,H b=some (.frz o u)→H' b=some (.frz o u)
 tbls:∀b ps,H b=some (.tbl ps)→∃more,H' b=some (.tbl (ps++more))
section
variable {fs fs' ex ex':List Addr}{H H1 H2:Hp}{h h1 h2 h':Heap}{a x e:Addr}{o:HO}
theorem Un.any (u:Un fs ex H H1 h h1){b:Addr}{ob:Obj}(q:h.get? b=some ob)(n:H b=none)(hx:b∉ex):∃sl,h1.get? b=some { ob with slots:=sl }:=by
 by_cases hb:b∈fs
 ·exact u.slot b ob q n hb hx
 ·exact⟨ob.slots,u.keep b ob q n hb hx⟩
theorem Un.trans (a:Un fs ex H H1 h h1)(b:Un fs ex H1 H2 h1 h2):Un fs ex H H2 h h2 where
 keep:=fun c ob q n hc hx=>b.keep c ob (a.keep c ob q n hc hx) (a.free c ob q n hx) hc hx
 slot:=fun c ob q n hc hx=>by
  obtain⟨sl,e1⟩:=a.slot c ob q n hc hx
  obtain⟨sl',e2⟩:=b.slot c _ e1 (a.free c ob q n hx) hc hx
  exact⟨sl',e2⟩
 free:=fun c ob q n hx=>by
  obtain⟨o',e1⟩:=a.there c ob q hx
  exact b.free c o' e1 (a.free c ob q n hx) hx
 there:=fun c ob q hx=>by
  obtain⟨o',e1⟩:=a.there c ob q hx
  exact b.there c o' e1 hx
 tups:=fun c xs q=>b.tups c xs (a.tups c xs q)
 frzs:=fun c ob xs q=>b.frzs c ob xs (a.frzs c ob xs q)
 tbls:=fun c ps q=>by
  obtain⟨m1,e1⟩:=a.tbls c ps q
  obtain⟨m2,e2⟩:=b.tbls c _ e1
  exact⟨m1++m2,by rw[e2,Array.append_assoc]⟩
theorem Un.kept (k:∀b u,h.get? b=some u→h'.get? b=some u):Un fs ex H H h h':=
 ⟨fun b ob q _ _ _=>k b ob q,fun b ob q _ _ _=>⟨ob.slots,k b ob q⟩,fun _ _ _ n _=>n,fun b ob q _=>⟨ob,k b ob q⟩,fun _ _ q=>q,fun _ _ _ q=>q,fun _ ps q=>⟨#[],by rw[q];simp⟩⟩
theorem Un.refl:Un fs ex H H h h:=Un.kept fun _ _ q=>q
theorem Un.laid (k:∀b u,h.get? b=some u→h'.get? b=some u)(hp:h.objs.size≤a)(hn:H a=none):Un fs ex H (upd H a o) h h' where
 keep:=fun b u q _ _ _=>k b u q
 slot:=fun b u q _ _ _=>⟨u.slots,k b u q⟩
 free:=fun b u q n _=>by rw[qA (Nat.ne_of_lt (Nat.lt_of_lt_of_le (Heap.lt_size q) hp))];exact n
 there:=fun b u q _=>⟨u,k b u q⟩
 tups:=fun b xs q=>by rw[qA (qB q hn)];exact q
 frzs:=fun b u xs q=>by rw[qA (qB q hn)];exact q
 tbls:=fun b ps q=>⟨#[],by rw[qA (qB q hn),q];simp⟩
theorem Un.write (mu:Mut (H x))(he:e=x∨H e=some (.own x))(k:∀b u,b≠e→h.get? b=some u→h'.get? b=some u)(heo:∃u,h'.get? e=some u):Un fs ex H (upd H x o) h h':=by
 have hx:∀b,H b=none→b≠x:=fun b n z=>by subst z;rw[n] at mu;exact mu
 have hb:∀b,H b=none→b≠e:=fun b n z=>by
  subst z
  rcases he with r | r
  ·exact hx b n r
  ·rw[n] at r;cases r
 have hm:∀b u,H b=some u→¬Mut (some u)→b≠x:=fun b u q nm z=>by subst z;rw[q] at mu;exact nm mu
 refine⟨fun b u q n _ _=>k b u (hb b n) q,fun b u q n _ _=>⟨u.slots,k b u (hb b n) q⟩,fun b u q n _=>by rw[qA (hx b n)];exact n,fun b u q _=>?_,
  fun b xs q=>by rw[qA (hm b _ q fun z=>z)];exact q,fun b u xs q=>by rw[qA (hm b _ q fun z=>z)];exact q,fun b ps q=>⟨#[],by rw[qA (hm b _ q fun z=>z),q];simp⟩⟩
 by_cases hbe:b=e
 ·subst hbe;exact heo
 ·exact⟨u,k b u hbe q⟩
end

noncomputable def trk (h:Heap)(H:Hp):List Addr:=(List.range h.objs.size).filter fun a=>(H a).isSome
noncomputable def hidT (h:Heap)(H:Hp):Heap:=PySem.W.hideAll h (trk h H)
theorem qHb (h:Heap)(H:Hp):(hidT h H).objs.size=h.objs.size:=PySem.W.hideAll_size _ _
theorem qNj {h:Heap}{H:Hp}{b:Addr}{o:Obj}(e:h.get? b=some o)(n:H b=none):(hidT h H).get? b=some o:=
 PySem.W.hideAll_get _ e fun hm=>by
  have q:(H b).isSome=true:=(List.mem_filter.mp hm).2
  rw[n] at q;simp at q
theorem qPm {h:Heap}{H:Hp}{b:Addr}{o:Obj}(e:(hidT h H).get? b=some o):h.get? b=some o∧H b=none:=by
 have e':h.get? b=some o:=PySem.W.of_hideAll (trk h H) e
 refine⟨e',?_⟩
 cases q:H b with
 | none=>rfl
 | some x=>
  have hm:b∈trk h H:=List.mem_filter.mpr ⟨List.mem_range.mpr (Heap.lt_size e'),by simp[q]⟩
  have z:(hidT h H).get? b=none:=PySem.W.hideAll_none (trk h H) hm
  rw[z] at e;cases e

end L2

namespace L2
open PySem PySem.Spec PyProof.Rows

structure Mod (K:PySem.W.Frag)(mg:Str→Option Value)(base:Heap):Prop where
 kin:K.In base
 glob:base.Ns mainGlobals mg
 blt:∃mb,base.Ns builtinsNs mb∧∀x:Str,x ≠ "__name__" → mb x=bootBuiltins x
 nolimit:base.NoLimit

/-- the context: a def's body (or a comprehension's block) running. base: fixed through the whole law; s₀, H₀: the entry; outer: the frames whose slots others may change (a def's callers); stack: all frames that run;
   ex: iterators that were made ahead of the entry and are walked here (a comprehension's); fn: the names whose cells were made at the entry (a def: all; a comprehension's block: its own); calm: not within an except suite; pn: pins that every state bears; xe: what is wanted of an exception that leaves the code -/
structure Cx where
 prog:Program
 w:World
 K:PySem.W.Frag
 mg:Str→Option Value
 base:Heap
 A:Around
 N:List Str
 s₀:Shared
 H₀:Hp
 env:Env
 outer:List Env
 stack:List Env
 ex:List Addr
 fn:Str→Bool
 calm:Bool
 pn:List (Addr×Obj)
 xe:Value→Shared→Prop
noncomputable def frs (l:List Env):List Addr:=l.filterMap (·.frame)
noncomputable abbrev Cx.fs (X:Cx):List Addr:=frs X.outer

noncomputable def Vis (sc:Scope)(x:Str):Prop:=sc.names.lookup x=some .local∨sc.names.lookup x=some .cell∨sc.names.lookup x=some .free
noncomputable def Loc (sc:Scope)(x:Str):Prop:=sc.names.lookup x=some .local∨sc.names.lookup x=some .cell
noncomputable def Look (env:Env)(h:Heap)(m:Str→Option Value)(x:Str)(u:Value):Prop:=
 (env.kindOf x=some .local∧m x=some u)∨((env.kindOf x=some .cell∨env.kindOf x=some .free)∧∃c,env.cells.lookup x=some c∧h.IsCell c (some u))

structure Cx.Ok (X:Cx):Prop where
 mod:Mod X.K X.mg X.base
 kind:X.env.scope.kind=.function
 glob:X.env.globals=mainGlobals
 blt:X.env.builtins=builtinsNs
 above:X.s₀.heap.objs.size≤X.env.locals
 inj:∀x y c,X.env.cells.lookup x=some c→X.env.cells.lookup y=some c→x=y
 has:∀x,(X.env.kindOf x=some .cell∨X.env.kindOf x=some .free)→∃c,X.env.cells.lookup x=some c
 cab:∀x c,X.fn x=true→X.env.cells.lookup x=some c→X.s₀.heap.objs.size≤c
 hd:X.calm=true→X.A.handled=none
 frames:X.A.frames=some X.stack
 stk:X.stack=X.outer∨(X.stack=X.env::X.outer∧X.env.frame=some X.env.locals)
 exf:∀b∈X.ex,b≠X.env.locals∧∀x c,X.env.cells.lookup x=some c→c≠b
 bs:∀b o,X.base.get? b=some o→X.s₀.heap.get? b=some o∧X.H₀ b=none
 bsz:X.base.objs.size≤X.s₀.heap.objs.size
 noex:∀b o,X.base.get? b=some o→b∉X.ex
 exfs:∀b∈X.ex,b∉X.fs
 funs:X.s₀.heap.FunFrames X.base X.outer
 frf:∀b∈X.fs,X.H₀ b=none

structure Inv (X:Cx)(pins:List (Addr×Obj))(σ:List (Option V))(H:Hp)(s:Shared):Prop where
 ok:X.Ok
 os:s.os=X.s₀.os
 bare:AllBare s.gens
 base:Un X.fs X.ex X.H₀ H X.s₀.heap s.heap
 loc:∃m,s.heap.Ns X.env.locals m∧∀(i:Nat) (x:Str) (v:V),X.N[i]? = some x→σ[i]? = some (some v)→Vis X.env.scope x→∃u,RelV v u∧Look X.env s.heap m x u
 cell:∀x c,X.env.cells.lookup x=some c→∃v,s.heap.IsCell c v
 free:H X.env.locals=none
 freeC:∀x c,X.env.cells.lookup x=some c→H c=none
 pin:∀p∈X.pn++pins,s.heap.get? p.1=some p.2∧H p.1=none∧p.1≠X.env.locals∧p.1∉X.fs∧∀v,p.2.data≠.cell v
 hok:HOk X.prog X.w H s.heap
 len:σ.length=X.N.length

section
variable {X:Cx}{pins:List (Addr×Obj)}{σ:List (Option V)}{H H':Hp}{s:Shared}{h':Heap}

theorem Cx.Ok.nofr (ok:X.Ok){b:Addr}{o:Obj}(e:X.base.get? b=some o):b∉X.fs:=fun hb=>by
 have:=(ok.funs.mem hb).1
 rw[e] at this;cases this
theorem Inv.bs (I:Inv X pins σ H s):∀b o,X.base.get? b=some o→s.heap.get? b=some o∧H b=none:=fun b o e=>
 ⟨I.base.keep b o (I.ok.bs b o e).1 (I.ok.bs b o e).2 (I.ok.nofr e) (I.ok.noex b o e),I.base.free b o (I.ok.bs b o e).1 (I.ok.bs b o e).2 (I.ok.noex b o e)⟩
theorem Inv.bk (I:Inv X pins σ H s):∀b o,X.base.get? b=some o→s.heap.get? b=some o:=fun b o e=>(I.bs b o e).1
theorem Inv.mod (I:Inv X pins σ H s):Mod X.K X.mg X.base:=I.ok.mod
theorem Inv.kIn (I:Inv X pins σ H s):X.K.In s.heap:=I.ok.mod.kin.keeps I.bk
theorem Inv.lt (I:Inv X pins σ H s):X.env.locals<s.heap.objs.size:=let ⟨_,hn,_⟩:=I.loc;hn.lt
theorem Inv.sz (I:Inv X pins σ H s):X.s₀.heap.objs.size≤s.heap.objs.size:=Nat.le_trans I.ok.above (Nat.le_of_lt I.lt)
theorem Inv.nofs (I:Inv X pins σ H s){a:Addr}(h:s.heap.objs.size≤a):a∉X.fs:=fun hb=>by
 obtain⟨_,o,ho,_⟩:=I.ok.funs.mem hb
 exact absurd (Nat.lt_of_lt_of_le (Heap.lt_size ho) (Nat.le_trans I.sz h)) (Nat.lt_irrefl _)
theorem Inv.cne (I:Inv X pins σ H s):∀x c,X.env.cells.lookup x=some c→c≠X.env.locals:=fun x c e z=>by
 obtain⟨v,o,ho,hd⟩:=I.cell x c e
 obtain⟨m,⟨o',es,ep,ho',hd',_⟩,_⟩:=I.loc
 rw[z,ho'] at ho;cases ho;rw[hd'] at hd;cases hd
theorem Inv.funs (I:Inv X pins σ H s):s.heap.FunFrames X.base X.outer:=by
 have all:∀(l:List Env),(∀b∈frs l,b∈X.fs)→X.s₀.heap.FunFrames X.base l→s.heap.FunFrames X.base l:=by
  intro l
  induction l with
  | nil=>intro _ _;trivial
  | cons env r ih=>
   intro hs hl
   obtain⟨hk,⟨L,o,hf,hn,ho,hd⟩,hr⟩:=hl
   have hL:L∈X.fs:=hs L (by unfold frs;rw[List.filterMap_cons,hf];exact List.mem_cons_self)
   obtain⟨sl,e⟩:=I.base.slot L o ho (I.ok.frf L hL) hL fun z=>I.ok.exfs L z hL
   exact⟨hk,⟨L,_,hf,hn,e,hd⟩,ih (fun b hb=>hs b (by unfold frs;rw[List.filterMap_cons,hf];exact List.mem_cons_of_mem _ hb)) hr⟩
 exact all X.outer (fun _ hb=>hb) I.ok.funs

theorem Inv.stack (I:Inv X pins σ H s):s.heap.FunFrames X.base X.stack:=by
 rcases I.ok.stk with e | ⟨e,hf⟩
 ·rw[e];exact I.funs
 ·rw[e]
  obtain⟨m,hn,_⟩:=I.loc
  refine .cons (by rw[I.ok.kind];decide) hf hn ?_ I.funs
  exact Heap.get?_none_of_le (Nat.le_trans I.ok.bsz I.ok.above)
theorem Inv.stkSub (I:Inv X pins σ H s):∀b∈frs X.stack,b∈X.env.locals::X.fs:=fun b hb=>by
 rcases I.ok.stk with e | ⟨e,hf⟩
 ·rw[e] at hb;exact List.mem_cons_of_mem _ hb
 ·rw[e] at hb
  unfold frs at hb
  rw[List.filterMap_cons,hf] at hb
  exact hb
theorem Inv.stkFree (I:Inv X pins σ H s):∀b∈frs X.stack,H b=none:=fun b hb=>by
 rcases List.mem_cons.mp (I.stkSub b hb) with e | hb
 ·rw[e];exact I.free
 ·obtain⟨_,o,ho,_⟩:=I.ok.funs.mem hb
  exact I.base.free b o ho (I.ok.frf b hb) fun z=>I.ok.exfs b z hb

theorem Inv.step {g':Array GenState}{t':Nat}{d':Drawn}{ch:List Addr}(I:Inv X pins σ H s)
  (hch:∀b∈ch,(b∈X.ex∨X.s₀.heap.objs.size≤b)∧b≠X.env.locals∧(∀x c,X.env.cells.lookup x=some c→c≠b)∧∀p∈X.pn++pins,p.1≠b)
  (keep:∀b o,b≠X.env.locals→b∉X.fs→b∉ch→s.heap.get? b=some o→H b=none→h'.get? b=some o)
  (slot:∀b o,b≠X.env.locals→b∈X.fs→b∉ch→s.heap.get? b=some o→H b=none→∃sl,h'.get? b=some { o with slots:=sl }) (free:∀b o,b∉ch→s.heap.get? b=some o→H b=none→H' b=none)
  (there:∀b o,b∉ch→s.heap.get? b=some o→∃o',h'.get? b=some o')
  (tups:∀b xs,H b=some (.tup xs)→H' b=some (.tup xs)) (frzs:∀b o u,H b=some (.frz o u)→H' b=some (.frz o u)) (tbls:∀b ps,H b=some (.tbl ps)→∃more,H' b=some (.tbl (ps++more)))
  (ns:∀m,s.heap.Ns X.env.locals m→h'.Ns X.env.locals m) (hok:HOk X.prog X.w H' h') (hg:AllBare g'):
  Inv X pins σ H' { s with heap:=h',gens:=g',drawn:=d',toks:=t' }:=by
 have neL:∀b o,X.s₀.heap.get? b=some o→b≠X.env.locals:=fun b o e=>Nat.ne_of_lt (Nat.lt_of_lt_of_le (Heap.lt_size e) I.ok.above)
 have neC:∀b o,X.s₀.heap.get? b=some o→b∉X.ex→b∉ch:=fun b o e hx hb=>by
  rcases(hch b hb).1 with z | z
  ·exact hx z
  ·exact absurd (Nat.lt_of_lt_of_le (Heap.lt_size e) z) (Nat.lt_irrefl _)
 have cellK:∀x c,X.env.cells.lookup x=some c→∀v,s.heap.IsCell c v→h'.IsCell c v:=fun x c e v ⟨o,ho,hd⟩=>by
  have nch:c∉ch:=fun z=>(hch c z).2.2.1 x c e rfl
  by_cases hc:c∈X.fs
  ·obtain⟨sl,q⟩:=slot c o (I.cne x c e) hc nch ho (I.freeC x c e)
   exact⟨_,q,hd⟩
  ·exact⟨o,keep c o (I.cne x c e) hc nch ho (I.freeC x c e),hd⟩
 refine⟨I.ok,I.os,hg,⟨fun b o e n hb hx=>?_,fun b o e n hb hx=>?_,fun b o e n hx=>?_,fun b o e hx=>?_,fun b xs e=>tups b xs (I.base.tups b xs e),fun b o xs e=>frzs b o xs (I.base.frzs b o xs e),fun b ps e=>?_⟩,?_,fun x c e=>?_,?_,fun x c e=>?_,fun p hp=>?_,hok,I.len⟩
 ·exact keep b o (neL b o e) hb (neC b o e hx) (I.base.keep b o e n hb hx) (I.base.free b o e n hx)
 ·obtain⟨sl,e1⟩:=I.base.slot b o e n hb hx
  obtain⟨sl',e2⟩:=slot b _ (neL b o e) hb (neC b o e hx) e1 (I.base.free b o e n hx)
  exact⟨sl',e2⟩
 ·obtain⟨o',e1⟩:=I.base.there b o e hx
  exact free b o' (neC b o e hx) e1 (I.base.free b o e n hx)
 ·obtain⟨o',e1⟩:=I.base.there b o e hx
  exact there b o' (neC b o e hx) e1
 ·obtain⟨m1,e1⟩:=I.base.tbls b ps e
  obtain⟨m2,e2⟩:=tbls b _ e1
  exact⟨m1++m2,by rw[e2,Array.append_assoc]⟩
 ·obtain⟨m,hn,hl⟩:=I.loc
  refine⟨m,ns m hn,fun i x v e1 e2 e3=>?_⟩
  obtain⟨u,r,l⟩:=hl i x v e1 e2 e3
  refine⟨u,r,?_⟩
  rcases l with l | ⟨k,c,e,z⟩
  ·exact .inl l
  ·exact .inr ⟨k,c,e,cellK x c e _ z⟩
 ·obtain⟨v,z⟩:=I.cell x c e
  exact⟨v,cellK x c e v z⟩
 ·obtain⟨m,⟨o,_,_,ho,_⟩,_⟩:=I.loc
  exact free _ o (fun z=>(hch _ z).2.1 rfl) ho I.free
 ·obtain⟨v,o,ho,hd⟩:=I.cell x c e
  exact free c o (fun z=>(hch c z).2.2.1 x c e rfl) ho (I.freeC x c e)
 ·obtain⟨e,n,ne,nf,d⟩:=I.pin p hp
  have nch:p.1∉ch:=fun z=>(hch p.1 z).2.2.2 p hp rfl
  exact⟨keep p.1 p.2 ne nf nch e n,free p.1 p.2 nch e n,ne,nf,d⟩
theorem Inv.un {t':Nat}(I:Inv X pins σ H s)(u:Un X.fs [] H H' s.heap h')(hok:HOk X.prog X.w H' h'):Inv X pins σ H' { s with heap:=h',toks:=t' }:=by
 obtain⟨m,⟨o,es,ep,ho,r⟩,_⟩:=id I.loc
 obtain⟨sl,hL⟩:=u.any ho I.free (by simp)
 exact I.step (g':=s.gens) (d':=s.drawn) (ch:=[]) (fun _ z=>nomatch z) (fun b o _ hb _ e n=>u.keep b o e n hb (by simp)) (fun b o _ hb _ e n=>u.slot b o e n hb (by simp)) (fun b o _ e n=>u.free b o e n (by simp)) (fun b o _ e=>u.there b o e (by simp)) u.tups u.frzs u.tbls (fun m' hm=>by
  obtain⟨o',es',ep',ho',r'⟩:=hm
  rw[ho] at ho';cases ho'
  exact⟨_,es',ep',hL,r'⟩) hok I.bare
theorem Inv.call {g':Array GenState}{t':Nat}{d':Drawn}{ch:List Addr}(I:Inv X pins σ H s)(u:Un (frs X.stack) ch H H' s.heap h')(hok:HOk X.prog X.w H' h')(hg:AllBare g')
  (hch:∀b∈ch,(b∈X.ex∨X.s₀.heap.objs.size≤b)∧b≠X.env.locals∧(∀x c,X.env.cells.lookup x=some c→c≠b)∧∀p∈X.pn++pins,p.1≠b):
  Inv X pins σ H' { s with heap:=h',gens:=g',drawn:=d',toks:=t' }:=by
 obtain⟨m,⟨o,es,ep,ho,r⟩,_⟩:=id I.loc
 obtain⟨sl,hL⟩:=u.any ho I.free fun z=>(hch _ z).2.1 rfl
 exact I.step (ch:=ch) hch (fun b o hL hb hc e n=>u.keep b o e n (fun z=>(List.mem_cons.mp (I.stkSub b z)).elim hL hb) hc) (fun b o _ _ hc e n=>u.any e n hc) (fun b o hc e n=>u.free b o e n hc) (fun b o hc e=>u.there b o e hc) u.tups u.frzs u.tbls (fun m' hm=>by
  obtain⟨o',es',ep',ho',r'⟩:=hm
  rw[ho] at ho';cases ho'
  exact⟨_,es',ep',hL,r'⟩) hok hg
theorem Inv.turned {t':Nat}{it:Addr}(I:Inv X pins σ H s)(k:∀b o,b≠it→s.heap.get? b=some o→h'.get? b=some o)(hn:H it=none)(hL:it≠X.env.locals)
  (h1:it∈X.ex∨X.s₀.heap.objs.size≤it) (h2:∀x c,X.env.cells.lookup x=some c→c≠it) (h3:∀p∈X.pn++pins,p.1≠it):Inv X pins σ H { s with heap:=h',toks:=t' }:=by
 have nit:∀b u,H b=some u→b≠it:=fun b u e z=>by rw[z,hn] at e;cases e
 refine I.step (g':=s.gens) (d':=s.drawn) (ch:=[it]) (fun b hb=>?_) (fun b o _ _ hc e _=>k b o (fun z=>hc (by simp[z])) e) (fun b o _ _ hc e _=>⟨o.slots,k b o (fun z=>hc (by simp[z])) e⟩) (fun _ _ _ _ n=>n)
  (fun b o hc e=>⟨o,k b o (fun z=>hc (by simp[z])) e⟩) (fun _ _ e=>e) (fun _ _ _ e=>e) (fun b ps e=>⟨#[],by rw[e];simp⟩) (fun m hm=>?_) (fun b u e=>?_) I.bare
 ·have e:b=it:=by simpa using hb
  subst e
  exact⟨h1,hL,h2,h3⟩
 ·obtain⟨o,es,ep,ho,r⟩:=hm
  exact⟨o,es,ep,k _ o (Ne.symm hL) ho,r⟩
 ·refine(I.hok b u e).stay (fun c v hc q=>k c v ?_ q) (fun _ q=>q) fun _ _ q=>q
  rcases hc with z | z
  ·rw[z];exact nit b u e
  ·exact nit c _ z
theorem Inv.tok (I:Inv X pins σ H s)(t:Nat):Inv X pins σ H { s with toks:=t }:=I.un (h':=s.heap) (t':=t) Un.refl I.hok
theorem Inv.kept {t':Nat}(I:Inv X pins σ H s)(k:∀b u,s.heap.get? b=some u→h'.get? b=some u):Inv X pins σ H { s with heap:=h',toks:=t' }:=I.un (Un.kept k) (I.hok.kept k)
theorem Inv.laid {a:Addr}{o:HO}{t':Nat}(I:Inv X pins σ H s)(k:∀b u,s.heap.get? b=some u→h'.get? b=some u)(hp:s.heap.objs.size≤a)(new:ObjOk X.prog X.w (upd H a o) h' a o):
  Inv X pins σ (upd H a o) { s with heap:=h',toks:=t' }:=I.un (Un.laid k hp (I.hok.fresh hp)) (I.hok.laid k hp new)
theorem Inv.write {x e:Addr}{o:HO}{t':Nat}(I:Inv X pins σ H s)(mu:Mut (H x))(he:e=x∨H e=some (.own x))(k:∀b u,b≠e→s.heap.get? b=some u→h'.get? b=some u)(heo:∃u,h'.get? e=some u)
  (new:ObjOk X.prog X.w (upd H x o) h' x o):Inv X pins σ (upd H x o) { s with heap:=h',toks:=t' }:=I.un (Un.write mu he k heo) (I.hok.write mu he k heo new)
theorem Inv.weak {σ':List (Option V)}(I:Inv X pins σ H s)(hl:σ'.length=σ.length)(w:∀(i:Nat) v,σ'[i]? = some (some v)→σ[i]? = some (some v)):Inv X pins σ' H s:=
 ⟨I.ok,I.os,I.bare,I.base,let ⟨m,hn,hl'⟩:=I.loc;⟨m,hn,fun i x v e1 e2 e3=>hl' i x v e1 (w i v e2) e3⟩,I.cell,I.free,I.freeC,I.pin,I.hok,hl.trans I.len⟩
theorem Inv.pins_of {pins':List (Addr×Obj)}(I:Inv X pins σ H s)(h:∀p∈pins',s.heap.get? p.1=some p.2∧H p.1=none∧p.1≠X.env.locals∧p.1∉X.fs∧∀v,p.2.data≠.cell v):Inv X pins' σ H s:=
 ⟨I.ok,I.os,I.bare,I.base,I.loc,I.cell,I.free,I.freeC,fun p hp=>(List.mem_append.mp hp).elim (fun z=>I.pin p (List.mem_append_left _ z)) (h p),I.hok,I.len⟩

theorem qYc {N:List Str}(hN:N.Nodup){i j:Nat}{x:Str}(a:N[i]? = some x)(b:N[j]? = some x):i=j:=by
 obtain⟨h1,e1⟩:=List.getElem?_eq_some_iff.mp a
 obtain⟨h2,e2⟩:=List.getElem?_eq_some_iff.mp b
 exact(List.getElem_inj hN).mp (e1.trans e2.symm)

theorem qKx {M:Model}{A:Around}{E:Value→Shared→Prop}{i:Nat}{x:Str}{v:V}{u:Value}{Q:Unit→Shared→Prop}(I:Inv X pins σ H s)(hN:X.N.Nodup)(hi:X.N[i]? = some x)(hx:Loc X.env.scope x)(r:RelV v u)
  (h:∀s',Inv X pins (σ.set i (some v)) H s'→(∃a,Heap.SameBut a s.heap s'.heap∧(a=X.env.locals∨X.env.cells.lookup x=some a))→Q () s') (hf:X.fn x=true∨X.env.scope.names.lookup x=some .local:=by first | exact .inl rfl | exact .inr rfl | assumption):wpAny M A (storeName X.env x u) Q E s:=by
 obtain⟨m,hn,hl⟩:=id I.loc
 have hcls:(X.env.scope.kind == .class || (X.env.scope.kind == .module && X.env.locals != X.env.globals))=false:=by rw[I.ok.kind];rfl
 have hiσ:i<σ.length:=by rw[I.len];exact(List.getElem?_eq_some_iff.mp hi).1
 have cne:=I.cne
 have tracked:∀{a:Addr} {h':Heap},(∃o,s.heap.get? a=some o∧H a=none)→Heap.SameBut a s.heap h'→HOk X.prog X.w H h':=fun{a h'} ha hs b ob e=>by
  obtain⟨_,_,hfree⟩:=ha
  refine(I.hok b ob e).stay (fun c w' hc q=>(hs.2 c ?_).trans q) (fun _ q=>q) fun _ _ q=>q
  rintro rfl
  rcases hc with rfl | hc
  ·rw[hfree] at e;cases e
  ·rw[hfree] at hc;cases hc
 rcases hx with hk | hk
 ·refine wpAny_storeName_local hk hn (fun h' hn' hs=>?_) hcls
  obtain⟨oL,_,_,hoL,_⟩:=id hn
  refine h _ ⟨I.ok,I.os,I.bare,⟨fun b o e n hb hx=>?_,fun b o e n hb hx=>?_,I.base.free,fun b o e hx=>?_,I.base.tups,I.base.frzs,I.base.tbls⟩,⟨_,hn',fun j y v' e1 e2 e3=>?_⟩,fun y c e=>?_,I.free,I.freeC,fun p hp=>?_,tracked ⟨oL,hoL,I.free⟩ hs,by simpa using I.len⟩ ⟨_,hs,.inl rfl⟩
  ·exact(hs.2 b (Nat.ne_of_lt (Nat.lt_of_lt_of_le (Heap.lt_size e) I.ok.above))).trans (I.base.keep b o e n hb hx)
  ·obtain⟨sl,e1⟩:=I.base.slot b o e n hb hx
   exact⟨sl,(hs.2 b (Nat.ne_of_lt (Nat.lt_of_lt_of_le (Heap.lt_size e) I.ok.above))).trans e1⟩
  ·obtain⟨o',e1⟩:=I.base.there b o e hx
   exact⟨o',(hs.2 b (Nat.ne_of_lt (Nat.lt_of_lt_of_le (Heap.lt_size e) I.ok.above))).trans e1⟩
  ·by_cases hj:j=i
   ·subst hj
    rw[hi] at e1;cases e1
    rw[List.getElem?_set_self hiσ] at e2
    cases e2
    exact⟨u,r,.inl ⟨hk,by simp⟩⟩
   ·rw[List.getElem?_set_ne (Ne.symm hj)] at e2
    obtain⟨u',r',q⟩:=hl j y v' e1 e2 e3
    refine⟨u',r',?_⟩
    rcases q with⟨k,e⟩ | ⟨k,c,e,z⟩
    ·refine .inl ⟨k,?_⟩
     have:y≠x:=fun e=>hj (qYc hN e1 (e▸hi))
     simp[this,e]
    ·exact .inr ⟨k,c,e,z.sameBut hs (cne y c e)⟩
  ·obtain⟨w',z⟩:=I.cell y c e
   exact⟨w',z.sameBut hs (cne y c e)⟩
  ·obtain⟨e,n,ne,nf,d⟩:=I.pin p hp
   exact⟨(hs.2 p.1 ne).trans e,n,ne,nf,d⟩
 ·have hfn:X.fn x=true:=by
   rcases hf with z | z
   ·exact z
   ·rw[z] at hk;cases hk
  obtain⟨c,hc⟩:=I.ok.has x (.inl hk)
  obtain⟨w',z⟩:=I.cell x c hc
  refine wpAny_storeName_cell I.ok.kind hk hc z (fun h' hc' hs=>?_)
  obtain⟨oc,hoc,hocd⟩:=id z
  refine h { s with heap:=h' } ⟨I.ok,I.os,I.bare,⟨fun b o e n hb hx=>?_,fun b o e n hb hx=>?_,I.base.free,fun b o e hx=>?_,I.base.tups,I.base.frzs,I.base.tbls⟩,⟨m,hn.sameBut hs (Ne.symm (cne x c hc)),fun j y v' e1 e2 e3=>?_⟩,fun y c' e=>?_,I.free,I.freeC,fun p hp=>?_,tracked ⟨oc,hoc,I.freeC x c hc⟩ hs,by simpa using I.len⟩ ⟨c,hs,.inr hc⟩
  ·exact(hs.2 b (Nat.ne_of_lt (Nat.lt_of_lt_of_le (Heap.lt_size e) (I.ok.cab x c hfn hc)))).trans (I.base.keep b o e n hb hx)
  ·obtain⟨sl,e1⟩:=I.base.slot b o e n hb hx
   exact⟨sl,(hs.2 b (Nat.ne_of_lt (Nat.lt_of_lt_of_le (Heap.lt_size e) (I.ok.cab x c hfn hc)))).trans e1⟩
  ·obtain⟨o',e1⟩:=I.base.there b o e hx
   exact⟨o',(hs.2 b (Nat.ne_of_lt (Nat.lt_of_lt_of_le (Heap.lt_size e) (I.ok.cab x c hfn hc)))).trans e1⟩
  ·by_cases hj:j=i
   ·subst hj
    rw[hi] at e1;cases e1
    rw[List.getElem?_set_self hiσ] at e2
    cases e2
    exact⟨u,r,.inr ⟨.inl hk,c,hc,hc'⟩⟩
   ·rw[List.getElem?_set_ne (Ne.symm hj)] at e2
    obtain⟨u',r',q⟩:=hl j y v' e1 e2 e3
    refine⟨u',r',?_⟩
    rcases q with q | ⟨k,c',e,z'⟩
    ·exact .inl q
    ·refine .inr ⟨k,c',e,z'.sameBut hs ?_⟩
     rintro rfl
     exact hj (qYc hN e1 (I.ok.inj _ _ _ e hc▸hi))
  ·by_cases hcc:c'=c
   ·subst hcc;exact⟨_,hc'⟩
   ·obtain⟨w2,z2⟩:=I.cell y c' e
    exact⟨w2,z2.sameBut hs hcc⟩
  ·obtain⟨e,n,ne,nf,d⟩:=I.pin p hp
   refine⟨(hs.2 p.1 ?_).trans e,n,ne,nf,d⟩
   intro q
   rw[q,hoc] at e
   have q':oc=p.2:=Option.some.inj e
   exact d w' (by rw[← q'];exact hocd)
theorem qQg {M:Model}{A:Around}{E:Value→Shared→Prop}{i:Nat}{x:Str}{v:V}{u:Value}{Q:Unit→Shared→Prop}(I:Inv X pins σ H s)(hN:X.N.Nodup)(hi:X.N[i]? = some x)(hx:Loc X.env.scope x)(r:RelV v u)
  (h:∀s',Inv X pins (σ.set i (some v)) H s'→Q () s') (hf:X.fn x=true∨X.env.scope.names.lookup x=some .local:=by first | exact .inl rfl | exact .inr rfl | assumption):wpAny M A (storeName X.env x u) Q E s:=
 qKx I hN hi hx r (fun s' I' _=>h s' I') hf
theorem Inv.call' {s':Shared}{ch:List Addr}(I:Inv X pins σ H s)(ho:s'.os=s.os)(u:Un (frs X.stack) ch H H' s.heap s'.heap)(hok:HOk X.prog X.w H' s'.heap)(hg:AllBare s'.gens)
  (hch:∀b∈ch,(b∈X.ex∨X.s₀.heap.objs.size≤b)∧b≠X.env.locals∧(∀x c,X.env.cells.lookup x=some c→c≠b)∧∀p∈X.pn++pins,p.1≠b):Inv X pins σ H' s':=by
 obtain⟨h',g',d',t',o'⟩:=s'
 have e:o'=s.os:=ho
 subst e
 exact I.call (g':=g') (t':=t') (d':=d') u hok hg hch
end

noncomputable abbrev XK:=Value→Option Addr→Hp→Prop
noncomputable abbrev St:=List (Option V)
noncomputable abbrev VK:=V→Hp→Prop
noncomputable abbrev TE:=St→Hp→VK→Prop
noncomputable abbrev TT:=St→Hp→(Bool→Hp→Prop)→Prop
noncomputable abbrev TA:=St→Hp→(List V→Hp→Prop)→Prop
structure Ends where
 nx:St→Hp→Prop
 rt:VK
 bk:St→Hp→Prop:=fun _ _=>False
 ct:St→Hp→Prop:=fun _ _=>False
noncomputable abbrev TS:=Ends→St→Hp→Prop

noncomputable def EP (X:Cx)(pins:List (Addr×Obj))(σ:St)(Q:VK)(u:Value)(s':Shared):Prop:=∃v H',Inv X pins σ H' s'∧RelV v u∧Q v H'
noncomputable def TP (X:Cx)(pins:List (Addr×Obj))(σ:St)(Q:Bool→Hp→Prop)(b:Bool)(s':Shared):Prop:=∃H',Inv X pins σ H' s'∧Q b H'
noncomputable def AP (X:Cx)(pins:List (Addr×Obj))(σ:St)(Q:List V→Hp→Prop)(us:List Value)(s':Shared):Prop:=∃vs H',Inv X pins σ H' s'∧Vals vs us∧Q vs H'
noncomputable def SP (X:Cx)(pins:List (Addr×Obj))(D:Ends)(f:Flow)(s':Shared):Prop:=
 match f with
 | .next=>∃σ' H',Inv X pins σ' H' s'∧D.nx σ' H'
 | .brk=>∃σ' H',Inv X pins σ' H' s'∧D.bk σ' H'
 | .cont=>∃σ' H',Inv X pins σ' H' s'∧D.ct σ' H'
 | .ret u=>∃v σ' H',Inv X pins σ' H' s'∧RelV v u∧D.rt v H'

noncomputable def PE (X:Cx)(e:Expr)(t:TE):Prop:=
 ∀(pins:List (Addr×Obj)) (s:Shared) (σ:St) (H:Hp) (Q:VK),Inv X pins σ H s→t σ H Q→wpAny (model X.prog X.w) X.A (eval e X.env) (EP X pins σ Q) X.xe s
noncomputable def PT (X:Cx)(e:Expr)(t:TT):Prop:=
 ∀(pins:List (Addr×Obj)) (s:Shared) (σ:St) (H:Hp) (Q:Bool→Hp→Prop),Inv X pins σ H s→t σ H Q→wpAny (model X.prog X.w) X.A (isTrue e X.env (eval e X.env)) (TP X pins σ Q) X.xe s
noncomputable def PW (X:Cx)(e:Expr)(t:TT):Prop:=
 ∀(whole:Sem Value) (pins:List (Addr×Obj)) (s:Shared) (σ:St) (H:Hp) (Q:Bool→Hp→Prop),Inv X pins σ H s→t σ H Q→wpAny (model X.prog X.w) X.A (isTrue e X.env whole) (TP X pins σ Q) X.xe s
theorem PW.pt {X:Cx}{e:Expr}{t:TT}(h:PW X e t):PT X e t:=h _
noncomputable def PA (X:Cx)(es:List Expr)(t:TA):Prop:=
 ∀(pos:Pos) (pins:List (Addr×Obj)) (s:Shared) (σ:St) (H:Hp) (Q:List V→Hp→Prop),Inv X pins σ H s→t σ H Q→wpAny (model X.prog X.w) X.A (spliced (backTo pos (starEach es X.env))) (AP X pins σ Q) X.xe s
noncomputable def PS (X:Cx)(st:Stmt)(t:TS):Prop:=
 ∀(pins:List (Addr×Obj)) (s:Shared) (σ:St) (H:Hp) (D:Ends),Inv X pins σ H s→t D σ H→wpAny (model X.prog X.w) X.A (exec st X.env) (SP X pins D) X.xe s
noncomputable def PSs (X:Cx)(st:List Stmt)(t:TS):Prop:=
 ∀(pins:List (Addr×Obj)) (s:Shared) (σ:St) (H:Hp) (D:Ends),Inv X pins σ H s→t D σ H→wpAny (model X.prog X.w) X.A (execs st X.env) (SP X pins D) X.xe s
theorem thn {α:Type}{t:Sem α}{Q Q':α→Shared→Prop}{M:Model}{A:Around}{E:Value→Shared→Prop}{s:Shared}(h:wpAny M A t Q E s)(hQ:∀a s,Q a s→Q' a s):wpAny M A t Q' E s:=wpAny_mono h hQ fun _ _ x=>x
end L2

namespace L2
open PySem PySem.Spec PyProof.Rows
section
variable {X:Cx}

noncomputable def tVar (i:Nat):TE:=fun σ H Q=>∃v,σ[i]? = some (some v)∧Q v H
noncomputable def tC (v:V):TE:=fun _ H Q=>Q v H
theorem qSm {i:Nat}{x:Str}{pos:Pos}(hN:X.N[i]? = some x)(hv:Vis X.env.scope x)(hd:(x == ("__debug__" : Str))=false:=by decide)(hcd:(x == ("__classdict__" : Str))=false:=by decide):PE X (.Name x pos) (tVar i):=by
 intro pins s σ H Q I h
 obtain⟨v,e,h⟩:=h
 obtain⟨m,hn,hl⟩:=I.loc
 obtain⟨u,r,l⟩:=hl i x v hN e hv
 have fin:EP X pins σ Q u s:=⟨v,H,I,r,h⟩
 rcases l with⟨hk,hm⟩ | ⟨hk,c,hc,hcell⟩
 ·exact wpAny_Name (wpAny_loadName_local I.ok.kind hk hn hm fin) hd
 ·rcases hk with hk | hk
  ·exact wpAny_Name (wpAny_loadName_cell I.ok.kind hk hc hcell fin) hd
  ·exact wpAny_Name (wpAny_loadName_free I.ok.kind hk hc hcell fin hcd) hd
theorem qF {i j pos}:PE X (.Constant (.int i) j pos) (tC (.int i)):=fun _ _ _ H _ I h=>wpAny_Constant_int ⟨.int i,H,I.tok _,⟨_,rfl⟩,h⟩
theorem qKg {b j pos}:PE X (.Constant (.bool b) j pos) (tC (.bl b)):=fun _ _ _ H _ I h=>Constant_bool ⟨.bl b,H,I,rfl,h⟩
theorem qG {x j pos}:PE X (.Constant (.str x) j pos) (tC (.str x)):=fun _ _ _ H _ I h=>Calls.Constant_str ⟨.str x,H,I.tok _,⟨_,rfl⟩,h⟩

noncomputable def Gl (X:Cx)(x:Str):Prop:=X.env.kindOf x=some .globalImplicit
theorem qZj {E:Value→Shared→Prop}{pins:List (Addr×Obj)}{s:Shared}{σ:St}{H:Hp}{x:Str}{u:Value}{pos:Pos}{Q:Value→Shared→Prop}(I:Inv X pins σ H s)(hg:Gl X x)(hm:X.mg x=some u)(h:Q u s)
  (hd:(x == ("__debug__" : Str))=false:=by decide):wpAny (model X.prog X.w) X.A (eval (.Name x pos) X.env) Q E s:=
 Calls.Name_function_global I.ok.kind hg (Calls.loadGlobal_global (by rw[I.ok.glob];exact I.mod.glob.keeps I.bk) hm h) hd
theorem qZk {E:Value→Shared→Prop}{pins:List (Addr×Obj)}{s:Shared}{σ:St}{H:Hp}{x:Str}{u:Value}{pos:Pos}{Q:Value→Shared→Prop}(I:Inv X pins σ H s)(hg:Gl X x)(hm:X.mg x=none)(hv:bootBuiltins x=some u)(h:Q u s)
  (hn:x ≠ "__name__" := by decide) (hd:(x == ("__debug__" : Str))=false:=by decide):wpAny (model X.prog X.w) X.A (eval (.Name x pos) X.env) Q E s:=by
 obtain⟨mb,h1,h2⟩:=I.mod.blt
 exact Calls.Name_function_global I.ok.kind hg (Calls.loadGlobal_builtin (by rw[I.ok.glob];exact I.mod.glob.keeps I.bk) hm (by rw[I.ok.blt];exact h1.keeps I.bk) ((h2 x hn).trans hv) h) hd
theorem qWh {x:Str}{v:V}{u:Value}{pos:Pos}(hg:Gl X x)(hm:X.mg x=some u)(r:RelV v u)(hd:(x == ("__debug__" : Str))=false:=by decide):PE X (.Name x pos) (tC v):=
 fun _ _ _ H _ I h=>qZj I hg hm ⟨v,H,I,r,h⟩ hd
theorem qPc {x:Str}{v:V}{u:Value}{pos:Pos}(hg:Gl X x)(hm:X.mg x=none)(hv:bootBuiltins x=some u)(r:RelV v u)(hn:x ≠ "__name__" := by decide)(hd:(x == ("__debug__" : Str))=false:=by decide):PE X (.Name x pos) (tC v):=
 fun _ _ _ H _ I h=>qZk I hg hm hv ⟨v,H,I,r,h⟩ hn hd

variable {a b:Expr}{ta tb:TE}{pos:Pos}
noncomputable def tB (t:TE):TT:=fun σ H Q=>t σ H fun x H1=>∃c,x=.bl c∧Q c H1
theorem qKf {e:Expr}{t:TE}(h:PE X e t)(he:∀whole,isTrue e X.env whole=(do let v ← whole;standAt e.pos;holding [v] (truthy v)):=by intro _;rfl):PT X e (tB t):=by
 intro pins s σ H Q I hw
 refine isTrue_plain (thn (h pins s σ H _ I hw) fun v s1 ⟨x,H1,I1,r1,q1⟩=>?_) (he _)
 obtain⟨d,rfl,q⟩:=q1
 cases r1
 exact wpAny_truthy_bool ⟨H1,I1,q⟩

variable {tA tB':TT}{rest:List Expr}
noncomputable def tAnd (t u:TT):TT:=fun σ H Q=>t σ H fun c H1=>if c=true then u σ H1 Q else Q false H1
noncomputable def tOr (t u:TT):TT:=fun σ H Q=>t σ H fun c H1=>if c=true then Q true H1 else u σ H1 Q
noncomputable def tNot (t:TT):TT:=fun σ H Q=>t σ H fun c H1=>Q (!c) H1
theorem qXe (ha:PT X a tA):PW X (.BoolOp .And [a] pos) tA:=by
 intro wh pins s σ H Q I h
 refine isTrue_and (thn (ha pins s σ H Q I h) fun c s1 e=>?_)
 cases c with
 | true=>exact isTrue_and_nil e
 | false=>exact e
theorem qJj (ha:PT X a tA):PW X (.BoolOp .Or [a] pos) tA:=by
 intro wh pins s σ H Q I h
 refine isTrue_or (thn (ha pins s σ H Q I h) fun c s1 e=>?_)
 cases c with
 | false=>exact isTrue_or_nil e
 | true=>exact e
theorem qKe (ha:PT X a tA)(hb:PW X (.BoolOp .And (b::rest) pos) tB'):PW X (.BoolOp .And (a::b::rest) pos) (tAnd tA tB'):=by
 intro wh pins s σ H Q I h
 refine isTrue_and (thn (ha pins s σ H _ I h) fun c s1 ⟨H1,I1,q1⟩=>?_)
 cases c with
 | true=>exact hb wh pins s1 σ H1 Q I1 q1
 | false=>exact⟨H1,I1,q1⟩
theorem qWg (ha:PT X a tA)(hb:PW X (.BoolOp .Or (b::rest) pos) tB'):PW X (.BoolOp .Or (a::b::rest) pos) (tOr tA tB'):=by
 intro wh pins s σ H Q I h
 refine isTrue_or (thn (ha pins s σ H _ I h) fun c s1 ⟨H1,I1,q1⟩=>?_)
 cases c with
 | true=>exact⟨H1,I1,q1⟩
 | false=>exact hb wh pins s1 σ H1 Q I1 q1
theorem qFc (ha:PT X a tA):PT X (.UnaryOp .Not a pos) (tNot tA):=by
 intro pins s σ H Q I h
 exact isTrue_not (ha pins s σ H (fun c H1=>Q (!c) H1) I h)
noncomputable def tAndV (ta tb:TE):TE:=fun σ H Q=>ta σ H fun x H1=>∃c,x=.bl c∧if c=true then tb σ H1 Q else Q (.bl false) H1
noncomputable def tNotV (ta:TE):TE:=fun σ H Q=>ta σ H fun x H1=>∃c,x=.bl c∧Q (.bl (!c)) H1
theorem qFg {op}{t:TE}(h:PE X a t):PE X (.BoolOp op [a] pos) t:=fun pins s σ H Q I hw=>BoolOp_one (h pins s σ H Q I hw)
theorem qFl (ha:PE X a ta)(hb:PE X (.BoolOp .And (b::rest) pos) tb):PE X (.BoolOp .And (a::b::rest) pos) (tAndV ta tb):=by
 intro pins s σ H Q I h
 refine BoolOp_and (thn (ha pins s σ H _ I h) fun v s1 ⟨x,H1,I1,r1,q1⟩=>?_)
 obtain⟨c,rfl,q1⟩:=q1
 cases r1
 refine wpAny_truthy_bool ?_
 cases c with
 | true=>exact hb pins s1 σ H1 Q I1 q1
 | false=>exact⟨.bl false,H1,I1,rfl,q1⟩
theorem qFh (ha:PE X a ta):PE X (.UnaryOp .Not a pos) (tNotV ta):=by
 intro pins s σ H Q I h
 refine UnaryOp_ (thn (ha pins s σ H _ I h) fun v s1 ⟨x,H1,I1,r1,q1⟩=>?_)
 obtain⟨c,rfl,q1⟩:=q1
 cases r1
 exact not_of (wpAny_truthy_bool ⟨.bl (!c),H1,I1,rfl,q1⟩)
noncomputable def tIf (t:TT)(ta tb:TE):TE:=fun σ H Q=>t σ H fun c H1=>if c=true then ta σ H1 Q else tb σ H1 Q
theorem qBa {c:Expr}(hc:PT X c tA)(ha:PE X a ta)(hb:PE X b tb):PE X (.IfExp c a b pos) (tIf tA ta tb):=by
 intro pins s σ H Q I h
 refine wpAny_IfExp (thn (hc pins s σ H _ I h) fun d s1 ⟨H1,I1,q1⟩=>?_)
 cases d with
 | true=>exact ha pins s1 σ H1 Q I1 q1
 | false=>exact hb pins s1 σ H1 Q I1 q1
end
end L2

namespace L2
open PySem PySem.Spec PyProof.Rows

noncomputable def SqL (K:PySem.W.Frag)(H:Hp)(a:Addr)(xs:List V):Prop:=
 Rd H a (.lst xs)∨
  ∃(o:Obj) (its:Array Value) (n:Nat),K.lookup a=some o∧o.cls=.type "list" ∧ o.dict=none∧o.data=.seq its n∧its.size≤sizeLine∧Vals xs its.toList
noncomputable def SqT (K:PySem.W.Frag)(H:Hp)(a:Addr)(xs:List V):Prop:=
 Rd H a (.tup xs)∨
  ∃(o:Obj) (its:Array Value) (n:Nat),K.lookup a=some o∧o.cls=.type "tuple" ∧ o.data=.seq its n∧its.size≤sizeLine∧Vals xs its.toList
noncomputable def absV:Value→Option V
 | .none=>some .non
 | .bool b=>some (.bl b)
 | .int i _=>some (.int i)
 | .str x _=>some (.str x)
 | .bytes b _=>some (.byt b)
 | .float b _=>some (.flt b)
 | .ref a=>some (.ref a)
 | .type n=>some (.ty n)
 | _=>none
theorem RelV.abs {x:V}{u:Value}(r:RelV x u):absV u=some x:=by
 cases x with
 | non=>cases r;rfl
 | bl _=>cases r;rfl
 | int _=>obtain⟨t,rfl⟩:=r;rfl
 | str _=>obtain⟨t,rfl⟩:=r;rfl
 | byt _=>obtain⟨t,rfl⟩:=r;rfl
 | flt _=>obtain⟨t,rfl⟩:=r;rfl
 | ref _=>cases r;rfl
 | ty _=>cases r;rfl
theorem RelV.inj {x y:V}{u:Value}(r:RelV x u)(q:RelV y u):x=y:=Option.some.inj (r.abs.symm.trans q.abs)
theorem Vals.inj {xs ys:List V}{us:List Value}(h:Vals xs us)(h':Vals ys us):xs=ys:=by
 induction h generalizing ys with
 | nil=>cases h';rfl
 | cons r _ ih=>
  cases h' with
  | cons r' t'=>rw[r.inj r',ih t']
section
variable {X:Cx}{pins:List (Addr×Obj)}{σ:St}{H:Hp}{s:Shared}{a:Addr}{xs ys:List V}
theorem SqL.of {K:PySem.W.Frag}(h:H a=some (.lst xs)):SqL K H a xs:=.inl (.inl h)
theorem SqT.of {K:PySem.W.Frag}(h:H a=some (.tup xs)):SqT K H a xs:=.inl (.inl h)
theorem Inv.list (I:Inv X pins σ H s)(h:SqL X.K H a xs):∃its:List Value,Vals xs its∧PlainL s.heap a its.toArray∧xs.length≤sizeLine:=by
 rcases h with h | ⟨o,its,n,hk,hc,hd,hs,hz,r⟩
 ·obtain⟨z,its,n,r,e⟩:=h.ok I.hok
  exact⟨its,r,⟨_,n,e,rfl,rfl,rfl⟩,z⟩
 ·refine⟨its.toList,r,⟨o,n,I.kIn a o hk,hc,hd,by simpa using hs⟩,?_⟩
  have e:=r.length
  simp only[Array.length_toList] at e
  omega
theorem Inv.tuple (I:Inv X pins σ H s)(h:SqT X.K H a xs):∃its:List Value,Vals xs its∧IsTup s.heap a its.toArray∧xs.length≤sizeLine:=by
 rcases h with h | ⟨o,its,n,hk,hc,hs,hz,r⟩
 ·obtain⟨z,its,r,p⟩:=h.ok I.hok
  exact⟨its,r,p.tup,z⟩
 ·refine⟨its.toList,r,⟨o,I.kIn a o hk,hc,n,by simpa using hs⟩,?_⟩
  have e:=r.length
  simp only[Array.length_toList] at e
  omega
theorem Inv.list_inj (I:Inv X pins σ H s)(h:SqL X.K H a xs)(h':SqL X.K H a ys):xs=ys:=by
 obtain⟨its,r,⟨o,n,e,_,_,d⟩,_⟩:=I.list h
 obtain⟨its',r',⟨o',n',e',_,_,d'⟩,_⟩:=I.list h'
 rw[e] at e';cases e'
 rw[d] at d'
 injection d' with d1 _
 have:its=its':=by simpa using congrArg Array.toList d1
 subst this
 exact r.inj r'
theorem Inv.tuple_inj (I:Inv X pins σ H s)(h:SqT X.K H a xs)(h':SqT X.K H a ys):xs=ys:=by
 obtain⟨its,r,⟨o,e,_,n,d⟩,_⟩:=I.tuple h
 obtain⟨its',r',⟨o',e',_,n',d'⟩,_⟩:=I.tuple h'
 rw[e] at e';cases e'
 rw[d] at d'
 injection d' with d1 _
 have:its=its':=by simpa using congrArg Array.toList d1
 subst this
 exact r.inj r'
end

noncomputable abbrev Cx.wish (X:Cx)(E:Value→Shared→Prop):Cx:={ X with xe:=E }
noncomputable abbrev Cx.nox (X:Cx):Cx:=X.wish fun _ _=>False
theorem Cx.Ok.wish {X:Cx}(ok:X.Ok)(E:Value→Shared→Prop):(X.wish E).Ok:=
 ⟨ok.mod,ok.kind,ok.glob,ok.blt,ok.above,ok.inj,ok.has,ok.cab,ok.hd,ok.frames,ok.stk,ok.exf,ok.bs,ok.bsz,ok.noex,ok.exfs,ok.funs,ok.frf⟩
theorem Cx.Ok.unwish {X:Cx}{E:Value→Shared→Prop}(ok:(X.wish E).Ok):X.Ok:=
 ⟨ok.mod,ok.kind,ok.glob,ok.blt,ok.above,ok.inj,ok.has,ok.cab,ok.hd,ok.frames,ok.stk,ok.exf,ok.bs,ok.bsz,ok.noex,ok.exfs,ok.funs,ok.frf⟩
section
variable {X:Cx}{pins:List (Addr×Obj)}{σ:St}{H:Hp}{s:Shared}{E:Value→Shared→Prop}
theorem Inv.wish (I:Inv X pins σ H s)(E:Value→Shared→Prop):Inv (X.wish E) pins σ H s:=⟨I.ok.wish E,I.os,I.bare,I.base,I.loc,I.cell,I.free,I.freeC,I.pin,I.hok,I.len⟩
theorem Inv.unwish (I:Inv (X.wish E) pins σ H s):Inv X pins σ H s:=⟨I.ok.unwish,I.os,I.bare,I.base,I.loc,I.cell,I.free,I.freeC,I.pin,I.hok,I.len⟩
theorem SP.unwish {D:Ends}{f:Flow}{s':Shared}(h:SP (X.wish E) pins D f s'):SP X pins D f s':=by
 cases f with
 | next=>obtain⟨σ',H',I,q⟩:=h;exact⟨σ',H',I.unwish,q⟩
 | brk=>obtain⟨σ',H',I,q⟩:=h;exact⟨σ',H',I.unwish,q⟩
 | cont=>obtain⟨σ',H',I,q⟩:=h;exact⟨σ',H',I.unwish,q⟩
 | ret u=>obtain⟨v,σ',H',I,r,q⟩:=h;exact⟨v,σ',H',I.unwish,r,q⟩
theorem PSs.nox {st:List Stmt}{t:TS}(h:PSs X.nox st t):PSs X st t:=fun pins s σ H D I hw=>
 wpAny_mono (h pins s σ H D (I.wish _) hw) (fun _ _ q=>q.unwish) fun _ _ z=>False.elim z
end

section
variable {X:Cx}{st:Stmt}{rest:List Stmt}{t u:TS}{e:Expr}{te:TE}{pos:Pos}
noncomputable def tNext:TS:=fun D σ H=>D.nx σ H
noncomputable def tSeq (t u:TS):TS:=fun D σ H=>t { D with nx:=u D } σ H
theorem qY:PSs X [] tNext:=fun _ _ σ H _ I h=>wpAny_execs_nil ⟨σ,H,I,h⟩
theorem qZ (h1:PS X st t)(h2:PSs X rest u):PSs X (st::rest) (tSeq t u):=by
 intro pins s σ H D I h
 refine wpAny_execs_cons (thn (h1 pins s σ H { D with nx:=u D } I h) fun f s1 q=>?_)
 cases f with
 | next=>
  obtain⟨σ',H',I',q⟩:=q
  exact h2 pins s1 σ' H' D I' q
 | ret v=>exact q
 | brk=>exact q
 | cont=>exact q
theorem qJ (h1:PS X st t):PSs X [st] t:=by
 intro pins s σ H D I h
 refine wpAny_execs_cons (thn (h1 pins s σ H D I h) fun f s1 q=>?_)
 cases f with
 | next=>exact wpAny_execs_nil q
 | ret v=>exact q
 | brk=>exact q
 | cont=>exact q
theorem Inv.quiet {pins:List (Addr×Obj)}{σ:St}{H:Hp}{s:Shared}(I:Inv X pins σ H s):interactive X.env=false:=by simp[interactive,I.ok.kind]
noncomputable def tDrop (te:TE):TS:=fun D σ H=>te σ H fun _ H1=>D.nx σ H1
theorem qR (he:PE X e te)(hs:swapsWith e none pos.line X.env=pure false:=by rfl):PS X (.Expr e pos) (tDrop te):=by
 intro pins s σ H D I h
 exact wpAny_Expr_any (thn (he pins s σ H _ I h) fun v s1 ⟨x,H1,I1,r1,q1⟩=>⟨σ,H1,I1,q1⟩) I.quiet hs
noncomputable def tRet (te:TE):TS:=fun D σ H=>te σ H D.rt
theorem qO (he:PE X e te):PS X (.Return (some e) pos) (tRet te):=by
 intro pins s σ H D I h
 exact wpAny_Return_some (thn (he pins s σ H _ I h) fun v s1 ⟨x,H1,I1,r1,q1⟩=>⟨x,σ,H1,I1,r1,q1⟩)
noncomputable def tRetN:TS:=fun D _ H=>D.rt .non H
theorem qPj:PS X (.Return none pos) tRetN:=fun _ _ σ H _ I h=>wpAny_Return_none ⟨.non,σ,H,I,rfl,h⟩
noncomputable def tIfS (c:TT)(t u:TS):TS:=fun D σ H=>c σ H fun b H1=>if b=true then t D σ H1 else u D σ H1
theorem zK {c:Expr}{a b:List Stmt}{tc:TT}(hc:PT X c tc)(ha:PSs X a t)(hb:PSs X b u):PS X (.If c a b pos) (tIfS tc t u):=by
 intro pins s σ H D I h
 refine wpAny_If (thn (hc pins s σ H _ I h) fun d s1 ⟨H1,I1,q1⟩=>?_)
 cases d with
 | true=>exact ha pins s1 σ H1 D I1 q1
 | false=>exact hb pins s1 σ H1 D I1 q1
end

noncomputable abbrev TG:=V→St→Hp→(St→Hp→Prop)→Prop
noncomputable abbrev TGs:=List V→St→Hp→(St→Hp→Prop)→Prop
noncomputable def PG (X:Cx)(target:Expr)(t:TG):Prop:=
 ∀(pins:List (Addr×Obj)) (s:Shared) (σ:St) (H:Hp) (v:V) (u:Value) (Q:St→Hp→Prop),Inv X pins σ H s→RelV v u→t v σ H Q→
  wpAny (model X.prog X.w) X.A (assign target X.env u) (fun _ s'=>∃σ' H',Inv X pins σ' H' s'∧Q σ' H') X.xe s
noncomputable def PGs (X:Cx)(ts:List Expr)(t:TGs):Prop:=
 ∀(pins:List (Addr×Obj)) (s:Shared) (σ:St) (H:Hp) (vs:List V) (us:List Value) (Q:St→Hp→Prop),Inv X pins σ H s→Vals vs us→t vs σ H Q→
  wpAny (model X.prog X.w) X.A (assignInOrder ((assignEach ts X.env).map (·.2)) us) (fun _ s'=>∃σ' H',Inv X pins σ' H' s'∧Q σ' H') X.xe s
noncomputable abbrev TSet:=V→V→V→Hp→(Hp→Prop)→Prop
noncomputable def PSet (X:Cx)(t:TSet):Prop:=
 ∀(pins:List (Addr×Obj)) (s:Shared) (σ:St) (H:Hp) (o i v:V) (ov iv u:Value) (Q:Hp→Prop),Inv X pins σ H s→RelV o ov→RelV i iv→RelV v u→t o i v H Q→
  wpAny (model X.prog X.w) X.A (setItem ov iv u) (fun _ s'=>∃H',Inv X pins σ H' s'∧Q H') X.xe s
section
variable {X:Cx}{pos:Pos}
noncomputable def gName (i:Nat):TG:=fun v σ H Q=>Q (σ.set i (some v)) H
theorem qH {i:Nat}{x:Str}(hN:X.N.Nodup)(hi:X.N[i]? = some x)(hx:Loc X.env.scope x)(hf:X.fn x=true∨X.env.scope.names.lookup x=some .local:=by first | exact .inl rfl | exact .inr rfl | assumption):PG X (.Name x pos) (gName i):=by
 intro pins s σ H v u Q I r h
 exact wpAny_assign_Name (qQg I hN hi hx r (fun s' I'=>⟨_,H,I',h⟩) hf)
noncomputable def gNil:TGs:=fun vs σ H Q=>vs=[]∧Q σ H
noncomputable def gCons (t:TG)(u:TGs):TGs:=fun vs σ H Q=>∃v r,vs=v::r∧t v σ H fun σ' H'=>u r σ' H' Q
theorem qM:PGs X [] gNil:=by
 intro pins s σ H vs us Q I r h
 obtain⟨e,h⟩:=h
 subst e
 cases r
 exact assignInOrder_nil ⟨σ,H,I,h⟩
theorem qI {e:Expr}{es:List Expr}{t:TG}{u:TGs}(h1:PG X e t)(h2:PGs X es u)
  (hs:(assignEach (e::es) X.env).map (·.2)=assign e X.env::(assignEach es X.env).map (·.2):=by rfl):PGs X (e::es) (gCons t u):=by
 intro pins s σ H vs us Q I r h
 obtain⟨v,vr,e1,h⟩:=h
 subst e1
 cases r with
 | cons r rr=>
  rw[hs]
  refine assignInOrder_cons (thn (h1 pins s σ H _ _ _ I r h) fun _ s1 ⟨σ1,H1,I1,q1⟩=>?_)
  exact h2 pins s1 σ1 H1 _ _ Q I1 rr q1
noncomputable def gTup (K:PySem.W.Frag)(n:Nat)(t:TGs):TG:=fun v σ H Q=>∃a xs,v=.ref a∧SqT K H a xs∧xs.length=n∧t xs σ H Q
theorem qNn {es:List Expr}{k:Nat}{t:TGs}{n:Nat}(hc:X.calm=true)(h:PGs X es t)
  (hn:(assignEach es X.env).length=n:=by rfl) (hst:(assignEach es X.env).findIdx? (·.1)=none:=by rfl):PG X (.Tuple es k pos) (gTup X.K n t):=by
 intro pins s σ H v u Q I r hw
 obtain⟨a,xs,e1,hq,hl,hw⟩:=hw
 subst e1
 cases r
 obtain⟨its,rv,ht,hz⟩:=I.tuple hq
 refine assign_Tuple_tuple (I.ok.hd hc) ht (by simp[hn,← hl,rv.length]) hst fun h' hx=>?_
 have I1:Inv X pins σ H { s with heap:=h' }:=I.kept (t':=s.toks) fun b o e=>hx b o (Nat.ne_of_lt (Heap.lt_size e)) e
 exact h pins _ σ H xs _ Q I1 (by simpa using rv) hw
noncomputable def gSub (to ti:TE)(t:TSet):TG:=fun v σ H Q=>to σ H fun o H1=>ti σ H1 fun i H2=>t o i v H2 fun H3=>Q σ H3
theorem qSl {o i:Expr}{to ti:TE}{t:TSet}(ho:PE X o to)(hi:PE X i ti)(hs:PSet X t)
  (ha:∀v,assign (.Subscript o i pos) X.env v=(do
   let ov ← holding [v] (eval o X.env)
   let iv ← holding [v,ov] (eval i X.env)
   standAt pos
   holding [v,ov,iv] (setItem ov iv v)
   release [v,ov,iv] []):=by intro _;rfl):PG X (.Subscript o i pos) (gSub to ti t):=by
 intro pins s σ H v u Q I r h
 rw[ha]
 refine wpAny_bind (wpAny_holding (thn (ho pins s σ H _ I h) fun ov s1 ⟨x,H1,I1,r1,q1⟩=>?_))
 refine wpAny_bind (wpAny_holding (thn (hi pins s1 σ H1 _ I1 q1) fun iv s2 ⟨y,H2,I2,r2,q2⟩=>?_))
 refine wpAny_bind (wpAny_standAt (wpAny_bind (wpAny_holding (thn (hs pins s2 σ H2 x y v ov iv u _ I2 r1 r2 r q2) fun _ s3 ⟨H3,I3,q3⟩=>?_))))
 exact wpAny_release ⟨σ,H3,I3,q3⟩
noncomputable def tAsg (te:TE)(g:TG):TS:=fun D σ H=>te σ H fun x H1=>g x σ H1 D.nx
theorem qP {tg e:Expr}{te:TE}{g:TG}(he:PE X e te)(hg:PG X tg g)(hs:swapsWithSole [tg] e pos.line X.env=pure false:=by rfl)(hw:swappedStores [tg] e X.env=pure none:=by rfl)
  (h1:(assignEach [tg] X.env).map (·.2)=[assign tg X.env]:=by rfl):PS X (.Assign [tg] e pos) (tAsg te g):=by
 intro pins s σ H D I h
 refine wpAny_Assign_stores (thn (he pins s σ H _ I h) fun v s1 ⟨x,H1,I1,r1,q1⟩=>?_) hs hw
 rw[h1]
 exact thn (hg pins s1 σ H1 x v _ I1 r1 q1) fun _ s2 q=>q
theorem qN {i:Nat}{x:Str}{e:Expr}{te:TE}{pos':Pos}(hN:X.N.Nodup)(hi:X.N[i]? = some x)(hx:Loc X.env.scope x)(he:PE X e te)(hs:swapsWith e (some (.Name x pos')) pos.line X.env=pure false:=by rfl)(hf:X.fn x=true∨X.env.scope.names.lookup x=some .local:=by first | exact .inl rfl | exact .inr rfl | assumption):
  PS X (.Assign [.Name x pos'] e pos) (tAsg te (gName i)):=by
 intro pins s σ H D I h
 refine wpAny_Assign_Name (thn (he pins s σ H _ I h) fun v s1 ⟨y,H1,I1,r1,q1⟩=>?_) hs
 exact qQg I1 hN hi hx r1 (fun s2 I2=>⟨_,H1,I2,q1⟩) hf
end

section
variable {X:Cx}{pos:Pos}
noncomputable def tWhile (c:TT)(tb:TS):TS:=fun D σ H=>∃W:Nat→St→Hp→Prop,(∃m,W m σ H)∧∀m σ H,W m σ H→
 c σ H fun b H1=>if b=true then ∃N:St→Hp→Prop,(∀σ' H',N σ' H'→∃m',m'<m∧W m' σ' H')∧tb { D with nx:=N,ct:=N,bk:=D.nx } σ H1 else D.nx σ H1
theorem qMc {c:Expr}{body:List Stmt}{tc:TT}{tb:TS}(hp:PassesOwn (model X.prog X.w) X.A X.env X.xe)(hc:PT X c tc)(hb:PSs X body tb):PS X (.While c body [] pos) (tWhile tc tb):=by
 intro pins s σ H D I h
 obtain⟨W,⟨m0,w0⟩,turn⟩:=h
 refine wpAny_While (codeAny_whileLoop (fun n s'=>∃σ' H',Inv X pins σ' H' s'∧W n σ' H') ?_ m0 ⟨σ,H,I,w0⟩)
 rintro n s1 ⟨σ1,H1,I1,w1⟩
 refine wpAny_passesOwn hp (thn (hc pins s1 σ1 H1 _ I1 (turn n σ1 H1 w1)) fun b s2 ⟨H2,I2,q2⟩=>?_)
 cases b with
 | true=>
  obtain⟨N,hN,q2⟩:=q2
  rw[if_pos rfl]
  refine wpAny_passesOwn hp (thn (hb pins s2 σ1 H2 _ I2 q2) fun f s3 q3=>?_)
  cases f with
  | next=>
   obtain⟨σ3,H3,I3,n3⟩:=q3
   obtain⟨m',hm,w3⟩:=hN σ3 H3 n3
   exact⟨m',hm,σ3,H3,I3,w3⟩
  | cont=>
   obtain⟨σ3,H3,I3,n3⟩:=q3
   obtain⟨m',hm,w3⟩:=hN σ3 H3 n3
   exact⟨m',hm,σ3,H3,I3,w3⟩
  | brk=>exact q3
  | ret v=>exact q3
 | false=>
  rw[if_neg Bool.false_ne_true]
  exact wpAny_execs_nil ⟨σ1,H2,I2,q2⟩
end

structure It where
 go:Nat→Hp→Prop
 yld:Nat→Hp→V→Hp→Prop
 stop:Nat→Hp→Prop
noncomputable def FpOk (X:Cx)(pins:List (Addr×Obj))(H:Hp)(b:Addr):Prop:=
 H b=none∧b≠X.env.locals∧b∉X.fs∧(b∈X.ex∨X.s₀.heap.objs.size≤b)∧(∀x c,X.env.cells.lookup x=some c→c≠b)∧∀p∈X.pn++pins,p.1≠b
theorem Inv.fpOk {X:Cx}{pins:List (Addr×Obj)}{σ:St}{H H':Hp}{s:Shared}{b:Addr}(I:Inv X pins σ H s)(hb:s.heap.objs.size≤b)(hn:H' b=none):FpOk X pins H' b:=by
 refine⟨hn,Nat.ne_of_gt (Nat.lt_of_lt_of_le I.lt hb),I.nofs hb,.inr (Nat.le_trans I.sz hb),fun x c e z=>?_,fun p hp z=>?_⟩
 ·obtain⟨v,q⟩:=I.cell x c e
  exact absurd (Nat.lt_of_lt_of_le q.lt (by rw[z];exact hb)) (Nat.lt_irrefl _)
 ·exact absurd (Nat.lt_of_lt_of_le (Heap.lt_size (I.pin p hp).1) (by rw[z];exact hb)) (Nat.lt_irrefl _)
structure Turn (P:Program)(w:World)(K:PySem.W.Frag)(tg:Expr)(J:It)(fp:List Addr)(it:Addr)(tn:Nat→Heap→Prop):Prop where
 mem:it∈fp
 obj:∀i h,tn i h→∀b∈fp,∃o,h.get? b=some o∧∀v,o.data≠.cell v
 keep:∀i h h',tn i h→(∀b∈fp,∀o,h.get? b=some o→h'.get? b=some o)→tn i h'
 item:∀(X:Cx),X.prog=P→X.w=w→X.K=K→X.calm=true→∀(i:Nat) (pins:List (Addr×Obj)) (s:Shared) (σ:St) (H:Hp) (E:Value→Shared→Prop),Inv X pins σ H s→(∀b∈fp,FpOk X pins H b)→tn i s.heap→J.go i H→
  wpAny (model P w) X.A (pyNext (.ref it)) (fun r s1=>∃u,r=some u∧
   wpAny (model P w) X.A (letOwnedTupleGo tg (.ref it) u) (fun _ s2=>∃x H',Inv X pins σ H' s2∧RelV x u∧J.yld i H x H'∧tn (i+1) s2.heap∧∀b∈fp,H' b=none) E s1) E s
 done:∀(X:Cx),X.prog=P→X.w=w→X.K=K→X.calm=true→∀(i:Nat) (pins:List (Addr×Obj)) (s:Shared) (σ:St) (H:Hp) (E:Value→Shared→Prop),Inv X pins σ H s→(∀b∈fp,FpOk X pins H b)→tn i s.heap→J.stop i H→
  wpAny (model P w) X.A (pyNext (.ref it)) (fun r s1=>r=none∧Inv X pins σ H s1) E s
 self:∀(A:Around) (i:Nat) (s:Shared) (Q:Value→Shared→Prop) (E:Value→Shared→Prop),tn i s.heap→Q (.ref it) s→wpAny (model P w) A (pyIter (.ref it)) Q E s
noncomputable abbrev TI:=St→Hp→(It→Hp→Prop)→Prop
noncomputable def PIE (X:Cx)(pins:List (Addr×Obj))(σ:St)(tg:Expr)(R:It→Hp→Prop)(itv:Value)(s2:Shared):Prop:=
 ∃(it:Addr) (fp:List Addr) (tn:Nat→Heap→Prop) (J:It) (H':Hp),itv=.ref it∧Inv X pins σ H' s2∧Turn X.prog X.w X.K tg J fp it tn∧tn 0 s2.heap∧(∀b∈fp,FpOk X pins H' b)∧R J H'
noncomputable def PI (X:Cx)(tg iter:Expr)(wi:TI):Prop:=
 ∀(pins:List (Addr×Obj)) (s:Shared) (σ:St) (H:Hp) (R:It→Hp→Prop),Inv X pins σ H s→wi σ H R→
  wpAny (model X.prog X.w) X.A (eval iter X.env) (fun v s1=>wpAny (model X.prog X.w) X.A (pyIter v) (PIE X pins σ tg R) X.xe s1) X.xe s

theorem qRz {M:Model}{A:Around}{E:Value→Shared→Prop}{s:Shared}{tg:Expr}{it:Addr}{u:Value}{o:Obj}{n:String}{vs:Array Value}{Q:Unit→Shared→Prop}(ho:s.heap.get? it=some o)(hc:o.cls=.type n)(hd:o.data=.fields vs)
  (hn:["enumerate","zip","dict_itemiterator","dict_reverseitemiterator","odict_iterator","itertools.zip_longest","itertools.pairwise"].contains n=false) (hQ:Q () s):wpAny M A (letOwnedTupleGo tg (.ref it) u) Q E s:=by
 unfold letOwnedTupleGo
 cases tg <;> first
  | exact wpAny_pure hQ
  | (cases u <;> first
    | exact wpAny_pure hQ
    | (refine wpAny_bind (wpAny_load ho ?_)
       rw[hc,hd]
       show wpAny M A (if (["enumerate","zip","dict_itemiterator","dict_reverseitemiterator","odict_iterator","itertools.zip_longest","itertools.pairwise"].contains n && vs[0]? == some (rawInt _))=true then _ else _) Q E s
       rw[if_neg (by intro h;rw[hn,Bool.false_and] at h;cases h)]
       exact wpAny_pure hQ))

noncomputable def Itl (K:PySem.W.Frag)(a:Addr):It:=
 ⟨fun i H=>∃xs x,SqL K H a xs∧xs[i]? = some x,fun i H x H'=>H'=H∧∀xs,SqL K H a xs→xs[i]? = some x,fun i H=>∃xs,SqL K H a xs∧xs.length≤i⟩
noncomputable def Itt (K:PySem.W.Frag)(a:Addr):It:=
 ⟨fun i H=>∃xs x,SqT K H a xs∧xs[i]? = some x,fun i H x H'=>H'=H∧∀xs,SqT K H a xs→xs[i]? = some x,fun i H=>∃xs,SqT K H a xs∧xs.length≤i⟩
noncomputable def Itr (lo:Int)(n:Nat):It:=⟨fun i _=>i<n,fun i H x H'=>H'=H∧x=.int (lo+i),fun i _=>n≤i⟩
theorem qEd {P:Program}{w:World}{K:PySem.W.Frag}{tg:Expr}(a it:Addr):Turn P w K tg (Itl K a) [it] it (fun i h=>h.IsListIter it a i) where
 mem:=by simp
 obj:=fun i h st b hb=>by
  have e:b=it:=by simpa using hb
  subst e
  obtain⟨o,e,c,d⟩:=st
  exact⟨o,e,fun v z=>by rw[d] at z;cases z⟩
 keep:=fun i h h' st k=>st.at fun o e=>k it (by simp) o e
 item:=by
  intro X hP hw hK hc i pins s σ H E I hf st hg
  subst hP hw hK
  obtain⟨xs,x,hq,hx⟩:=hg
  obtain⟨its,rv,p,hz⟩:=I.list hq
  obtain⟨u,hu,ru⟩:=rv.get hx
  obtain⟨f0,f1,f2,f3,f4,f5⟩:=hf it (by simp)
  refine wpAny_pyNext_list_item st p.isList (x:=u) (by simpa using hu) fun h' st' sb=>?_
  have I1:Inv X pins σ H { s with heap:=h' }:=I.turned (t':=s.toks) (fun b o hb e=>(sb.2 b hb).trans e) f0 f1 f3 f4 f5
  obtain⟨o,e,c,d⟩:=id st'
  exact⟨u,rfl,qRz (s:={ s with heap:=h' }) e c d (by decide) ⟨x,H,I1,ru,⟨rfl,fun ys hy=>by rw[I.list_inj hy hq];exact hx⟩,st',fun b hb=>(hf b hb).1⟩⟩
 done:=by
  intro X hP hw hK hc i pins s σ H E I hf st hg
  subst hP hw hK
  obtain⟨xs,hq,hx⟩:=hg
  obtain⟨its,rv,p,hz⟩:=I.list hq
  obtain⟨f0,f1,f2,f3,f4,f5⟩:=hf it (by simp)
  have hl:=rv.length
  exact wpAny_pyNext_list_end (I.ok.hd hc) st p.isList (by simp;omega) fun h' eb=>⟨rfl,I.turned (t':=s.toks) (fun b o hb e=>eb b o hb e) f0 f1 f3 f4 f5⟩
 self:=fun _ _ _ _ _ st h=>wpAny_pyIter_listiter st h
theorem qCf {P:Program}{w:World}{K:PySem.W.Frag}{tg:Expr}(a it:Addr):Turn P w K tg (Itt K a) [it] it (fun i h=>h.IsTupleIter it a i) where
 mem:=by simp
 obj:=fun i h st b hb=>by
  have e:b=it:=by simpa using hb
  subst e
  obtain⟨o,e,c,d⟩:=st
  exact⟨o,e,fun v z=>by rw[d] at z;cases z⟩
 keep:=fun i h h' st k=>st.at fun o e=>k it (by simp) o e
 item:=by
  intro X hP hw hK hc i pins s σ H E I hf st hg
  subst hP hw hK
  obtain⟨xs,x,hq,hx⟩:=hg
  obtain⟨its,rv,p,hz⟩:=I.tuple hq
  obtain⟨u,hu,ru⟩:=rv.get hx
  obtain⟨f0,f1,f2,f3,f4,f5⟩:=hf it (by simp)
  refine wpAny_pyNext_tuple_item st (show s.heap.IsTuple a its.toArray from p) (x:=u) (by simpa using hu) fun h' st' sb=>?_
  have I1:Inv X pins σ H { s with heap:=h' }:=I.turned (t':=s.toks) (fun b o hb e=>(sb.2 b hb).trans e) f0 f1 f3 f4 f5
  obtain⟨o,e,c,d⟩:=id st'
  exact⟨u,rfl,qRz (s:={ s with heap:=h' }) e c d (by decide) ⟨x,H,I1,ru,⟨rfl,fun ys hy=>by rw[I.tuple_inj hy hq];exact hx⟩,st',fun b hb=>(hf b hb).1⟩⟩
 done:=by
  intro X hP hw hK hc i pins s σ H E I hf st hg
  subst hP hw hK
  obtain⟨xs,hq,hx⟩:=hg
  obtain⟨its,rv,p,hz⟩:=I.tuple hq
  obtain⟨f0,f1,f2,f3,f4,f5⟩:=hf it (by simp)
  have hl:=rv.length
  exact wpAny_pyNext_tuple_end (I.ok.hd hc) st (show s.heap.IsTuple a its.toArray from p) (by simp;omega) fun h' eb=>⟨rfl,I.turned (t':=s.toks) (fun b o hb e=>eb b o hb e) f0 f1 f3 f4 f5⟩
 self:=fun _ _ _ _ _ st h=>wpAny_pyIter_tupleiter st h
theorem qCg {P:Program}{w:World}{K:PySem.W.Frag}{tg:Expr}(it:Addr)(lo:Int)(n:Nat):Turn P w K tg (Itr lo n) [it] it (fun i h=>IsRangeIter h it (lo+(i:Nat) * 1) ((n:Int) - (i:Nat)) 1) where
 mem:=by simp
 obj:=fun i h st b hb=>by
  have e:b=it:=by simpa using hb
  subst e
  exact⟨_,st,fun v z=>by
   have z':Data.fields _=Data.cell v:=z
   cases z'⟩
 keep:=fun i h h' st k=>k it (by simp) _ st
 item:=by
  intro X hP hw hK hc i pins s σ H E I hf st hg
  subst hP hw hK
  obtain⟨f0,f1,f2,f3,f4,f5⟩:=hf it (by simp)
  have W:=Walks.range (prog:=X.prog) (w:=X.w) (I.ok.hd hc) it lo 1 n
  refine W.item i s _ _ hg st fun v h' tk hv st' kk=>?_
  obtain⟨t,rfl⟩:=hv
  have I1:Inv X pins σ H { s with heap:=h',toks:=tk }:=I.turned (fun b o hb e=>kk b o (by simpa using hb) e) f0 f1 f3 f4 f5
  refine⟨_,rfl,qRz (s:={ s with heap:=h',toks:=tk }) (n := "range_iterator") st' rfl rfl (by decide) ⟨.int (lo+i),H,I1,⟨t,?_⟩,⟨rfl,rfl⟩,st',fun b hb=>(hf b hb).1⟩⟩
  rw[Int.mul_one]
 done:=by
  intro X hP hw hK hc i pins s σ H E I hf st hg
  subst hP hw hK
  obtain⟨f0,f1,f2,f3,f4,f5⟩:=hf it (by simp)
  exact wpAny_pyNext_range_end (I.ok.hd hc) st (by have:n≤i:=hg;omega) fun h' eb=>⟨rfl,I.turned (t':=s.toks) (fun b o hb e=>eb b o hb e) f0 f1 f3 f4 f5⟩
 self:=fun _ _ _ _ _ st h=>wpAny_pyIter_rangeiter st h
end L2

namespace L2
open PySem PySem.Spec PyProof.Rows
section
variable {X:Cx}{tg:Expr}
noncomputable def iList (K:PySem.W.Frag)(tl:TE):TI:=fun σ H R=>tl σ H fun x H1=>∃a,x=.ref a∧(∃xs,SqL K H1 a xs)∧R (Itl K a) H1
noncomputable def iTup (K:PySem.W.Frag)(tl:TE):TI:=fun σ H R=>tl σ H fun x H1=>∃a,x=.ref a∧(∃xs,SqT K H1 a xs)∧R (Itt K a) H1
theorem qFf {l:Expr}{tl:TE}(hl:PE X l tl):PI X tg l (iList X.K tl):=by
 intro pins s σ H R I h
 refine thn (hl pins s σ H _ I h) fun v s1 ⟨x,H1,I1,r1,q1⟩=>?_
 obtain⟨a,e,⟨xs,hq⟩,q⟩:=q1
 subst e
 cases r1
 obtain⟨its,rv,p,hz⟩:=I1.list hq
 refine wpAny_pyIter_list p.isList ?_
 refine⟨s1.heap.objs.size,[s1.heap.objs.size],_,_,H1,rfl,I1.kept (t':=s1.toks) fun b o e=>Heap.get?_push_of_some _ e,qEd a _,⟨_,Heap.get?_push_size _ rfl,rfl,rfl⟩,fun b hb=>?_,q⟩
 have e:b=s1.heap.objs.size:=by simpa using hb
 subst e
 exact I1.fpOk (Nat.le_refl _) (I1.hok.fresh (Nat.le_refl _))
theorem qSi {l:Expr}{tl:TE}(hl:PE X l tl):PI X tg l (iTup X.K tl):=by
 intro pins s σ H R I h
 refine thn (hl pins s σ H _ I h) fun v s1 ⟨x,H1,I1,r1,q1⟩=>?_
 obtain⟨a,e,⟨xs,hq⟩,q⟩:=q1
 subst e
 cases r1
 obtain⟨its,rv,p,hz⟩:=I1.tuple hq
 refine wpAny_pyIter_tuple (show s1.heap.IsTuple a its.toArray from p) ?_
 refine⟨s1.heap.objs.size,[s1.heap.objs.size],_,_,H1,rfl,I1.kept (t':=s1.toks) fun b o e=>Heap.get?_push_of_some _ e,qCf a _,⟨_,Heap.get?_push_size _ rfl,rfl,rfl⟩,fun b hb=>?_,q⟩
 have e:b=s1.heap.objs.size:=by simpa using hb
 subst e
 exact I1.fpOk (Nat.le_refl _) (I1.hok.fresh (Nat.le_refl _))
theorem qBw {pins:List (Addr×Obj)}{σ:St}{H:Hp}{s:Shared}{R:It→Hp→Prop}{E:Value→Shared→Prop}{lo hi:Int}{t u v:Tok}{tk:Nat}(I:Inv X pins σ H s)(h1 : -(2 ^ 62)≤lo)(h2:lo<2 ^ 62)(h3 : -(2 ^ 62)≤hi)(h4:hi<2 ^ 62)
  (q:R (Itr lo (hi - lo).toNat) H):wpAny (model X.prog X.w) X.A (pyIter (.ref s.heap.objs.size)) (PIE X pins σ tg R) E { s with heap:=s.heap.push { cls:=.type "range",data:=.fields #[.int lo t,.int hi u,.int 1 v] },toks:=tk }:=by
 refine wpAny_pyIter_range (IsRange.new ..) (small_one h1 h2 h3 h4) ?_
 have I1:Inv X pins σ H { s with heap:=s.heap.push { cls:=.type "range",data:=.fields #[.int lo t,.int hi u,.int 1 v] },toks:=tk }:=I.kept fun b o e=>Heap.get?_push_of_some _ e
 refine⟨(s.heap.push { cls:=.type "range",data:=.fields #[.int lo t,.int hi u,.int 1 v] }).objs.size,[(s.heap.push { cls:=.type "range",data:=.fields #[.int lo t,.int hi u,.int 1 v] }).objs.size],_,_,H,rfl,
  I1.kept (t':=tk) fun b o e=>Heap.get?_push_of_some _ e,qCg _ lo (hi - lo).toNat,?_,fun b hb=>?_,q⟩
 ·have e1:lo+((0:Nat):Int) * 1=lo:=by simp
  have e2:(((hi - lo).toNat:Nat):Int) - ((0:Nat):Int)=Builtin.Range.rangeSize lo hi 1:=by rw[rangeSize_one];split <;> omega
  show IsRangeIter _ _ (lo+((0:Nat):Int) * 1) ((((hi - lo).toNat:Nat):Int) - ((0:Nat):Int)) 1
  rw[e1,e2]
  exact Heap.get?_push_size _ rfl
 ·have e:b=(s.heap.push { cls:=.type "range",data:=.fields #[.int lo t,.int hi u,.int 1 v] }).objs.size:=by simpa using hb
  subst e
  exact I1.fpOk (Nat.le_refl _) (I1.hok.fresh (Nat.le_refl _))
noncomputable def iRng1 (ta:TA):TI:=fun σ H R=>ta σ H fun vs H1=>∃j:Int,vs=[.int j]∧-(2 ^ 62)≤j∧j<2 ^ 62∧R (Itr 0 j.toNat) H1
noncomputable def iRng2 (ta:TA):TI:=fun σ H R=>ta σ H fun vs H1=>∃i j:Int,vs=[.int i,.int j]∧(-(2 ^ 62)≤i∧i<2 ^ 62∧-(2 ^ 62)≤j∧j<2 ^ 62)∧R (Itr i (j - i).toNat) H1
theorem jF {a:Expr}{ta:TA}{p pos:Pos}(hg:Gl X "range")(hm:X.mg "range" = none)(ha:PA X [a] ta)(hs:starEach [a] X.env=[(false,eval a X.env)]:=by rfl):PI X tg (.Call (.Name "range" p) [a] [] pos) (iRng1 ta):=by
 intro pins s σ H R I h
 refine Call_ (qZk I hg hm boot_range (PyProof.Rows.callWith_type1 (thn (ha pos pins s σ H _ I h) fun us s1 ⟨vs,H1,I1,r1,q1⟩=>?_) hs rfl))
 obtain⟨j,e,q1,q2,q⟩:=q1
 subst e
 cases r1 with
 | cons r rr=>
  cases rr
  obtain⟨t,rfl⟩:=r
  exact call_range_1 (qBw I1 (by omega) (by omega) q1 q2 (by simpa using q))
theorem qFe {a b:Expr}{ta:TA}{p pos:Pos}(hg:Gl X "range")(hm:X.mg "range" = none)(ha:PA X [a,b] ta)(hs:starEach [a,b] X.env=[(false,eval a X.env),(false,eval b X.env)]:=by rfl)(hs2:starEach [b] X.env=[(false,eval b X.env)]:=by rfl):
  PI X tg (.Call (.Name "range" p) [a,b] [] pos) (iRng2 ta):=by
 intro pins s σ H R I h
 refine Call_ (qZk I hg hm boot_range (PyProof.Rows.callWith_type1 (thn (ha pos pins s σ H _ I h) fun us s1 ⟨vs,H1,I1,r1,q1⟩=>?_) (by rw[hs,hs2]) (by rw[hs2];rfl)))
 obtain⟨i,j,e,⟨q1,q2,q3,q4⟩,q⟩:=q1
 subst e
 cases r1 with
 | cons r rr=>
  cases rr with
  | cons r' rr=>
   cases rr
   obtain⟨t,rfl⟩:=r
   obtain⟨t',rfl⟩:=r'
   exact call_range_2 (qBw I1 q1 q2 q3 q4 q)

noncomputable def tFor (wi:TI)(g:TG)(tb:TS):TS:=fun D σ H=>wi σ H fun J H1=>∃W:Nat→Nat→St→Hp→Prop,(∃m,W 0 m σ H1)∧∀i m σ H,W i m σ H→
 (J.stop i H∧D.nx σ H)∨(J.go i H∧∃N:St→Hp→Prop,(∀σ' H',N σ' H'→∃m',m'<m∧W (i+1) m' σ' H')∧∀x H',J.yld i H x H'→g x σ H' fun σ2 H2=>tb { D with nx:=N,ct:=N,bk:=D.nx } σ2 H2)
noncomputable def pinsAt (fp:List Addr)(h:Heap):List (Addr×Obj):=fp.filterMap fun b=>(h.get? b).map fun o=>(b,o)
theorem vD {fp:List Addr}{h:Heap}{b:Addr}{o:Obj}(hb:b∈fp)(e:h.get? b=some o):(b,o)∈pinsAt fp h:=List.mem_filterMap.mpr ⟨b,hb,by rw[e];rfl⟩
theorem qGd {fp:List Addr}{h:Heap}{p:Addr×Obj}(hp:p∈pinsAt fp h):p.1∈fp∧h.get? p.1=some p.2:=by
 obtain⟨b,hb,e⟩:=List.mem_filterMap.mp hp
 cases q:h.get? b with
 | none=>rw[q] at e;cases e
 | some o=>
  rw[q] at e
  have e':(b,o)=p:=Option.some.inj e
  subst e'
  exact⟨hb,q⟩
theorem Inv.pinned {pins:List (Addr×Obj)}{σ:St}{H:Hp}{s:Shared}{fp:List Addr}(I:Inv X pins σ H s)(hf:∀b∈fp,FpOk X pins H b)(ho:∀b∈fp,∃o,s.heap.get? b=some o∧∀v,o.data≠.cell v):Inv X (pins++pinsAt fp s.heap) σ H s:=
 I.pins_of fun p hp=>(List.mem_append.mp hp).elim (fun z=>I.pin p (List.mem_append_right _ z)) fun z=>by
  obtain⟨hb,e⟩:=qGd z
  obtain⟨f0,f1,f2,_⟩:=hf p.1 hb
  obtain⟨o,e',d⟩:=ho p.1 hb
  rw[e] at e';cases e'
  exact⟨e,f0,f1,f2,d⟩
theorem Inv.unpinned {pins pl:List (Addr×Obj)}{σ:St}{H:Hp}{s:Shared}(I:Inv X (pins++pl) σ H s):Inv X pins σ H s:=I.pins_of fun p hp=>I.pin p (List.mem_append_right _ (List.mem_append_left _ hp))
theorem jE {iter:Expr}{body:List Stmt}{wi:TI}{g:TG}{tb:TS}{pos:Pos}(hp:PassesOwn (model X.prog X.w) X.A X.env X.xe)(hc:X.calm=true)(hi:PI X tg iter wi)(hg:PG X tg g)(hb:PSs X body tb)
  (hs:∀x,foldedSetIterable iter X.env x=pure x:=by intro _;rfl):PS X (.For tg iter body [] pos) (tFor wi g tb):=by
 intro pins s σ H D I h
 refine wpAny_For (thn (hi pins s σ H _ I h) fun v s1 h1=>thn h1 fun itv s2 h2=>?_) hs
 obtain⟨it,fp,tn,J,H2,e,I2,T,st2,f2,W,⟨m0,w0⟩,turn⟩:=h2
 subst e
 have stat:∀{H':Hp},(∀b∈fp,H' b=none)→∀b∈fp,FpOk X pins H' b:=fun hn b hb=>⟨hn b hb,(f2 b hb).2⟩
 refine codeAny_forLoop_any (fun n s'=>∃i σ' H',Inv X pins σ' H' s'∧tn i s'.heap∧(∀b∈fp,H' b=none)∧W i n σ' H') ?_ m0 ⟨0,σ,H2,I2,st2,fun b hb=>(f2 b hb).1,w0⟩
 rintro n s3 ⟨i,σ3,H3,I3,st3,fr3,w3⟩
 rcases turn i n σ3 H3 w3 with⟨stop,qn⟩ | ⟨go,N,hN,step⟩
 ·refine wpAny_passesOwn hp (thn (T.done X rfl rfl rfl hc i pins s3 σ3 H3 X.xe I3 (stat fr3) st3 stop) fun r s4 ⟨hr,I4⟩=>?_)
  subst hr
  exact wpAny_execs_nil ⟨σ3,H3,I4,qn⟩
 ·refine wpAny_passesOwn hp (thn (T.item X rfl rfl rfl hc i pins s3 σ3 H3 X.xe I3 (stat fr3) st3 go) fun r s4 ⟨u,hr,h4⟩=>?_)
  subst hr
  refine wpAny_passesOwn hp (thn h4 fun _ s5 ⟨x,H5,I5,r5,y5,st5,fr5⟩=>?_)
  have I5':=I5.pinned (stat fr5) (T.obj _ _ st5)
  refine wpAny_passesOwn hp (thn (hg _ s5 σ3 H5 x u _ I5' r5 (step x H5 y5)) fun _ s6 ⟨σ6,H6,I6,q6⟩=>?_)
  refine wpAny_passesOwn hp (thn (hb _ s6 σ6 H6 _ I6 q6) fun f s7 q7=>?_)
  have again:∀{σ7:St} {H7:Hp},Inv X (pins++pinsAt fp s5.heap) σ7 H7 s7→N σ7 H7→∃m,m<n∧∃i σ' H',Inv X pins σ' H' s7∧tn i s7.heap∧(∀b∈fp,H' b=none)∧W i m σ' H':=fun{σ7 H7} I7 n7=>by
   obtain⟨m',hm,w7⟩:=hN σ7 H7 n7
   refine⟨m',hm,i+1,σ7,H7,I7.unpinned,T.keep _ _ _ st5 fun b hb o e=>(I7.pin (b,o) (List.mem_append_right _ (List.mem_append_right _ (vD hb e)))).1,fun b hb=>?_,w7⟩
   obtain⟨o,e,d⟩:=T.obj _ _ st5 b hb
   exact(I7.pin (b,o) (List.mem_append_right _ (List.mem_append_right _ (vD hb e)))).2.1
  cases f with
  | next=>obtain⟨σ7,H7,I7,n7⟩:=q7;exact again I7 n7
  | cont=>obtain⟨σ7,H7,I7,n7⟩:=q7;exact again I7 n7
  | brk=>obtain⟨σ7,H7,I7,q7⟩:=q7;exact⟨σ7,H7,I7.unpinned,q7⟩
  | ret v=>obtain⟨x7,σ7,H7,I7,r7,q7⟩:=q7;exact⟨x7,σ7,H7,I7.unpinned,r7,q7⟩
end

theorem qYe {K:PySem.W.Frag}{a:Addr}{xs:List V}{g:TG}{tb:TS}{D:Ends}{σ:St}{H:Hp}(Pv:Nat→St→Hp→Prop)(h0:Pv 0 σ H)(hl:∀i σ H,i≤xs.length→Pv i σ H→SqL K H a xs)
  (hs:∀i x σ H,xs[i]? = some x→Pv i σ H→g x σ H fun σ2 H2=>tb { D with nx:=Pv (i+1),ct:=Pv (i+1),bk:=D.nx } σ2 H2) (hd:∀σ H,Pv xs.length σ H→D.nx σ H):
  ∃W:Nat→Nat→St→Hp→Prop,(∃m,W 0 m σ H)∧∀i m σ H,W i m σ H→
   ((Itl K a).stop i H∧D.nx σ H)∨((Itl K a).go i H∧∃N:St→Hp→Prop,(∀σ' H',N σ' H'→∃m',m'<m∧W (i+1) m' σ' H')∧∀x H',(Itl K a).yld i H x H'→g x σ H' fun σ2 H2=>tb { D with nx:=N,ct:=N,bk:=D.nx } σ2 H2):=by
 refine⟨fun i m σ H=>m=xs.length - i∧i≤xs.length∧Pv i σ H,⟨xs.length,by simp,Nat.zero_le _,h0⟩,?_⟩
 rintro i m σ H ⟨rfl,hi,p⟩
 have q:=hl i σ H hi p
 by_cases hlt:i<xs.length
 ·refine .inr ⟨⟨xs,xs[i],q,by simp[hlt]⟩,Pv (i+1),fun σ' H' p'=>⟨xs.length - (i+1),by omega,rfl,hlt,p'⟩,fun x H' y=>?_⟩
  obtain⟨e,y⟩:=y
  subst e
  exact hs i x σ _ (y xs q) p
 ·have e:i=xs.length:=by omega
  subst e
  exact .inl ⟨⟨xs,q,Nat.le_refl _⟩,hd σ H p⟩
theorem qRj {K:PySem.W.Frag}{a:Addr}{xs:List V}{g:TG}{tb:TS}{D:Ends}{σ:St}{H:Hp}(Pv:Nat→St→Hp→Prop)(h0:Pv 0 σ H)(hl:∀i σ H,i≤xs.length→Pv i σ H→SqT K H a xs)
  (hs:∀i x σ H,xs[i]? = some x→Pv i σ H→g x σ H fun σ2 H2=>tb { D with nx:=Pv (i+1),ct:=Pv (i+1),bk:=D.nx } σ2 H2) (hd:∀σ H,Pv xs.length σ H→D.nx σ H):
  ∃W:Nat→Nat→St→Hp→Prop,(∃m,W 0 m σ H)∧∀i m σ H,W i m σ H→
   ((Itt K a).stop i H∧D.nx σ H)∨((Itt K a).go i H∧∃N:St→Hp→Prop,(∀σ' H',N σ' H'→∃m',m'<m∧W (i+1) m' σ' H')∧∀x H',(Itt K a).yld i H x H'→g x σ H' fun σ2 H2=>tb { D with nx:=N,ct:=N,bk:=D.nx } σ2 H2):=by
 refine⟨fun i m σ H=>m=xs.length - i∧i≤xs.length∧Pv i σ H,⟨xs.length,by simp,Nat.zero_le _,h0⟩,?_⟩
 rintro i m σ H ⟨rfl,hi,p⟩
 have q:=hl i σ H hi p
 by_cases hlt:i<xs.length
 ·refine .inr ⟨⟨xs,xs[i],q,by simp[hlt]⟩,Pv (i+1),fun σ' H' p'=>⟨xs.length - (i+1),by omega,rfl,hlt,p'⟩,fun x H' y=>?_⟩
  obtain⟨e,y⟩:=y
  subst e
  exact hs i x σ _ (y xs q) p
 ·have e:i=xs.length:=by omega
  subst e
  exact .inl ⟨⟨xs,q,Nat.le_refl _⟩,hd σ H p⟩
theorem qVa {lo:Int}{n:Nat}{g:TG}{tb:TS}{D:Ends}{σ:St}{H:Hp}(Pv:Nat→St→Hp→Prop)(h0:Pv 0 σ H)
  (hs:∀i σ H,i<n→Pv i σ H→g (.int (lo+i)) σ H fun σ2 H2=>tb { D with nx:=Pv (i+1),ct:=Pv (i+1),bk:=D.nx } σ2 H2) (hd:∀σ H,Pv n σ H→D.nx σ H):
  ∃W:Nat→Nat→St→Hp→Prop,(∃m,W 0 m σ H)∧∀i m σ H,W i m σ H→
   ((Itr lo n).stop i H∧D.nx σ H)∨((Itr lo n).go i H∧∃N:St→Hp→Prop,(∀σ' H',N σ' H'→∃m',m'<m∧W (i+1) m' σ' H')∧∀x H',(Itr lo n).yld i H x H'→g x σ H' fun σ2 H2=>tb { D with nx:=N,ct:=N,bk:=D.nx } σ2 H2):=by
 refine⟨fun i m σ H=>m=n - i∧i≤n∧Pv i σ H,⟨n,by simp,Nat.zero_le _,h0⟩,?_⟩
 rintro i m σ H ⟨rfl,hi,p⟩
 by_cases hlt:i<n
 ·refine .inr ⟨hlt,Pv (i+1),fun σ' H' p'=>⟨n - (i+1),by omega,rfl,hlt,p'⟩,fun x H' y=>?_⟩
  obtain⟨e,y⟩:=y
  subst e y
  exact hs i σ _ hlt p
 ·have e:i=n:=by omega
  subst e
  exact .inl ⟨Nat.le_refl _,hd σ H p⟩
end L2

namespace L2
open PySem PySem.Spec PyProof.Rows

noncomputable abbrev R2:=V→V→Hp→VK→Prop
noncomputable def OpR (X:Cx)(f:Value→Value→Sem Value)(r:R2):Prop:=
 ∀(pins:List (Addr×Obj)) (s:Shared) (σ:St) (H:Hp) (x y:V) (v u:Value) (Q:VK),Inv X pins σ H s→RelV x v→RelV y u→r x y H Q→
  wpAny (model X.prog X.w) X.A (f v u) (EP X pins σ Q) X.xe s
noncomputable def UnR (X:Cx)(f:Value→Sem Value)(r:V→Hp→VK→Prop):Prop:=
 ∀(pins:List (Addr×Obj)) (s:Shared) (σ:St) (H:Hp) (x:V) (v:Value) (Q:VK),Inv X pins σ H s→RelV x v→r x H Q→
  wpAny (model X.prog X.w) X.A (f v) (EP X pins σ Q) X.xe s
noncomputable def CallR (X:Cx)(f:Value)(r:List V→Hp→VK→Prop):Prop:=
 ∀(pins:List (Addr×Obj)) (s:Shared) (σ:St) (H:Hp) (xs:List V) (us:List Value) (Q:VK),Inv X pins σ H s→Vals xs us→r xs H Q→
  wpAny (model X.prog X.w) X.A (call f us) (EP X pins σ Q) X.xe s
noncomputable def tOp (r:R2)(ta tb:TE):TE:=fun σ H Q=>ta σ H fun x H1=>tb σ H1 fun y H2=>r x y H2 Q
noncomputable def tUn (r:V→Hp→VK→Prop)(ta:TE):TE:=fun σ H Q=>ta σ H fun x H1=>r x H1 Q
noncomputable def rI (C:Int→Int→Prop)(g:Int→Int→V):R2:=fun x y H Q=>∃i j,x=.int i∧y=.int j∧C i j∧Q (g i j) H
noncomputable def rI0 (g:Int→Int→V):R2:=fun x y H Q=>∃i j,x=.int i∧y=.int j∧Q (g i j) H
noncomputable def rU (g:Int→V):V→Hp→VK→Prop:=fun x H Q=>∃i,x=.int i∧Q (g i) H

section
variable {X:Cx}{a b c:Expr}{ta tb tc:TE}{pos:Pos}

theorem binT (ha:PE X a ta)(hb:PE X b tb){pins:List (Addr×Obj)}{s:Shared}{σ:St}{H:Hp}{R:V→V→Hp→Prop}(I:Inv X pins σ H s)
  (h:ta σ H fun x H1=>tb σ H1 fun y H2=>R x y H2) {Q:Value→Shared→Prop} {f:Value→Value→Sem Value}
  (hf:∀v u s2 x y H2,Inv X pins σ H2 s2→RelV x v→RelV y u→R x y H2→wpAny (model X.prog X.w) X.A (f v u) Q X.xe s2):
  wpAny (model X.prog X.w) X.A (eval a X.env) (fun v s₁=>wpAny (model X.prog X.w) X.A (eval b X.env) (fun u s₂=>wpAny (model X.prog X.w) X.A (f v u) Q X.xe s₂) X.xe s₁) X.xe s:=by
 refine thn (ha pins s σ H _ I h) fun v s1 ⟨x,H1,I1,r1,q1⟩=>?_
 refine thn (hb pins s1 σ H1 _ I1 q1) fun u s2 ⟨y,H2,I2,r2,q2⟩=>?_
 exact hf v u s2 x y H2 I2 r1 r2 q2

theorem xX {op:Operator}{r:R2}(ho:OpR X (binaryOp op) r)(ha:PE X a ta)(hb:PE X b tb):PE X (.BinOp a op b pos) (tOp r ta tb):=by
 intro pins s σ H Q I h
 exact wpAny_BinOp (binT ha hb I h fun v u s2 x y H2 I2 rx ry q=>ho pins s2 σ H2 x y v u Q I2 rx ry q)
theorem qYb {op:UnaryOp}{r:V→Hp→VK→Prop}(ho:UnR X (unaryOp op) r)(ha:PE X a ta):PE X (.UnaryOp op a pos) (tUn r ta):=by
 intro pins s σ H Q I h
 exact UnaryOp_ (thn (ha pins s σ H _ I h) fun v s1 ⟨x,H1,I1,r1,q1⟩=>ho pins s1 σ H1 x v Q I1 r1 q1)
theorem opI {f:Value→Value→Sem Value}{C:Int→Int→Prop}{g:Int→Int→Int}
  (rule:∀(i j:Int) (t u:Tok) (s:Shared) (Q:Value→Shared→Prop) (E:Value→Shared→Prop),C i j→Q (.int (g i j) s.toks) { s with toks:=s.toks+1 }→wpAny (model X.prog X.w) X.A (f (.int i t) (.int j u)) Q E s):
  OpR X f (rI C fun i j=>.int (g i j)):=by
 intro pins s σ H x y v u Q I rx ry h
 obtain⟨i,j,rfl,rfl,hc,q⟩:=h
 obtain⟨t,rfl⟩:=rx
 obtain⟨t',rfl⟩:=ry
 exact rule i j t t' s _ _ hc ⟨.int (g i j),H,I.tok _,⟨_,rfl⟩,q⟩
theorem opI0 {f:Value→Value→Sem Value}{g:Int→Int→Int}
  (rule:∀(i j:Int) (t u:Tok) (s:Shared) (Q:Value→Shared→Prop) (E:Value→Shared→Prop),Q (.int (g i j) s.toks) { s with toks:=s.toks+1 }→wpAny (model X.prog X.w) X.A (f (.int i t) (.int j u)) Q E s):
  OpR X f (rI0 fun i j=>.int (g i j)):=by
 intro pins s σ H x y v u Q I rx ry h
 obtain⟨i,j,rfl,rfl,q⟩:=h
 obtain⟨t,rfl⟩:=rx
 obtain⟨t',rfl⟩:=ry
 exact rule i j t t' s _ _ ⟨.int (g i j),H,I.tok _,⟨_,rfl⟩,q⟩
theorem opB0 {f:Value→Value→Sem Value}{g:Int→Int→Bool}
  (rule:∀(i j:Int) (t u:Tok) (s:Shared) (Q:Value→Shared→Prop) (E:Value→Shared→Prop),Q (.bool (g i j)) s→wpAny (model X.prog X.w) X.A (f (.int i t) (.int j u)) Q E s):
  OpR X f (rI0 fun i j=>.bl (g i j)):=by
 intro pins s σ H x y v u Q I rx ry h
 obtain⟨i,j,rfl,rfl,q⟩:=h
 obtain⟨t,rfl⟩:=rx
 obtain⟨t',rfl⟩:=ry
 exact rule i j t t' s _ _ ⟨.bl (g i j),H,I,rfl,q⟩

noncomputable def CPow (i j:Int):Prop:=0≤j∧j≤1000000∧i.natAbs<2 ^ 64
theorem zB:OpR X (binaryOp .Add) (rI0 fun i j=>.int (i+j)):=opI0 fun _ _ _ _ _ _ _ q=>add_int q
theorem kY:OpR X (binaryOp .Sub) (rI0 fun i j=>.int (i - j)):=opI0 fun _ _ _ _ _ _ _ q=>sub_int q
theorem xT:OpR X (binaryOp .Mod) (rI (fun _ j=>0<j) fun i j=>.int (i % j)):=opI fun i j _ _ _ _ _ hc q=>by
 have h1:(0:Int)<j:=hc
 exact mod_int' (by omega) (by rw[Int.fmod_eq_emod_of_nonneg i (by omega)];exact q)
theorem yB:OpR X (binaryOp .Pow) (rI CPow fun i j=>.int (i ^ j.toNat)):=opI fun _ _ _ _ _ _ _ hc q=>pow_int_small hc.1 hc.2.1 hc.2.2 q
theorem unI {f:Value→Sem Value}{g:Int→Int}
  (rule:∀(i:Int) (t:Tok) (s:Shared) (Q:Value→Shared→Prop) (E:Value→Shared→Prop),Q (.int (g i) s.toks) { s with toks:=s.toks+1 }→wpAny (model X.prog X.w) X.A (f (.int i t)) Q E s):
  UnR X f (rU fun i=>.int (g i)):=by
 intro pins s σ H x v Q I rx h
 obtain⟨i,rfl,q⟩:=h
 obtain⟨t,rfl⟩:=rx
 exact rule i t s _ _ ⟨.int (g i),H,I.tok _,⟨_,rfl⟩,q⟩
theorem wZ:UnR X (unaryOp .USub) (rU fun i=>.int (-i)):=unI fun _ _ _ _ _ q=>neg_int q
end

noncomputable def scal:V→V→Bool
 | .non,.non=>true | .non,.int _=>true | .int _,.non=>true | .non,.bl _=>true | .bl _,.non=>true | .non,.str _=>true | .str _,.non=>true
 | .int _,.int _=>true | .bl _,.bl _=>true | .str _,.str _=>true | .byt _,.byt _=>true
 | .int _,.str _=>true | .str _,.int _=>true | .bl _,.str _=>true | .str _,.bl _=>true
 | _,_=>false
noncomputable def rEq:R2:=fun x y H Q=>scal x y=true∧Q (.bl (decide (x=y))) H
noncomputable def rNe:R2:=fun x y H Q=>scal x y=true∧Q (.bl (!decide (x=y))) H

theorem qIq {i j:Int}:decide (V.int i=V.int j)=(i == j):=by
 rw[Bool.eq_iff_iff]
 simp
theorem qOw {i j:Bool}:decide (V.bl i=V.bl j)=(i == j):=by
 rw[Bool.eq_iff_iff]
 simp
theorem qHo {i j:Str}:decide (V.str i=V.str j)=(i == j):=by
 rw[Bool.eq_iff_iff]
 simp
theorem qIx {i j:Array UInt8}:decide (V.byt i=V.byt j)=(i.toList == j.toList):=by
 rw[Bool.eq_iff_iff]
 cases i
 cases j
 simp

section
variable {X:Cx}{a b c:Expr}{ta tb tc:TE}{pos:Pos}
theorem zE {pins:List (Addr×Obj)}{σ:St}{H:Hp}{s:Shared}{Q:VK}{k k':Bool}(I:Inv X pins σ H s)(q:Q (.bl k) H)(e:k=k'):EP X pins σ Q (.bool k') s:=by
 subst e
 exact⟨.bl k,H,I,rfl,q⟩
theorem zM:OpR X (compareOp .Eq) rEq:=by
 intro pins s σ H x y v u Q I rx ry h
 obtain⟨hs,q⟩:=h
 cases x with
 | non=>
  cases rx
  cases y with
  | non=>cases ry;exact PySem.EqNone.eq_none_none (zE I q (by simp))
  | bl j=>cases ry;exact PySem.EqNone.eq_none_bool (zE I q (by simp))
  | int j=>obtain⟨t',rfl⟩:=ry;exact PySem.EqNone.eq_none_int (zE I q (by simp))
  | str j=>obtain⟨t',rfl⟩:=ry;exact PySem.EqNone.eq_none_str (zE I q (by simp))
  | _=>exact absurd (show false=true from hs) Bool.false_ne_true
 | bl i=>
  cases rx
  cases y with
  | non=>cases ry;exact PySem.EqNone.eq_bool_none (zE I q (by simp))
  | bl j=>cases ry;exact eq_bool (zE I q qOw)
  | str j=>obtain⟨t',rfl⟩:=ry;exact PySem.EqMixed.eq_bool_str (zE I q (by simp))
  | _=>exact absurd (show false=true from hs) Bool.false_ne_true
 | int i=>
  obtain⟨t,rfl⟩:=rx
  cases y with
  | non=>cases ry;exact PySem.EqNone.eq_int_none (zE I q (by simp))
  | int j=>obtain⟨t',rfl⟩:=ry;exact eq_int (zE I q qIq)
  | str j=>obtain⟨t',rfl⟩:=ry;exact PySem.EqMixed.eq_int_str (zE I q (by simp))
  | _=>exact absurd (show false=true from hs) Bool.false_ne_true
 | str i=>
  obtain⟨t,rfl⟩:=rx
  cases y with
  | non=>cases ry;exact PySem.EqNone.eq_str_none (zE I q (by simp))
  | bl j=>cases ry;exact PySem.EqMixed.eq_str_bool (zE I q (by simp))
  | int j=>obtain⟨t',rfl⟩:=ry;exact PySem.EqMixed.eq_str_int (zE I q (by simp))
  | str j=>obtain⟨t',rfl⟩:=ry;exact eq_str (zE I q qHo)
  | _=>exact absurd (show false=true from hs) Bool.false_ne_true
 | byt i=>
  obtain⟨t,rfl⟩:=rx
  cases y with
  | byt j=>obtain⟨t',rfl⟩:=ry;exact PySem.W.eq_bytes (zE I q qIx)
  | _=>exact absurd (show false=true from hs) Bool.false_ne_true
 | _=>cases y <;> exact absurd (show false=true from hs) Bool.false_ne_true
theorem xQz:OpR X (compareOp .NotEq) rNe:=by
 intro pins s σ H x y v u Q I rx ry h
 obtain⟨hs,q⟩:=h
 cases x with
 | non=>
  cases rx
  cases y with
  | non=>cases ry;exact PySem.EqNone.ne_none_none (zE I q (by simp))
  | bl j=>cases ry;exact PySem.EqNone.ne_none_bool (zE I q (by simp))
  | int j=>obtain⟨t',rfl⟩:=ry;exact PySem.EqNone.ne_none_int (zE I q (by simp))
  | str j=>obtain⟨t',rfl⟩:=ry;exact PySem.EqNone.ne_none_str (zE I q (by simp))
  | _=>exact absurd (show false=true from hs) Bool.false_ne_true
 | bl i=>
  cases rx
  cases y with
  | non=>cases ry;exact PySem.EqNone.ne_bool_none (zE I q (by simp))
  | bl j=>cases ry;exact ne_bool (zE I q (congrArg not qOw))
  | str j=>obtain⟨t',rfl⟩:=ry;exact PySem.EqMixed.ne_bool_str (zE I q (by simp))
  | _=>exact absurd (show false=true from hs) Bool.false_ne_true
 | int i=>
  obtain⟨t,rfl⟩:=rx
  cases y with
  | non=>cases ry;exact PySem.EqNone.ne_int_none (zE I q (by simp))
  | int j=>obtain⟨t',rfl⟩:=ry;exact ne_int (zE I q (congrArg not qIq))
  | str j=>obtain⟨t',rfl⟩:=ry;exact PySem.EqMixed.ne_int_str (zE I q (by simp))
  | _=>exact absurd (show false=true from hs) Bool.false_ne_true
 | str i=>
  obtain⟨t,rfl⟩:=rx
  cases y with
  | non=>cases ry;exact PySem.EqNone.ne_str_none (zE I q (by simp))
  | bl j=>cases ry;exact PySem.EqMixed.ne_str_bool (zE I q (by simp))
  | int j=>obtain⟨t',rfl⟩:=ry;exact PySem.EqMixed.ne_str_int (zE I q (by simp))
  | str j=>obtain⟨t',rfl⟩:=ry;exact ne_str (zE I q (congrArg not qHo))
  | _=>exact absurd (show false=true from hs) Bool.false_ne_true
 | byt i=>
  obtain⟨t,rfl⟩:=rx
  cases y with
  | byt j=>obtain⟨t',rfl⟩:=ry;exact PySem.W.ne_bytes (zE I q (congrArg not qIx))
  | _=>exact absurd (show false=true from hs) Bool.false_ne_true
 | _=>cases y <;> exact absurd (show false=true from hs) Bool.false_ne_true

theorem qQf:OpR X (compareOp .Lt) (rI0 fun i j=>.bl (decide (i<j))):=opB0 fun _ _ _ _ _ _ _ q=>lt_int q
theorem qMh:OpR X (compareOp .Gt) (rI0 fun i j=>.bl (decide (j<i))):=opB0 fun _ _ _ _ _ _ _ q=>gt_int q
theorem qTv:OpR X (compareOp .GtE) (rI0 fun i j=>.bl (decide (j≤i))):=opB0 fun _ _ _ _ _ _ _ q=>ge_int q
theorem xE (b:Expr){op:CmpOp}(h:op≠.In:=by decide)(h2:op≠.NotIn:=by decide):behindInMarks op b=false:=by
 have e1:(op == CmpOp.In)=false:=by cases op <;> first | rfl | exact absurd rfl h
 have e2:(op == CmpOp.NotIn)=false:=by cases op <;> first | rfl | exact absurd rfl h2
 cases b <;> simp[behindInMarks,e1,e2]
theorem vQ {op:CmpOp}{r:R2}(ho:OpR X (compareOp op) r)(ha:PE X a ta)(hb:PE X b tb)(hm:behindInMarks op b=false):PE X (.Compare a [op] [b] pos) (tOp r ta tb):=by
 intro pins s σ H Q I h
 exact wpAny_Compare1 (binT ha hb I h fun v u s2 x y H2 I2 rx ry q=>ho pins s2 σ H2 x y v u Q I2 rx ry q) hm
noncomputable def tTest (t:TE):TT:=fun σ H Q=>t σ H fun x H'=>∃k,x=.bl k∧Q k H'
theorem qS {op:CmpOp}{r:R2}(ho:OpR X (compareOp op) r)(ha:PE X a ta)(hb:PE X b tb)(hm:behindInMarks op b=false):PT X (.Compare a [op] [b] pos) (tTest (tOp r ta tb)):=by
 intro pins s σ H Q I h
 refine wpAny_isTrue_Compare1 (thn (ha pins s σ H _ I h) fun v s1 ⟨x,H1,I1,r1,q1⟩=>thn (hb pins s1 σ H1 _ I1 q1) fun u s2 ⟨y,H2,I2,r2,q2⟩=>
  thn (ho pins s2 σ H2 x y v u _ I2 r1 r2 q2) fun c s3 ⟨z,H3,I3,r3,k,e,q3⟩=>?_) hm
 subst e
 cases r3
 exact wpAny_truthy_bool ⟨H3,I3,q3⟩
theorem line63:(sizeLine:Nat)<2 ^ 63:=by rw[sizeLine_eq];decide
theorem yF:OpR X (binaryOp .Add) (fun x y H Q=>∃i j,x=.str i∧y=.str j∧i.length+j.length≤sizeLine∧Q (.str (i++j)) H):=by
 intro pins s σ H x y v u Q I rx ry h
 obtain⟨i,j,rfl,rfl,hz,q⟩:=h
 obtain⟨t,rfl⟩:=rx
 obtain⟨t',rfl⟩:=ry
 exact add_str (fun t' tk=>⟨.str (i++j),H,I.tok _,⟨_,rfl⟩,q⟩) hz
theorem vals1 {x:V}{us:List Value}(r:Vals [x] us):∃u,us=[u]∧RelV x u:=by
 cases r with
 | cons r1 r2=>cases r2;exact⟨_,rfl,r1⟩
theorem vals2 {x y:V}{us:List Value}(r:Vals [x,y] us):∃u w',us=[u,w']∧RelV x u∧RelV y w':=by
 cases r with
 | cons r1 r2=>
  cases r2 with
  | cons r3 r4=>cases r4;exact⟨_,_,rfl,r1,r3⟩
theorem qIa (hc:X.calm=true):CallR X (.builtin "max") (fun xs H Q=>∃i j,xs=[.int i,.int j]∧Q (.int (if j>i then j else i)) H):=by
 intro pins s σ H xs us Q I r h
 obtain⟨i,j,rfl,q⟩:=h
 obtain⟨u,w',rfl,⟨t,rfl⟩,⟨t',rfl⟩⟩:=vals2 r
 refine max_two_ints (I.ok.hd hc) fun h' tk k=>⟨_,H,I.kept k,?_,q⟩
 by_cases hj:j>i
 ·rw[if_pos hj,if_pos hj];exact⟨_,rfl⟩
 ·rw[if_neg hj,if_neg hj];exact⟨_,rfl⟩
theorem wH (hc:X.calm=true):CallR X (.builtin "min") (fun xs H Q=>∃i j,xs=[.int i,.int j]∧Q (.int (if j<i then j else i)) H):=by
 intro pins s σ H xs us Q I r h
 obtain⟨i,j,rfl,q⟩:=h
 obtain⟨u,w',rfl,⟨t,rfl⟩,⟨t',rfl⟩⟩:=vals2 r
 refine min_two_ints (I.ok.hd hc) fun h' tk k=>⟨_,H,I.kept k,?_,q⟩
 by_cases hj:j<i
 ·rw[if_pos hj,if_pos hj];exact⟨_,rfl⟩
 ·rw[if_neg hj,if_neg hj];exact⟨_,rfl⟩
theorem qZe:CallR X (.type "int") (fun xs H Q=>(∃i,xs=[.int i]∧Q (.int i) H)∨∃k,xs=[.bl k]∧Q (.int (if k then 1 else 0)) H):=by
 intro pins s σ H xs us Q I r h
 rcases h with⟨i,rfl,q⟩ | ⟨k,rfl,q⟩
 ·obtain⟨u,rfl,t,rfl⟩:=vals1 r
  exact call_int_int ⟨.int i,H,I,⟨_,rfl⟩,q⟩
 ·obtain⟨u,rfl,r1⟩:=vals1 r
  cases r1
  exact call_int_bool ⟨.int (if k then 1 else 0),H,I.tok _,⟨_,rfl⟩,q⟩
end
end L2

namespace L2
open PySem PySem.Spec PyProof.Rows

structure ObjM (h:Heap)(x dx C:Addr)(mA:Str→Option Value):Prop where
 obj:h.get? x=some (PySem.W.instObj C dx)
 ns:h.Ns1 dx mA
 ne:dx≠x

theorem qGl {h:Heap}{dx:Addr}{mA:Str→Option Value}(n:h.Ns1 dx mA):∃od,h.get? dx=some od∧∀name,PySem.W.lookIn name od=some (mA name):=by
 obtain⟨o,es,ep,ho,hd,hk,_,hm⟩:=n
 refine⟨o,ho,fun name=>?_⟩
 have e:=hm name
 unfold nsFind findBy at e
 rw[← Array.find?_toList] at e
 unfold PySem.W.lookIn
 rw[hd]
 dsimp only
 split
 ·rename_i y q
  rw[q] at e
  exact congrArg some e
 ·rename_i q
  rw[q] at e
  have a:es.toList.any (·.refKey)=false:=by
   rw[List.any_eq_false]
   intro y hy
   obtain⟨z,t,hkey⟩:=hk y (Array.mem_toList_iff.mp hy)
   simp[DictEntry.refKey,hkey]
  have a':¬es.toList.any (·.refKey)=true:=by rw[a];exact Bool.false_ne_true
  rw[if_neg a']
  exact congrArg some e

theorem ObjM.look {h:Heap}{x dx C:Addr}{mA:Str→Option Value}(I:ObjM h x dx C mA):∃od,PySem.W.InstAt h x (PySem.W.instObj C dx) C (some od)∧∀name,PySem.W.lookIn name od=some (mA name):=
 let ⟨od,ho,hl⟩:=qGl I.ns
 ⟨od,⟨I.obj,rfl,rfl,ho⟩,hl⟩

section
variable {prog:Program}{w:World}{A:Around}{E:Value→Shared→Prop}{s:Shared}{K:PySem.W.Frag}{x dx C f:Addr}{mA:Str→Option Value}{name:Str}{v:Value}

end

theorem RelO.some_of {v:V}{o:Option Value}(r:RelO (some v) o):∃u,o=some u∧RelV v u:=by
 cases o with
 | none=>exact(show False from r).elim
 | some u=>exact⟨u,rfl,r⟩
section
variable {P:Program}{w:World}{H H':Hp}{h h':Heap}{a C dx:Addr}{fs fs':List (Str×V)}
theorem qRx (hok:HOk P w H h)(e:H a=some (.ins C dx fs)):∃mA,ObjM h a dx C mA∧(∀f,RelO (fs.lookup f) (mA f))∧PySem.Within mA (fs.map (·.1))∧fs.length≤1000∧H dx=some (.own a):=by
 obtain⟨d,z,ne,ob,mA,n,r,q⟩:=(show ObjOk P w H h a (.ins C dx fs) from hok a _ e)
 exact⟨mA,⟨ob,n,ne⟩,r,q,z,d⟩
end

structure Cls (K:PySem.W.Frag)(C:Addr):Prop where
 pg:PySem.W.plainGet K C Str.empty=true
 hd:PySem.W.hasDictIn K C=true
 po:PySem.W.plainOver K C=true
 sa:PySem.W.findIn K (.ref C) "__setattr__" = some (some (.builtin "object.__setattr__"))
theorem Cls.get {K:PySem.W.Frag}{C:Addr}(c:Cls K C)(f:Str):PySem.W.plainGet K C f=true:=c.pg
section
variable {X:Cx}{pins:List (Addr×Obj)}{σ:St}{H:Hp}{s:Shared}{a C dx:Addr}{fs:List (Str×V)}{f:Str}{v:V}{A:Around}{E:Value→Shared→Prop}

end

section
variable {X:Cx}{o e value:Expr}{f:Str}{pos pos' tpos:Pos}{ta tv:TE}
end

section
variable {X:Cx}{pins:List (Addr×Obj)}{σ:St}{H:Hp}{s:Shared}{A:Around}{E:Value→Shared→Prop}{Q:Value→Shared→Prop}{c:Value}{b:Bool}
inductive TyOf (K:PySem.W.Frag)(H:Hp):V→Value→Prop where
 | non:TyOf K H .non (.type "NoneType")
 | bl (x:Bool):TyOf K H (.bl x) (.type "bool")
 | int (i:Int):TyOf K H (.int i) (.type "int")
 | str (x:Str):TyOf K H (.str x) (.type "str")
 | flt (x:UInt64):TyOf K H (.flt x) (.type "float")
 | lst {a:Addr} {xs:List V} (e:H a=some (.lst xs)):TyOf K H (.ref a) (.type "list")
 | frz {a:Addr} {o:Obj} {xs:List V} (e:H a=some (.frz o (.lst xs))):TyOf K H (.ref a) (.type "list")
 | tup {a:Addr} {xs:List V} (e:H a=some (.tup xs)):TyOf K H (.ref a) (.type "tuple")
 | dK {a:Addr} {kvs:List (Key×V)} (e:H a=some (.dK kvs)):TyOf K H (.ref a) (.type "dict")
 | dT {a:Addr} {kvs:List (List Key×V)} (e:H a=some (.dT kvs)):TyOf K H (.ref a) (.type "dict")
 | ins {a C dx:Addr} {fs:List (Str×V)} (e:H a=some (.ins C dx fs)) (cl:Cls K C) (ha:PySem.W.findIn K (.ref C) "__class__" = some (some (.builtin "object.__class__")))
   (hn:PySem.W.specialIn K (.builtin "object.__class__") "__get__" = some (some (.builtin "getset_descriptor.__get__"))) (htk:PySem.W.takesIn K (.builtin "object.__class__")=some true)
   (hm:PySem.W.mroIn K C (.type "object")=some true):TyOf K H (.ref a) (.ref C)
theorem qHv {x:V}{u t:Value}(I:Inv X pins σ H s)(rx:RelV x u)(ty:TyOf X.K H x t)(e:PySem.W.kitOne X.K t c=some b)(h:∀tk,Q (.bool b) { s with toks:=tk }):
  wpAny (model X.prog X.w) A (call (.builtin "isinstance") [u,c]) Q E s:=by
 cases ty with
 | non=>cases(show u=Value.none from rx);exact PySem.W.kia_one PySem.W.kitx_none I.kIn True.intro e (fun z=>nomatch z) h
 | bl y=>cases(show u=Value.bool y from rx);exact PySem.W.kia_one PySem.W.kitx_bool I.kIn True.intro e (fun z=>nomatch z) h
 | int i=>obtain⟨t,q⟩:=(show∃t,u=Value.int i t from rx);cases q;exact PySem.W.kia_one PySem.W.kitx_int I.kIn True.intro e (fun z=>nomatch z) h
 | str y=>obtain⟨t,q⟩:=(show∃t,u=Value.str y t from rx);cases q;exact PySem.W.kia_one PySem.W.kitx_str I.kIn True.intro e (fun z=>nomatch z) h
 | flt y=>obtain⟨t,q⟩:=(show∃t,u=Value.float y t from rx);cases q;exact PySem.W.kia_one PySem.W.kitx_float I.kIn True.intro e (fun z=>nomatch z) h
 | @lst a xs ea=>
  cases(show u=Value.ref a from rx)
  obtain⟨_,_,n,_,h1⟩:=(show ObjOk X.prog X.w H s.heap a (.lst xs) from I.hok a _ ea)
  exact PySem.W.kia_one PySem.W.kitx_list I.kIn ⟨_,h1,rfl⟩ e (fun z=>nomatch z) h
 | @frz a ob xs ea=>
  cases(show u=Value.ref a from rx)
  obtain⟨_,_,_,n,_,h1⟩:=(show ObjOk X.prog X.w H s.heap a (.frz ob (.lst xs)) from I.hok a _ ea)
  exact PySem.W.kia_one PySem.W.kitx_list I.kIn ⟨_,h1,rfl⟩ e (fun z=>nomatch z) h
 | @tup a xs ea=>
  cases(show u=Value.ref a from rx)
  obtain⟨_,_,_,p⟩:=(show ObjOk X.prog X.w H s.heap a (.tup xs) from I.hok a _ ea)
  obtain⟨o,h1,h2,_⟩:=p
  exact PySem.W.kia_one PySem.W.kitx_tuple I.kIn ⟨o,h1,h2⟩ e (fun z=>nomatch z) h
 | @dK a kvs ea=>
  cases(show u=Value.ref a from rx)
  obtain⟨_,_,vs,_,p⟩:=(show ObjOk X.prog X.w H s.heap a (.dK kvs) from I.hok a _ ea)
  obtain⟨o,es,ep,h1,h2,_⟩:=p
  exact PySem.W.kia_one PySem.W.kitx_dict I.kIn ⟨o,h1,h2.1⟩ e (fun z=>nomatch z) h
 | @dT a kvs ea=>
  cases(show u=Value.ref a from rx)
  obtain⟨_,_,xs,_,o,es,ep,h1,h2,_⟩:=(show ObjOk X.prog X.w H s.heap a (.dT kvs) from I.hok a _ ea)
  exact PySem.W.kia_one PySem.W.kitx_dict I.kIn ⟨o,h1,h2.1⟩ e (fun z=>nomatch z) h
 | @ins a C dx fs ea cl ha hn htk hm=>
  cases(show u=Value.ref a from rx)
  obtain⟨mA,O,_⟩:=qRx I.hok ea
  obtain⟨od,J,_⟩:=O.look
  exact PySem.W.kia_one (PySem.W.kitx_own (cl.get _) cl.hd ha hn htk hm) I.kIn J e (fun z=>nomatch z) h
end
end L2

namespace L2
open PySem PySem.Spec PyProof.Rows

structure Room (k:Nat)(A:Around):Prop where
 hd:A.handled=none
 dp:A.depth+3 * k+5<recursionLimit
 un:A.units+16 * k+200<cLine
theorem Room.mono {j k:Nat}{A:Around}(r:Room k A)(h:j≤k):Room j A:=⟨r.hd,by have:=r.dp;omega,by have:=r.un;omega⟩
theorem Room.deeper {k:Nat}{A:Around}(r:Room (k+1) A)(env:Env):Room k (A.deeper env):=
 ⟨r.hd,by have:=r.dp;show A.depth+1+3 * k+5<_;omega,by have:=r.un;show A.units+3+16 * k+200<_;omega⟩
theorem Room.depth {k:Nat}{A:Around}(r:Room k A):A.depth<recursionLimit:=by have:=r.dp;omega
theorem Room.units {k:Nat}{A:Around}(r:Room k A):A.units+64<cLine:=by have:=r.un;omega
noncomputable def tNil:TA:=fun _ H Q=>Q [] H
noncomputable def tCons (ta:TE)(tr:TA):TA:=fun σ H Q=>ta σ H fun x H1=>tr σ H1 fun xs H2=>Q (x::xs) H2
section
variable {X:Cx}{e:Expr}{es:List Expr}{te:TE}{t:TA}{pos:Pos}
theorem qX:PA X [] tNil:=fun _ _ _ _ H Q I h=>Calls.spliced_nil ⟨[],H,I,.nil,h⟩
theorem qQ (ha:PE X e te)(hr:PA X es t)(hs:starEach (e::es) X.env=(false,eval e X.env)::starEach es X.env:=by rfl):PA X (e::es) (tCons te t):=by
 intro pos pins s σ H Q I h
 rw[hs]
 show wpAny _ _ (spliced ((false,eval e X.env)::backTo pos (starEach es X.env))) _ _ s
 refine Calls.spliced_cons (thn (ha pins s σ H _ I h) fun u s1 ⟨x,H1,I1,r1,q1⟩=>?_)
 exact thn (hr pos pins s1 σ H1 _ I1 q1) fun us s2 ⟨xs,H2,I2,r2,q2⟩=>⟨x::xs,H2,I2,.cons r1 r2,q2⟩

noncomputable def tTup (t:TA):TE:=fun σ H Q=>t σ H fun xs H1=>xs.length≤sizeLine∧∀p,H1 p=none→Q (.ref p) (upd H1 p (.tup xs))
noncomputable def tLst (t:TA):TE:=fun σ H Q=>t σ H fun xs H1=>xs.length≤sizeLine∧∀p,H1 p=none→Q (.ref p) (upd H1 p (.lst xs))
theorem xG {x1}(h:PA X es t):PE X (.Tuple es x1 pos) (tTup t):=by
 intro pins s σ H Q I hq
 refine wpAny_Tuple_spliced (thn (h pos pins s σ H _ I hq) fun us s1 ⟨xs,H1,I1,r,z,q⟩=>⟨by rw[← r.length];exact z,?_⟩)
 have hf:H1 s1.heap.objs.size=none:=I1.hok.fresh (Nat.le_refl _)
 refine⟨.ref s1.heap.objs.size,upd H1 s1.heap.objs.size (.tup xs),I1.laid (t':=s1.toks) (fun b u e=>Heap.get?_push_of_some _ e) (Nat.le_refl _) ?_,rfl,q _ hf⟩
 exact⟨z,us,r,⟨_,Heap.get?_push_size _ rfl,rfl,_,rfl,rfl⟩⟩
theorem xI (h:PA X es t):PE X (.List es pos) (tLst t):=by
 intro pins s σ H Q I hq
 refine wpAny_List_spliced (thn (h pos pins s σ H _ I hq) fun us s1 ⟨xs,H1,I1,r,z,q⟩=>⟨by rw[← r.length];exact z,?_⟩)
 have hf:H1 s1.heap.objs.size=none:=I1.hok.fresh (Nat.le_refl _)
 refine⟨.ref s1.heap.objs.size,upd H1 s1.heap.objs.size (.lst xs),I1.laid (t':=s1.toks) (fun b u e=>Heap.get?_push_of_some _ e) (Nat.le_refl _) ?_,rfl,q _ hf⟩
 exact⟨z,us,0,r,Heap.get?_push_size _ rfl⟩
end

noncomputable abbrev Sp:=List V→Hp→VK→XK→Prop
noncomputable abbrev CXT:=List Env→Hp→Shared→XK→Value→Shared→Prop

structure Env0 (P:Program)(w:World)(K:PySem.W.Frag)(mg:Str→Option Value)(base:Heap)(A:Around)(outer:List Env)(s:Shared)(H:Hp):Prop where
 frames:A.frames=some outer
 mod:Mod K mg base
 bs:∀b o,base.get? b=some o→s.heap.get? b=some o∧H b=none
 bsz:base.objs.size≤s.heap.objs.size
 funs:s.heap.FunFrames base outer
 frf:∀b∈frs outer,H b=none
 hok:HOk P w H s.heap
 bare:AllBare s.gens
noncomputable def CE (outer:List Env)(P:Program)(w:World)(H:Hp)(s:Shared)(Q:VK)(u:Value)(s':Shared):Prop:=
 ∃v H',s'.os=s.os∧AllBare s'.gens∧Un (frs outer) [] H H' s.heap s'.heap∧HOk P w H' s'.heap∧RelV v u∧Q v H'
noncomputable def CR (CX:CXT)(outer:List Env)(P:Program)(w:World)(H:Hp)(s:Shared)(Q:VK)(E:XK)(r:Result)(s':Shared):Prop:=
 match r with
 | .ok (.ret u)=>CE outer P w H s Q u s'
 | .ok _=>False
 | .error e=>CX outer H s E e s'
structure FnOk (P:Program)(w:World)(K:PySem.W.Frag)(mg:Str→Option Value)(base:Heap)(CX:CXT)(k:Nat)(f:Addr)(fd:FuncData)(ps:List Str)(sp:Sp):Prop where
 len:∀vs H Q E,sp vs H Q E→vs.length=ps.length
 run:∀(A:Around) (outer:List Env) (s:Shared) (H:Hp) (args:Args) (us:List Value) (vs:List V) (Q:VK) (E:XK),Room k A→Env0 P w K mg base A outer s H→BindsTo s fd args (ps.zip us)→Vals vs us→sp vs H Q E→
  codeAny (model P w) A (.call (.ref f) args) (CR CX outer P w H s Q E) s
theorem FnOk.mono {P:Program}{w:World}{K:PySem.W.Frag}{mg:Str→Option Value}{base:Heap}{CX:CXT}{j k:Nat}{f:Addr}{fd:FuncData}{ps:List Str}{sp:Sp}(F:FnOk P w K mg base CX j f fd ps sp)(h:j≤k):
  FnOk P w K mg base CX k f fd ps sp:=⟨F.len,fun A outer s H args us vs Q E hr=>F.run A outer s H args us vs Q E (hr.mono h)⟩
section
variable {X:Cx}{pins:List (Addr×Obj)}{σ:St}{H:Hp}{s s':Shared}
theorem Inv.env0 (I:Inv X pins σ H s):Env0 X.prog X.w X.K X.mg X.base X.A X.stack s H:=
 ⟨I.ok.frames,I.ok.mod,I.bs,Nat.le_trans I.ok.bsz I.sz,I.stack,I.stkFree,I.hok,I.bare⟩
theorem Inv.after {Q:VK}{u:Value}(I:Inv X pins σ H s)(h:CE X.stack X.prog X.w H s Q u s'):EP X pins σ Q u s':=by
 obtain⟨v,H',os,bare,un,hok,r,q⟩:=h
 obtain⟨hh,g,d,t,os'⟩:=s'
 obtain rfl:os'=s.os:=os
 exact⟨v,H',I.call (h':=hh) (g':=g) (d':=d) (t':=t) (ch:=[]) un hok bare (fun b z=>absurd z (by simp)),r,q⟩
end

noncomputable def tCall (sp:Sp)(dvs:List V)(E:XK)(t:TA):TE:=fun σ H Q=>t σ H fun vs H1=>sp (vs++dvs) H1 Q E
noncomputable def Binds (K:PySem.W.Frag)(fd:FuncData)(ps:List Str)(ds:List Value):Prop:=
 ∀(s:Shared) (us:List Value),K.In s.heap→(us++ds).length=ps.length→BindsTo s fd ⟨us,[]⟩ (ps.zip (us++ds))
theorem Binds.all {K:PySem.W.Frag}{fd:FuncData}{ps:List Str}(h:∀us:List Value,us.length=ps.length→bindArgs fd ⟨us,[]⟩=pure (ps.zip us)):Binds K fd ps []:=fun s us _ hl=>by
 rw[List.append_nil] at hl ⊢
 exact .of_eq (h us hl)

noncomputable def Passes (CX:CXT)(X:Cx)(E:XK):Prop:=∀(pins:List (Addr×Obj)) (σ:St) (H:Hp) (s:Shared) (e:Value) (s':Shared),Inv X pins σ H s→CX X.stack H s E e s'→X.xe e s'

section
variable {X:Cx}{CX:CXT}{k:Nat}{f C:Addr}{fd:FuncData}{ps:List Str}{sp:Sp}{dvs:List V}{ds:List Value}{E:XK}{x m:Str}{p pos apos:Pos}{e o:Expr}{es:List Expr}{ta:TE}{t:TA}

theorem qSf {pins:List (Addr×Obj)}{σ:St}{H:Hp}{s:Shared}{Q:VK}{us:List Value}{vs:List V}(F:FnOk X.prog X.w X.K X.mg X.base CX k f fd ps sp)(hr:Room k X.A)(hb:Binds X.K fd ps ds)(hd:Vals dvs ds)(hx:Passes CX X E)
  (I:Inv X pins σ H s) (r:Vals vs us) (h:sp (vs++dvs) H Q E):wpAny (model X.prog X.w) X.A (call (.ref f) us) (EP X pins σ Q) X.xe s:=by
 have r2:Vals (vs++dvs) (us++ds):=r.append hd
 have hl:(us++ds).length=ps.length:=by rw[← r2.length];exact F.len _ _ _ _ h
 refine wpAny_call (codeAny_mono (F.run X.A X.stack s H ⟨us,[]⟩ (us++ds) (vs++dvs) Q E hr I.env0 (hb s us I.kIn hl) r2 h) fun r s' hq=>?_)
 cases r with
 | error e=>exact hx pins σ H s e s' I hq
 | ok fl=>
  cases fl with
  | ret u=>exact I.after hq
  | next=>exact False.elim hq
  | brk=>exact False.elim hq
  | cont=>exact False.elim hq

theorem zI (F:FnOk X.prog X.w X.K X.mg X.base CX k f fd ps sp)(hr:Room k X.A)(hg:Gl X x)(hm:X.mg x=some (.ref f))(hk:PySem.W.keepIn X.K (.ref f)=true)(hb:Binds X.K fd ps ds)(hd:Vals dvs ds)(hx:Passes CX X E)
  (ha:PA X (e::es) t) (hdb:(x == ("__debug__" : Str))=false:=by decide) (he:starEach (e::es) X.env=(false,eval e X.env)::starEach es X.env:=by rfl) (hpl:(backTo pos (starEach es X.env)).any (·.1)=false:=by rfl):
  PE X (.Call (.Name x p) (e::es) [] pos) (tCall sp dvs E t):=by
 intro pins s σ H Q I h
 refine wpAny_Call_Name_kw (qZj I hg hm ?_ hdb)
 refine PySem.W.callWith_K (h₀:=X.base) I.ok.mod.kin hk (thn (ha pos pins s σ H _ I h) fun us s1 ⟨vs,H1,I1,r,q⟩=>⟨I1.kIn,?_⟩) he hpl
 exact qSf F hr hb hd hx I1 r q
end

section
variable {X:Cx}{CX:CXT}{k:Nat}{f C:Addr}{fd:FuncData}{ps ks:List Str}{sp:Sp}{E:XK}{x m:Str}{p pos apos kpos:Pos}{e o:Expr}{es:List Expr}{kws:List Keyword}{te ta:TE}{t tk:TA}{nm:Option Str}
variable {g:List Value→List Value→List Value}{gV:List V→List V→List V}
end

structure xM (N P:List Str)(sc:Scope):Prop where
 kind:sc.kind=.function
 co:sc.isCoroutine=false
 gen:sc.isGenerator=false
 nd:N.Nodup
 pre:N.take P.length=P
 par:∀x∈P,sc.names.lookup x=some .local∨sc.names.lookup x=some .cell
 nofree:∀y∈sc.names,y.2≠.free

theorem qVn {kindOf:Str→Option NameKind}{x:Str}:∀{binds:List (Str×Value)} {m:Str→Option Value},(∀v,(x,v)∉binds)→bindL kindOf binds m x=m x
 | [],_,_=>rfl
 | (n,v)::r,m,h=>by
  unfold bindL
  rw[qVn fun w hw=>h w (List.mem_cons_of_mem _ hw)]
  split
  ·have:x≠n:=by rintro rfl;exact h v List.mem_cons_self
   simp[this]
  ·rfl
theorem qWq {kindOf:Str→Option NameKind}{x:Str}:∀{binds:List (Str×Value)} {m:Str→Option Value},(∀v,(x,v)∉binds)→bindC kindOf binds m x=m x
 | [],_,_=>rfl
 | (n,v)::r,m,h=>by
  unfold bindC
  rw[qWq fun w hw=>h w (List.mem_cons_of_mem _ hw)]
  split
  ·rfl
  ·have:x≠n:=by rintro rfl;exact h v List.mem_cons_self
   simp[this]
theorem qVo {kindOf:Str→Option NameKind}{x:Str}{v:Value}:∀{P:List Str} {vs:List Value} {i:Nat} {m:Str→Option Value},P.Nodup→P[i]? = some x→vs[i]? = some v→kindOf x=some .local→
  bindL kindOf (P.zip vs) m x=some v
 | [],_,_,_,_,h,_,_=>by simp at h
 | _::_,[],_,_,_,_,h,_=>by simp at h
 | p::P,w::vs,0,m,nd,h1,h2,hk=>by
  simp at h1 h2;subst h1;subst h2
  show bindL kindOf ((p,w)::P.zip vs) m p=_
  unfold bindL
  rw[qVn fun v hv=>(List.nodup_cons.mp nd).1 (List.of_mem_zip hv).1,if_pos hk]
  simp
 | p::P,w::vs,i+1,m,nd,h1,h2,hk=>by
  show bindL kindOf ((p,w)::P.zip vs) m x=_
  unfold bindL
  exact qVo (i:=i) (List.nodup_cons.mp nd).2 (by simpa using h1) (by simpa using h2) hk
theorem qWx {kindOf:Str→Option NameKind}{x:Str}{v:Value}:∀{P:List Str} {vs:List Value} {i:Nat} {m:Str→Option Value},P.Nodup→P[i]? = some x→vs[i]? = some v→kindOf x≠some .local→
  bindC kindOf (P.zip vs) m x=some v
 | [],_,_,_,_,h,_,_=>by simp at h
 | _::_,[],_,_,_,_,h,_=>by simp at h
 | p::P,w::vs,0,m,nd,h1,h2,hk=>by
  simp at h1 h2;subst h1;subst h2
  show bindC kindOf ((p,w)::P.zip vs) m p=_
  unfold bindC
  rw[qWq fun v hv=>(List.nodup_cons.mp nd).1 (List.of_mem_zip hv).1,if_neg hk]
  simp
 | p::P,w::vs,i+1,m,nd,h1,h2,hk=>by
  show bindC kindOf ((p,w)::P.zip vs) m x=_
  unfold bindC
  exact qWx (i:=i) (List.nodup_cons.mp nd).2 (by simpa using h1) (by simpa using h2) hk

noncomputable def start (N:List Str)(vs:List V):St:=vs.map some++List.replicate (N.length - vs.length) none

noncomputable def cxOf (CX:CXT)(P:Program)(w:World)(K:PySem.W.Frag)(mg:Str→Option Value)(base:Heap)(N:List Str)(qual:Str)(scope:Scope)(f:Addr)(cd:Value)(A:Around)(outer:List Env)(s:Shared)(H:Hp)(E:XK):Cx where
 prog:=P
 w:=w
 K:=K
 mg:=mg
 base:=base
 A:=A.deeper (envOfC qual scope s.heap.objs.size f cd)
 N:=N
 s₀:=s
 H₀:=H
 env:=envOfC qual scope s.heap.objs.size f cd
 outer:=outer
 stack:=envOfC qual scope s.heap.objs.size f cd::outer
 ex:=[]
 calm:=true
 fn:=fun _=>true
 pn:=[]
 xe:=fun e s'=>wpAny (model P w) (A.deeper (envOfC qual scope s.heap.objs.size f cd)) (leaving (envOfC qual scope s.heap.objs.size f cd) e) (fun _ s''=>CX outer H s E e s'') (fun e' s''=>CX outer H s E e' s'') s'

theorem qCk {sc:Scope}{n:Nat}{x:Str}(h:sc.names.lookup x=some .cell):∃c,(cellsFrom n sc.names []).lookup x=some c:=by
 have q:=PySem.W.cellsFrom_some sc.names n [] (.inl h)
 exact Option.isSome_iff_exists.mp q

theorem qHw {CX:CXT}{P:Program}{w:World}{K:PySem.W.Frag}{mg:Str→Option Value}{base:Heap}{N ps:List Str}{qual:Str}{scope:Scope}{f:Addr}{cd:Value}{A:Around}{outer:List Env}{s s1:Shared}{H:Hp}{E:XK}{us:List Value}{vs:List V}
  (S:xM N ps scope) (hd:A.handled=none) (e0:Env0 P w K mg base A outer s H) (hl:vs.length=ps.length) (r:Vals vs us)
  (x:InCallC s s.heap.objs.size (bindL (envOfC qual scope s.heap.objs.size f cd).kindOf (ps.zip us) fun _=>none) (cellsFrom (s.heap.objs.size+1) scope.names []) (bindC (envOfC qual scope s.heap.objs.size f cd).kindOf (ps.zip us) fun _=>none) s1):
  Inv (cxOf CX P w K mg base N qual scope f cd A outer s H E) [] (start N vs) H s1:=by
 have hpl:ps.length≤N.length:=by have:=congrArg List.length S.pre;rw[List.length_take] at this;omega
 obtain⟨h1,tk,rfl,hk⟩:=x.done
 have noA:∀b:Addr,b∉(cxOf CX P w K mg base N qual scope f cd A outer s H E).ex:=fun b z=>absurd (show b∈([]:List Addr) from z) (by simp)
 refine⟨⟨e0.mod,S.kind,rfl,rfl,Nat.le_refl _,fun y z c h1 h2=>?_,fun y hy=>?_,fun y c _ h=>?_,fun _=>hd,Around.frames_deeper e0.frames,.inr ⟨rfl,rfl⟩,fun b z=>absurd z (noA b),e0.bs,e0.bsz,fun b _ _=>noA b,fun b z=>absurd z (noA b),e0.funs,e0.frf⟩,
  rfl,e0.bare,Un.kept hk,⟨_,x.toInCall.ns,fun i y v h1 h2 h3=>?_⟩,fun y c h=>⟨_,x.cell y c h⟩,e0.hok.fresh (Nat.le_refl _),fun y c h=>?_,fun p hp=>absurd (show p∈([]:List (Addr×Obj)) from hp) (by simp),e0.hok.kept hk,?_⟩
 ·exact name_of_addr x.apart (PySem.mem_of_lookup h1) (PySem.mem_of_lookup h2)
 ·have hy:scope.names.lookup y=some .cell∨scope.names.lookup y=some .free:=hy
  rcases hy with hy | hy
  ·exact qCk hy
  ·exact absurd rfl (S.nofree _ (PySem.mem_of_lookup hy))
 ·exact Nat.le_of_lt (x.above y c (PySem.mem_of_lookup h))
 ·have hi:i<vs.length:=by
   unfold start at h2
   by_cases hi:i<vs.length
   ·exact hi
   ·rw[List.getElem?_append_right (by simpa using hi)] at h2
    rw[List.getElem?_replicate] at h2
    split at h2 <;> cases h2
  have ha:vs[i]? = some v:=by
   unfold start at h2
   rw[List.getElem?_append_left (by simpa using hi),List.getElem?_map] at h2
   cases e:vs[i]? with
   | none=>rw[e] at h2;cases h2
   | some a=>rw[e] at h2;cases h2;rfl
  obtain⟨u,hu,rv⟩:=r.get ha
  have hp:ps[i]? = some y:=by
   rw[← S.pre,List.getElem?_take_of_lt (by omega)];exact h1
  have ndP:ps.Nodup:=by rw[← S.pre];exact S.nd.sublist (List.take_sublist _ _)
  refine⟨u,rv,?_⟩
  rcases S.par y (List.mem_of_getElem? hp) with k | k
  ·exact .inl ⟨k,qVo ndP hp hu k⟩
  ·obtain⟨c,e⟩:=qCk (n:=s.heap.objs.size+1) k
   refine .inr ⟨.inl k,c,e,?_⟩
   have q:=x.cell y c e
   rw[qWx ndP hp hu (by show scope.names.lookup y≠_;rw[k];decide)] at q
   exact q
 ·exact e0.hok.fresh (Nat.le_of_lt (x.above y c (PySem.mem_of_lookup h)))
 ·unfold start
  show _=N.length
  rw[List.length_append,List.length_map,List.length_replicate]
  omega

theorem qUq {CX:CXT}{P:Program}{w:World}{K:PySem.W.Frag}{mg:Str→Option Value}{base:Heap}{k:Nat}{f:Addr}{name qual:Str}{params:Arguments}{body:List Stmt}{scope:Scope}{dV kV doc pm cdv ct oc:Value}{an od:Option Addr}
  {osl:Array (Option Value)} {N ps:List Str} {sp:Sp} (lk:K.lookup f=some ⟨oc,od,.func (PySem.W.fnOf name qual params body scope dV kV doc pm an cdv ct),osl⟩) (hcd:PySem.W.codeIn K cdv qual=true) (S:xM N ps scope)
  (len:∀vs H Q E,sp vs H Q E→vs.length=ps.length)
  (hbody:∀(A:Around) (outer:List Env) (s:Shared) (H:Hp) (vs:List V) (Q:VK) (E:XK),Room k (A.deeper (envOfC qual scope s.heap.objs.size f cdv))→sp vs H Q E→
   ∃t,PSs (cxOf CX P w K mg base N qual scope f cdv A outer s H E) body t∧t { nx:=fun _ H'=>Q .non H',rt:=Q } (start N vs) H):
  FnOk P w K mg base CX (k+1) f (PySem.W.fnOf name qual params body scope dV kV doc pm an cdv ct) ps sp:=by
 refine⟨len,fun A outer s H args us vs Q E hr e0 hb r hsp=>?_⟩
 have hl:=len _ _ _ _ hsp
 have KX:K.In s.heap:=e0.mod.kin.keeps fun b o e=>(e0.bs b o e).1
 have lim:s.heap.NoLimit:=e0.mod.nolimit.keeps fun b o e=>(e0.bs b o e).1
 have hkind:∀y∈ps.zip us,scope.names.lookup y.1=some .local∨(scope.names.lookup y.1=some .cell∧((cellsFrom (s.heap.objs.size+1) scope.names []).lookup y.1).isSome=true):=fun⟨n,v⟩ hy=>by
  rcases S.par n (List.of_mem_zip hy).1 with q | q
  ·exact .inl q
  ·exact .inr ⟨q,PySem.W.cellsFrom_some _ _ _ (.inl q)⟩
 refine codeAny_call_function hr.depth (KX _ _ lk) rfl S.co S.gen rfl (PySem.W.codeRec_of KX hcd) (hb _ _ _ _ ?_)
 refine wpAny_newFunctionEnv_cells S.kind hkind fun env he s1 x=>?_
 subst he
 refine⟨lim.keeps x.toInCall.keep,codeAny_func ?_⟩
 obtain⟨t,ht,hq⟩:=hbody A outer s H vs Q E (hr.deeper _) hsp
 have I:Inv (cxOf CX P w K mg base N qual scope f cdv A outer s H E) [] (start N vs) H s1:=qHw S hr.hd e0 hl r x
 refine wpAny_mono (ht [] s1 (start N vs) H _ I hq) (fun fl s' hs=>?_) fun e s' hs=>hs
 have fin:∀{σ':St} {H':Hp} {v:V} {u:Value},Inv (cxOf CX P w K mg base N qual scope f cdv A outer s H E) [] σ' H' s'→RelV v u→Q v H'→CE outer P w H s Q u s':=
  fun{σ' H' v u} J rv q=>⟨v,H',J.os,J.bare,J.base,J.hok,rv,q⟩
 cases fl with
 | ret u=>
  obtain⟨v,σ',H',J,rv,q⟩:=hs
  exact fin J rv q
 | next=>
  obtain⟨σ',H',J,q⟩:=hs
  exact fin (v:=V.non) (u:=Value.none) J rfl q
 | brk=>
  obtain⟨_,_,_,q⟩:=hs
  exact False.elim q
 | cont=>
  obtain⟨_,_,_,q⟩:=hs
  exact False.elim q
end L2

namespace L2
open PySem PySem.Spec PyProof.Rows
section
variable {X:Cx}{x:Str}{p pos:Pos}{e:Expr}{es:List Expr}{t:TA}{id T:String}{r:List V→Hp→VK→Prop}

noncomputable def tCB (r:List V→Hp→VK→Prop)(t:TA):TE:=fun σ H Q=>t σ H fun vs H1=>r vs H1 Q
theorem xJ (hc:CallR X (.builtin id) r)(hg:Gl X x)(hm:X.mg x=none)(hv:bootBuiltins x=some (.builtin id))(ha:PA X (e::es) t)(hn:x ≠ "__name__" := by decide)(hdb:(x == ("__debug__" : Str))=false:=by decide)
  (he:starEach (e::es) X.env=(false,eval e X.env)::starEach es X.env:=by rfl) (hpl:(backTo pos (starEach es X.env)).any (·.1)=false:=by rfl):PE X (.Call (.Name x p) (e::es) [] pos) (tCB r t):=by
 intro pins s σ H Q I h
 refine wpAny_Call_Name_kw (qZk I hg hm hv ?_ hn hdb)
 exact PyProof.Rows.callWith_builtin1 (thn (ha pos pins s σ H _ I h) fun us s1 ⟨vs,H1,I1,r1,q1⟩=>hc pins s1 σ H1 vs us Q I1 r1 q1) he hpl
theorem xZ (hc:CallR X (.type T) r)(hg:Gl X x)(hm:X.mg x=none)(hv:bootBuiltins x=some (.type T))(ha:PA X (e::es) t)(hn:x ≠ "__name__" := by decide)(hdb:(x == ("__debug__" : Str))=false:=by decide)
  (he:starEach (e::es) X.env=(false,eval e X.env)::starEach es X.env:=by rfl) (hpl:(backTo pos (starEach es X.env)).any (·.1)=false:=by rfl):PE X (.Call (.Name x p) (e::es) [] pos) (tCB r t):=by
 intro pins s σ H Q I h
 refine wpAny_Call_Name_kw (qZk I hg hm hv ?_ hn hdb)
 exact PyProof.Rows.callWith_type1 (thn (ha pos pins s σ H _ I h) fun us s1 ⟨vs,H1,I1,r1,q1⟩=>hc pins s1 σ H1 vs us Q I1 r1 q1) he hpl
end
end L2

namespace HT
open PySem PyProof.Rows

section
open PySem.SeqAt
open PySem.AutoSeq1 (wpAny_loadPart')
open PySem.MeetsSeq PySem.MeetsSeq2 PySem.MeetsSeq3

end

section
variable {prog:Program}{w:World}{A:Around}{E:Value→Shared→Prop}{s:Shared}

theorem cat_tup {t b:Addr}{vs ws:List Value}{Q:Value→Shared→Prop}(ht:IsTup s.heap t vs.toArray)(hb:IsTup s.heap b ws.toArray)(hv:vs≠[])
  (h1:ws=[]→Q (.ref t) s) (h2:ws≠[]→Q (.ref s.heap.objs.size) { s with heap:=s.heap.push { cls:=.type "tuple",data:=.seq (vs++ws).toArray } })
  (hsz:vs.length+ws.length≤sizeLine):wpAny (model prog w) A (binaryOp .Add (.ref t) (.ref b)) Q E s:=by
 obtain⟨⟨cls,dd,data,sl⟩,ho,hc,n,hd⟩:=id ht
 obtain⟨⟨cls2,dd2,data2,sl2⟩,ho2,hc2,n2,hd2⟩:=id hb
 simp only at hc hd hc2 hd2
 subst hc hd hc2 hd2
 have e:vs.toArray++ws.toArray=(vs++ws).toArray:=by simp
 by_cases hw:ws=[]
 ·exact concat_meets ⟨_,ho,rfl⟩ ⟨_,ho2,rfl⟩ noFill_tuple_add seq_tuple_add PySem.F.slot_tuple_add PySem.F.entry_tuple_add (PySem.F.args_tuple_add_2 _ _)
   (tuple_addW1 t b vs.toArray ws.toArray n n2 dd dd2 sl sl2 (by simpa using hv) (by simp[hw])) ⟨ho,ho2,h1 hw⟩
 ·refine concat_meets ⟨_,ho,rfl⟩ ⟨_,ho2,rfl⟩ noFill_tuple_add seq_tuple_add PySem.F.slot_tuple_add PySem.F.entry_tuple_add (PySem.F.args_tuple_add_2 _ _)
   (tuple_addW2 t b vs.toArray ws.toArray n n2 dd dd2 sl sl2 (by simpa using hv) (by simpa using hw) (by rw[List.size_toArray,List.size_toArray];exact hsz)) ⟨ho,ho2,?_⟩
  rw[e]
  exact h2 hw

noncomputable def sIx (n d:Nat):Option Int→Nat
 | none=>d
 | some v=>if v<0 then (v+(n:Int)).toNat else min v.toNat n
theorem sIx_none (n d:Nat):sIx n d none=d:=rfl
theorem sIx_nat (n d k:Nat):sIx n d (some (k:Int))=min k n:=by
 show(if (k:Int)<0 then ((k:Int)+(n:Int)).toNat else min (k:Int).toNat n)=min k n
 rw[if_neg (by omega),Int.toNat_natCast]
theorem qSe (n d:Nat)(hd:d≤n)(o:Option Int):sIx n d o≤n:=by
 cases o with
 | none=>exact hd
 | some v=>
  show(if v<0 then (v+(n:Int)).toNat else min v.toNat n)≤n
  by_cases hv:v<0
  ·rw[if_pos hv];omega
  ·rw[if_neg hv];exact Nat.min_le_right _ _
theorem qIk (v:Int)(n d:Nat):(if v<0 then max (v+(n:Int)) 0 else min v (n:Int))=((sIx n d (some v):Nat):Int):=by
 show(if v<0 then max (v+(n:Int)) 0 else min v (n:Int))=(((if v<0 then (v+(n:Int)).toNat else min v.toNat n):Nat):Int)
 by_cases hv:v<0
 ·simp only[if_pos hv];omega
 ·simp only[if_neg hv];omega
theorem qEk (lo hi:Option Int)(n:Nat):Builtin.Slice.sliceAdjust lo hi 1 (n:Int)=(((sIx n 0 lo:Nat):Int),((sIx n n hi:Nat):Int)):=by
 have h1:¬((1:Int)<0):=by omega
 unfold Builtin.Slice.sliceAdjust
 simp only[h1,if_false]
 refine Prod.ext ?_ ?_
 ·cases lo with
  | none=>rfl
  | some v=>exact qIk v n 0
 ·cases hi with
  | none=>rfl
  | some v=>exact qIk v n n
theorem qDx (i j:Nat):Builtin.Slice.slicePlaces (i:Int) (j:Int) 1=j - i:=by
 unfold Builtin.Slice.slicePlaces
 have h1:(1:Int)>0:=by omega
 simp only[h1,if_true,Int.ediv_one]
 split <;> omega
theorem qJz {v:Value}{o:Option Int}{Q:Option Int→Shared→Prop}(p:IsPart v o)(h:Q o s):wpAny (model prog w) A (Builtin.Slice.slicePartIndex v) Q E s:=by
 cases p with
 | none=>exact slicePart_none h
 | int i t=>exact slicePart_int h
theorem qQe {sl:Addr}{vl vu:Value}{lo hi:Option Int}{n:Nat}{Q:Int×Int×Nat→Shared→Prop}(hs:s.heap.IsSliceOf sl vl vu .none)(pl:IsPart vl lo)(pu:IsPart vu hi)
  (h:Q (((sIx n 0 lo:Nat):Int),1,sIx n n hi - sIx n 0 lo) s):wpAny (model prog w) A (Builtin.Slice.sliceApplied (.ref sl) (pure (n:Int))) Q E s:=by
 obtain⟨os,hos,hcs,hds⟩:=id hs
 unfold Builtin.Slice.sliceApplied Builtin.Slice.sliceFields
 refine wpAny_bind (wpAny_bind (wpAny_field hos hds (x:=vl) rfl (wpAny_bind (wpAny_field hos hds (x:=vu) rfl (wpAny_bind (wpAny_field hos hds (x:=.none) rfl (wpAny_pure ?_)))))))
 refine wpAny_bind (slicePart_none ?_)
 show wpAny _ _ (if ((1:Int) == 0)=true then _ else _) _ _ s
 rw[if_neg (by decide)]
 refine wpAny_bind (qJz pl (wpAny_bind (qJz pu (wpAny_bind (wpAny_pure ?_)))))
 show wpAny _ _ (match Builtin.Slice.sliceAdjust lo hi 1 (n:Int) with | (lo,hi)=>pure (lo,(1:Int),Builtin.Slice.slicePlaces lo hi 1)) _ _ s
 rw[qEk lo hi n]
 show wpAny _ _ (pure (((sIx n 0 lo:Nat):Int),(1:Int),Builtin.Slice.slicePlaces ((sIx n 0 lo:Nat):Int) ((sIx n n hi:Nat):Int) 1)) _ _ s
 rw[qDx]
 exact wpAny_pure h
theorem qMe (xs:Array Value)(i k:Nat):((List.range k).filterMap fun(m:Nat)=>xs[((i:Int)+(m:Int) * 1).toNat]?).toArray=((xs.toList.drop i).take k).toArray:=by
 have e:(fun(m:Nat)=>xs[((i:Int)+(m:Int) * 1).toNat]?)=fun m=>xs[i+m]? := by
  funext m
  have:((i:Int)+(m:Int) * 1).toNat=i+m:=by omega
  rw[this]
 rw[e]
 have:=pick_run xs i k
 rw[List.filterMap_map] at this
 have e2:((fun x=>xs[x]?)∘fun x=>i+x)=fun m=>xs[i+m]? := rfl
 rw[e2] at this
 rw[this]

theorem getItem_tuple_cut {t sl:Addr}{items:Array Value}{vl vu:Value}{lo hi:Option Int}{Q:Value→Shared→Prop}(ht:IsTup s.heap t items)(hs:s.heap.IsSliceOf sl vl vu .none)(pl:IsPart vl lo)(pu:IsPart vu hi)
  (hw:¬(sIx items.size 0 lo=0∧sIx items.size items.size hi=items.size))
  (h:Q (.ref s.heap.objs.size) { s with heap:=s.heap.push { cls:=.type "tuple",data:=.seq ((items.toList.drop (sIx items.size 0 lo)).take (sIx items.size items.size hi - sIx items.size 0 lo)).toArray } })
  (hsz:items.size≤sizeLine):wpAny (model prog w) A (getItem (.ref t) (.ref sl)) Q E s:=by
 have htake:sizeOk (.seq ((items.toList.drop (sIx items.size 0 lo)).take (sIx items.size items.size hi - sIx items.size 0 lo)).toArray):=by
  show((items.toList.drop (sIx items.size 0 lo)).take (sIx items.size items.size hi - sIx items.size 0 lo)).toArray.size≤sizeLine
  rw[List.size_toArray,List.length_take,List.length_drop,Array.length_toList]
  omega
 have hj:sIx items.size items.size hi≤items.size:=qSe _ _ (Nat.le_refl _) hi
 obtain⟨os,hos,hcs,hds⟩:=id hs
 have hTs:s.TypeIs (.ref sl) "slice" := ⟨os,hos,hcs⟩
 unfold getItem
 try with_reducible refine wpAny_holding ?_
 first | refine wpAny_bind (wpAny_pure ?_) | skip
 refine wpAny_bind (wpAny_sequenceKey ht.typeIs (by decide) ?_)
 refine wpAny_bind (wpAny_callSpecial?_slot (name:=Str.ofString "__getitem__") ht.typeIs PyProof.Rows.slot_tuple_getitem
  (wpAny_call_entry PyProof.Rows.slot_tuple_getitem ht.typeIs entry_tuple_getitem ?_ (args_tuple_getitem _ _)))
 show wpAny _ _ (Builtin.Tuple.tupleItemsOf (.ref t) >>= _) _ _ s
 refine wpAny_bind (tupleItemsOf_ ht ?_)
 refine wpAny_bind (wpAny_typeOf hTs ?_)
 rw[if_pos (by decide)]
 refine wpAny_bind (qQe hs pl pu ?_)
 have hno:¬((((sIx items.size 0 lo:Nat):Int) == 0 && (1:Int) == 1 && (sIx items.size items.size hi - sIx items.size 0 lo) == items.size)=true):=by
  intro q
  rw[Bool.and_eq_true,Bool.and_eq_true] at q
  have q1:((sIx items.size 0 lo:Nat):Int)=0:=eq_of_beq q.1.1
  have q2:sIx items.size items.size hi - sIx items.size 0 lo=items.size:=eq_of_beq q.2
  exact hw ⟨by omega,by omega⟩
 show wpAny _ _ (if (((sIx items.size 0 lo:Nat):Int) == 0 && (1:Int) == 1 && (sIx items.size items.size hi - sIx items.size 0 lo) == items.size)=true then _ else _) _ _ s
 rw[if_neg hno,qMe]
 first
  | exact wpAny_bind (m:=Builtin.Tuple.tupleExact _) (wpAny_newObj_type (wpAny_pure ⟨_,rfl,wpAny_pure h⟩) htake)
  | exact wpAny_bind (m:=Builtin.Tuple.tupleExact _) (wpAny_newObj_type (wpAny_bind (wpAny_pure (wpAny_pure ⟨_,rfl,wpAny_pure h⟩))) htake)
  | exact wpAny_bind (wpAny_bind (m:=Builtin.Tuple.tupleExact _) (wpAny_newObj_type (wpAny_pure (wpAny_pure ⟨_,rfl,wpAny_pure h⟩)) htake))
  | exact wpAny_bind (wpAny_bind (m:=Builtin.Tuple.tupleExact _) (wpAny_newObj_type (wpAny_pure ⟨_,rfl,wpAny_pure h⟩) htake))
end
end HT

namespace L2
open PySem PySem.Spec PyProof.Rows

noncomputable abbrev TO:=St→Hp→(Option Int→Hp→Prop)→Prop
noncomputable def PO (X:Cx)(e:Option Expr)(t:TO):Prop:=
 ∀(pins:List (Addr×Obj)) (s:Shared) (σ:St) (H:Hp) (Q:Option Int→Hp→Prop),Inv X pins σ H s→t σ H Q→
  wpAny (model X.prog X.w) X.A (evalPart e X.env) (fun u s'=>∃o H',Inv X pins σ H' s'∧IsPart u o∧Q o H') X.xe s
noncomputable def qEi:TO:=fun _ H Q=>Q none H
noncomputable def tPart (t:TE):TO:=fun σ H Q=>t σ H fun x H1=>∃i,x=.int i∧Q (some i) H1

section
variable {X:Cx}{e:Expr}{te:TE}{lo hi:Option Expr}{tl th:TO}{pos p2:Pos}

theorem zZ:PO X none qEi:=by
 intro pins s σ H Q I h
 rw[evalPart_none]
 exact wpAny_pure ⟨none,H,I,.none,h⟩
theorem zQ (h:PE X e te):PO X (some e) (tPart te):=by
 intro pins s σ H Q I hw
 rw[evalPart_some]
 refine thn (h pins s σ H _ I hw) fun u s1 ⟨x,H1,I1,r1,q1⟩=>?_
 obtain⟨i,rfl,q⟩:=q1
 obtain⟨t,rfl⟩:=r1
 exact⟨some i,H1,I1,.int i t,q⟩

noncomputable def SlR (X:Cx)(r:V→Option Int→Option Int→Hp→VK→Prop):Prop:=
 ∀(pins:List (Addr×Obj)) (s:Shared) (σ:St) (H:Hp) (x:V) (v vl vu:Value) (lo hi:Option Int) (sl:Addr) (Q:VK),Inv X pins σ H s→RelV x v→s.heap.IsSliceOf sl vl vu .none→IsPart vl lo→IsPart vu hi→r x lo hi H Q→
  ∃T id,typeLookup (.type T) "__getitem__" = pure (some (.builtin id))∧s.TypeIs v T∧wpAny (model X.prog X.w) X.A (getItem v (.ref sl)) (EP X pins σ Q) X.xe s
noncomputable def tSl (r:V→Option Int→Option Int→Hp→VK→Prop)(te:TE)(tl th:TO):TE:=fun σ H Q=>te σ H fun x H1=>tl σ H1 fun l H2=>th σ H2 fun u H3=>r x l u H3 Q
theorem xP {r:V→Option Int→Option Int→Hp→VK→Prop}(hr:SlR X r)(he:PE X e te)(hl:PO X lo tl)(hu:PO X hi th):PE X (.Subscript e (.Slice lo hi none p2) pos) (tSl r te tl th):=by
 intro pins s σ H Q I h
 refine Subscript_ (thn (he pins s σ H _ I h) fun v s1 ⟨x,H1,I1,r1,q1⟩=>?_)
 refine wpAny_Slice (thn (hl pins s1 σ H1 _ I1 q1) fun vl s2 ⟨l,H2,I2,pl,q2⟩=>thn (hu pins s2 σ H2 _ I2 q2) fun vu s3 ⟨u,H3,I3,pu,q3⟩=>?_)
 rw[evalPart_none]
 refine wpAny_pure ?_
 have I4:Inv X pins σ H3 { s3 with heap:=s3.heap.push { cls:=.type "slice",data:=.fields #[vl,vu,.none] } }:=I3.kept (t':=s3.toks) fun b ob q=>Heap.get?_push_of_some _ q
 obtain⟨T,id,hT,ht,hg⟩:=hr pins { s3 with heap:=s3.heap.push { cls:=.type "slice",data:=.fields #[vl,vu,.none] } } σ H3 x v vl vu l u s3.heap.objs.size Q I4 r1 (Heap.IsSliceOf.new ..) pl pu q3
 show wpAny (model X.prog X.w) X.A (subscriptTail e (.Slice lo hi none p2) v (.ref s3.heap.objs.size)) (EP X pins σ Q) X.xe { s3 with heap:=s3.heap.push { cls:=.type "slice",data:=.fields #[vl,vu,.none] } }
 exact tail_any (ops:=[.ref s3.heap.objs.size,v]) ht hT hg (by with_unfolding_all rfl)

noncomputable def cutV (xs:List V)(lo hi:Option Int):List V:=(xs.drop (HT.sIx xs.length 0 lo)).take (HT.sIx xs.length xs.length hi - HT.sIx xs.length 0 lo)
theorem wQ (xs:List V)(lo hi:Option Int):(cutV xs lo hi).length≤xs.length:=by
 unfold cutV
 rw[List.length_take,List.length_drop]
 omega
noncomputable def rSlT (K:PySem.W.Frag):V→Option Int→Option Int→Hp→VK→Prop:=fun x lo hi H Q=>∃a xs,x=.ref a∧SqT K H a xs∧
 ¬(HT.sIx xs.length 0 lo=0∧HT.sIx xs.length xs.length hi=xs.length)∧∀p,H p=none→Q (.ref p) (upd H p (.tup (cutV xs lo hi)))
theorem qSd:SlR X (rSlT X.K):=by
 intro pins s σ H x v vl vu lo hi sl Q I rx hs pl pu h
 obtain⟨a,xs,rfl,hx,hw,q⟩:=h
 cases rx
 obtain⟨its,r,ht,hz⟩:=I.tuple hx
 have hlen:its.toArray.size=xs.length:=by rw[List.size_toArray];exact r.length.symm
 refine⟨"tuple",_,PyProof.Rows.slot_tuple_getitem.lookup,ht.typeIs,?_⟩
 refine HT.getItem_tuple_cut ht hs pl pu (by rw[hlen];exact hw) ?_ (by rw[hlen];exact hz)
 rw[hlen]
 refine⟨.ref s.heap.objs.size,_,I.laid (t':=s.toks) (o:=.tup (cutV xs lo hi)) (fun b ob q=>Heap.get?_push_of_some _ q) (Nat.le_refl _) ?_,rfl,q _ (I.hok.fresh (Nat.le_refl _))⟩
 exact⟨Nat.le_trans (wQ xs lo hi) hz,_,(r.drop (HT.sIx xs.length 0 lo)).take (HT.sIx xs.length xs.length hi - HT.sIx xs.length 0 lo),TupX.new _ _⟩

noncomputable def rCatT (K:PySem.W.Frag):R2:=fun x y H Q=>∃a b xs ys,x=.ref a∧y=.ref b∧SqT K H a xs∧SqT K H b ys∧xs≠[]∧xs.length+ys.length≤sizeLine∧
 (ys=[]→Q (.ref a) H)∧(ys≠[]→∀p,H p=none→Q (.ref p) (upd H p (.tup (xs++ys))))
theorem Vals.nil_iff {xs:List V}{us:List Value}(r:Vals xs us):us=[]↔xs=[]:=by
 cases r with
 | nil=>simp
 | cons _ _=>simp
theorem qGz:OpR X (binaryOp .Add) (rCatT X.K):=by
 intro pins s σ H x y v u Q I rx ry h
 obtain⟨a,b,xs,ys,rfl,rfl,ha,hb,hx,hz,q1,q2⟩:=h
 cases rx
 cases ry
 obtain⟨its,r1,p1,_⟩:=I.tuple ha
 obtain⟨its2,r2,p2,_⟩:=I.tuple hb
 refine HT.cat_tup p1 p2 (fun z=>hx (r1.nil_iff.mp z)) (fun z=>⟨.ref a,H,I,rfl,q1 (r2.nil_iff.mp z)⟩) (fun z=>?_) (by rw[← r1.length,← r2.length];exact hz)
 refine⟨.ref s.heap.objs.size,_,I.laid (t':=s.toks) (o:=.tup (xs++ys)) (fun b ob q=>Heap.get?_push_of_some _ q) (Nat.le_refl _) ?_,rfl,q2 (fun w=>z (r2.nil_iff.mpr w)) _ (I.hok.fresh (Nat.le_refl _))⟩
 exact⟨by rw[List.length_append];exact hz,_,r1.append r2,TupX.new _ _⟩
end
end L2

namespace L2
open PySem PySem.Spec PyProof.Rows

noncomputable def ixN (n:Nat)(i:Int):Option Nat:=if 0≤i then (if i<n then some i.toNat else none) else if -(n:Int)≤i then some (i+n).toNat else none
noncomputable def atI {α:Type}(xs:List α)(i:Int):Option α:=(ixN xs.length i).bind fun j=>xs[j]?
theorem qHk {n:Nat}{i:Int}{j:Nat}(h:ixN n i=some j):seqIndex? i n=some j∧j<n∧-(n:Int)≤i∧i<n:=by
 unfold ixN at h
 by_cases h0:0≤i
 ·rw[if_pos h0] at h
  by_cases h1:i<n
  ·rw[if_pos h1] at h
   have e:i.toNat=j:=Option.some.inj h
   exact⟨by rw[seqIndex_of h0 h1,e],by omega,by omega,h1⟩
  ·rw[if_neg h1] at h;cases h
 ·rw[if_neg h0] at h
  by_cases h1 : -(n:Int)≤i
  ·rw[if_pos h1] at h
   have e:(i+n).toNat=j:=Option.some.inj h
   exact⟨by rw[seqIndex_neg (by omega) h1,e],by omega,h1,by omega⟩
  ·rw[if_neg h1] at h;cases h
theorem qAg {α:Type}{xs:List α}{i:Int}{v:α}(h:atI xs i=some v):∃j,seqIndex? i xs.length=some j∧xs[j]? = some v∧j<xs.length∧-(xs.length:Int)≤i∧i<xs.length:=by
 unfold atI at h
 cases e:ixN xs.length i with
 | none=>rw[e] at h;cases h
 | some j=>
  rw[e] at h
  obtain⟨h1,h2,h3,h4⟩:=qHk e
  exact⟨j,h1,h,h2,h3,h4⟩
theorem jR {α:Type}{xs:List α}{j:Nat}{v:α}(h:xs[j]? = some v):atI xs (j:Int)=some v:=by
 have hj:j<xs.length:=(List.getElem?_eq_some_iff.mp h).1
 have e:ixN xs.length (j:Int)=some j:=by
  unfold ixN
  rw[if_pos (by omega),if_pos (by omega)];simp
 unfold atI;rw[e];exact h
noncomputable def qRi (b:Expr):Prop:=∀o i,subscripted b false o i=operate [o,i] (getItem o i)
noncomputable def IxR (X:Cx)(r:R2):Prop:=
 ∀(value slice:Expr) (pins:List (Addr×Obj)) (s:Shared) (σ:St) (H:Hp) (x y:V) (v u:Value) (Q:VK),Inv X pins σ H s→RelV x v→RelV y u→r x y H Q→
  subscripted slice false v u=operate [v,u] (getItem v u)→wpAny (model X.prog X.w) X.A (subscriptTail value slice v u) (EP X pins σ Q) X.xe s
noncomputable def MtR (X:Cx)(id:String)(r:V→List V→Hp→VK→Prop):Prop:=
 ∀(pins:List (Addr×Obj)) (s:Shared) (σ:St) (H:Hp) (x:V) (xs:List V) (v:Value) (us:List Value) (Q:VK),Inv X pins σ H s→RelV x v→Vals xs us→r x xs H Q→
  wpAny (model X.prog X.w) X.A (call (.builtin id) (v::us)) (EP X pins σ Q) X.xe s
section
variable {X:Cx}{a b:Expr}{ta tb:TE}{pos:Pos}
theorem xH {r:R2}(hr:IxR X r)(ha:PE X a ta)(hb:PE X b tb)(hs:qRi b):PE X (.Subscript a b pos) (tOp r ta tb):=by
 intro pins s σ H Q I h
 exact Subscript_ (binT ha hb I h fun v u s2 x y H2 I2 rx ry q=>hr a b pins s2 σ H2 x y v u Q I2 rx ry q (hs _ _))

noncomputable def rIxL (K:PySem.W.Frag):R2:=fun x y H Q=>∃p xs i v,x=.ref p∧y=.int i∧SqL K H p xs∧atI xs i=some v∧Q v H
noncomputable def rIxT (K:PySem.W.Frag):R2:=fun x y H Q=>∃p xs i v,x=.ref p∧y=.int i∧SqT K H p xs∧atI xs i=some v∧Q v H
noncomputable def rIxS:R2:=fun x y H Q=>∃z i c,x=.str z∧y=.int i∧z.length≤sizeLine∧atI z.cps.toList i=some c∧Q (.str ⟨#[c]⟩) H
theorem qHj:IxR X (rIxL X.K):=by
 intro value slice pins s σ H x y v u Q I rx ry h hs
 obtain⟨p,xs,i,z,rfl,rfl,hq,he,q⟩:=h
 cases rx
 obtain⟨t,rfl⟩:=ry
 obtain⟨its,r,pl,hz⟩:=I.list hq
 obtain⟨j,h1,h2,h3,h4,h5⟩:=qAg he
 obtain⟨w,ew,rw'⟩:=r.get h2
 have hl:=r.length
 have hn:=line63
 have fin:EP X pins σ Q w s:=⟨z,H,I,rw',q⟩
 by_cases h0:0≤i
 ·have hj:i.toNat=j:=by
   rw[seqIndex_of h0 h5] at h1
   exact Option.some.inj h1
  exact item_listR pl.isList h0 (by omega) (by rw[hj];simpa using ew) fin hs
 ·have hj:(i+(its.toArray.size:Int)).toNat=j:=by
   rw[seqIndex_neg (by omega) h4] at h1
   rw[List.size_toArray,← hl]
   exact Option.some.inj h1
  exact subscriptTail_builtinR (x:=w) pl.isList.typeIs slot_list_getitem.lookup
   (wpAny_getItem_list_neg (Q:=fun r s'=>r=w∧EP X pins σ Q r s') pl.isList (by omega) (by rw[List.size_toArray] <;> omega) (by omega) (by rw[hj];simpa using ew) ⟨rfl,fin⟩) hs
theorem qHz:IxR X (rIxT X.K):=by
 intro value slice pins s σ H x y v u Q I rx ry h hs
 obtain⟨p,xs,i,z,rfl,rfl,hq,he,q⟩:=h
 cases rx
 obtain⟨t,rfl⟩:=ry
 obtain⟨its,r,pl,hz⟩:=I.tuple hq
 obtain⟨j,h1,h2,h3,h4,h5⟩:=qAg he
 obtain⟨w,ew,rw'⟩:=r.get h2
 have hl:=r.length
 have hn:=line63
 have fin:EP X pins σ Q w s:=⟨z,H,I,rw',q⟩
 exact subscriptTail_builtinR (x:=w) pl.typeIs slot_tuple_getitem.lookup
  (getItem_tuple (j:=j) (Q:=fun r s'=>r=w∧EP X pins σ Q r s') pl (by omega) (by omega) (by rw[List.size_toArray,← hl];exact h1) (by simpa using ew) ⟨rfl,fin⟩) hs
theorem qOx:IxR X rIxS:=by
 intro value slice pins s σ H x y v u Q I rx ry h hs
 obtain⟨z,i,c,rfl,rfl,hz,he,q⟩:=h
 obtain⟨t,rfl⟩:=rx
 obtain⟨t',rfl⟩:=ry
 obtain⟨j,h1,h2,h3,h4,h5⟩:=qAg he
 have hl:z.cps.toList.length=z.length:=by simp[Str.length]
 rw[hl] at h1 h4 h5
 have hn:=line63
 exact tail_any (typeIs_str s z t) slot_str_getitem.lookup (getItem_str (c:=c) (by
  have e1:decide (i < -(2 ^ 63:Int))=false:=decide_eq_false (by omega)
  have e2:decide (i≥2 ^ 63)=false:=decide_eq_false (by omega)
  rw[e1,e2,Bool.or_false]) (by rw[h1];simpa using h2) ⟨.str ⟨#[c]⟩,H,I.tok _,⟨_,rfl⟩,q⟩) hs
theorem qDv (its:List Value)(n j:Nat)(u:Value):Obj.mapSeq (·.setIfInBounds j u) { cls:=.type "list",data:=.seq its.toArray n }={ cls:=.type "list",data:=.seq (its.set j u).toArray n }:=by
 simp[Obj.mapSeq]
theorem Inv.lst {pins:List (Addr×Obj)}{σ:St}{H:Hp}{s:Shared}{p:Addr}{xs:List V}(I:Inv X pins σ H s)(h:H p=some (.lst xs)):
  ∃(its:List Value) (n:Nat),Vals xs its∧s.heap.get? p=some { cls:=.type "list",data:=.seq its.toArray n }∧xs.length≤sizeLine:=by
 obtain⟨z,its,n,r,e⟩:=I.hok p _ h
 exact⟨its,n,r,e,z⟩
theorem Inv.lstUpd {pins:List (Addr×Obj)}{σ:St}{H:Hp}{s:Shared}{p:Addr}{xs ys:List V}{its its':List Value}{n n':Nat}{f:Obj→Obj}(I:Inv X pins σ H s)(h:H p=some (.lst xs))
  (ho:s.heap.get? p=some { cls:=.type "list",data:=.seq its.toArray n }) (hf:f { cls:=.type "list",data:=.seq its.toArray n }={ cls:=.type "list",data:=.seq its'.toArray n' }) (r:Vals ys its') (hz:ys.length≤sizeLine) (t:Nat):
  Inv X pins σ (upd H p (.lst ys)) { s with heap:=s.heap.update p f,toks:=t }:=by
 have e:(s.heap.update p f).get? p=some { cls:=.type "list",data:=.seq its'.toArray n' }:=by
  rw[Heap.get?_update_self f ho (by rw[hf] <;> rfl),hf]
 refine I.write (x:=p) (e:=p) (by rw[h];trivial) (.inl rfl) (fun b u hb q=>(Heap.get?_update_other _ _ (Ne.symm hb)).trans q) ⟨_,e⟩ ?_
 exact⟨hz,its',n',r,e⟩
noncomputable def rSetL:V→V→V→Hp→(Hp→Prop)→Prop:=fun o i v H Q=>∃p xs k j,o=.ref p∧i=.int k∧H p=some (.lst xs)∧ixN xs.length k=some j∧Q (upd H p (.lst (xs.set j v)))
theorem qMw:PSet X rSetL:=by
 intro pins s σ H o i v ov iv u Q I ro ri rv h
 obtain⟨p,xs,k,j,rfl,rfl,hp,hj,q⟩:=h
 cases ro
 obtain⟨t,rfl⟩:=ri
 obtain⟨its,n,r,ho,hz⟩:=I.lst hp
 obtain⟨h1,h2,h3,h4⟩:=qHk hj
 have hl:=r.length
 have hn:=line63
 have I':Inv X pins σ (upd H p (.lst (xs.set j v))) { s with heap:=s.heap.update p (Obj.mapSeq (·.setIfInBounds j u)) }:=
  I.lstUpd hp ho (qDv its n j u) (r.set rv j) (by rw[List.length_set];exact hz) s.toks
 by_cases h0:0≤k
 ·have hk:k.toNat=j:=by
   rw[seqIndex_of h0 h4] at h1
   exact Option.some.inj h1
  exact PySem.W.ki_setAt ho h0 (by omega) (by rw[List.size_toArray,← hl];exact h4) (by rw[hk];exact⟨_,I',q⟩)
 ·have hk:(k+(its.toArray.size:Int)).toNat=j:=by
   rw[seqIndex_neg (by omega) h3] at h1
   rw[List.size_toArray,← hl]
   exact Option.some.inj h1
  exact PySem.W.ki_setBack ho (by omega) (by rw[List.size_toArray,← hl];exact h3) (by omega) (by rw[hk];exact⟨_,I',q⟩)

theorem qKb (lo hi:Option Int)(n:Nat):(sliceBounds lo hi none n).1=((HT.sIx n 0 lo:Nat):Int)∧(sliceBounds lo hi none n).2.1=((HT.sIx n n hi:Nat):Int)∧(sliceBounds lo hi none n).2.2=1:=by
 refine⟨?_,?_,rfl⟩
 ·cases lo with
  | none=>simp[sliceBounds,HT.sIx]
  | some i=>
   simp only[sliceBounds,HT.sIx,Option.getD_none,show(1:Int)>0 by decide,if_true]
   by_cases h:i<0
   ·simp only[h,if_true] <;> omega
   ·simp only[h,if_false] <;> omega
 ·cases hi with
  | none=>simp[sliceBounds,HT.sIx]
  | some i=>
   simp only[sliceBounds,HT.sIx,Option.getD_none,show(1:Int)>0 by decide,if_true]
   by_cases h:i<0
   ·simp only[h,if_true] <;> omega
   ·simp only[h,if_false] <;> omega
theorem qYv (its:List Value)(lo hi:Option Int):slicePick its.toArray lo hi none=((its.drop (HT.sIx its.length 0 lo)).take (HT.sIx its.length its.length hi - HT.sIx its.length 0 lo)).toArray:=by
 obtain⟨h1,h2,h3⟩:=qKb lo hi its.toArray.size
 unfold slicePick
 rw[h1,h2,h3]
 simp only[sliceRange_one,pick_run,List.size_toArray] <;> rfl
noncomputable def rSlL (K:PySem.W.Frag):V→Option Int→Option Int→Hp→VK→Prop:=fun x lo hi H Q=>∃a xs,x=.ref a∧SqL K H a xs∧∀p,H p=none→Q (.ref p) (upd H p (.lst (cutV xs lo hi)))
theorem qOh:SlR X (rSlL X.K):=by
 intro pins s σ H x v vl vu lo hi sl Q I rx hs pl pu h
 obtain⟨a,xs,rfl,hx,q⟩:=h
 cases rx
 obtain⟨its,r,ht,hz⟩:=I.list hx
 have hlen:=r.length
 refine⟨"list",_,slot_list_getitem.lookup,ht.isList.typeIs,?_⟩
 refine wpAny_getItem_list_slice ht.isList hs pl pu .none (by simp) ?_ (by rw[List.size_toArray] <;> omega)
 rw[qYv,← hlen]
 refine⟨.ref s.heap.objs.size,_,I.laid (t':=s.toks) (o:=.lst (cutV xs lo hi)) (fun b ob q=>Heap.get?_push_of_some _ q) (Nat.le_refl _) ?_,rfl,q _ (I.hok.fresh (Nat.le_refl _))⟩
 exact⟨Nat.le_trans (wQ xs lo hi) hz,_,0,(r.drop (HT.sIx xs.length 0 lo)).take (HT.sIx xs.length xs.length hi - HT.sIx xs.length 0 lo),Heap.get?_push_size _ rfl⟩

noncomputable def flatV:V→Bool
 | .non=>true
 | .bl _=>true
 | .int _=>true
 | .str _=>true
 | _=>false
noncomputable def eqV:V→V→Bool
 | .non,.non=>true
 | .bl a,.bl b=>a == b
 | .bl a,.int b=>(if a then 1 else 0) == b
 | .int a,.bl b=>a == (if b then 1 else 0)
 | .int a,.int b=>a == b
 | .str a,.str b=>a == b
 | _,_=>false
theorem qOk {A:Around}{s:Shared}{y x:V}{u v:Value}(ry:RelV y u)(rx:RelV x v)(fy:flatV y=true)(fx:flatV x=true):SeqAt.EqAt A s u v (eqV y x):=by
 cases y with
 | non=>
  cases ry
  cases x with
  | non=>cases rx;exact SeqAt.EqAt.same _
  | bl b=>cases rx;exact SeqAt.EqAt.none_bool b
  | int b=>obtain⟨t,rfl⟩:=rx;exact SeqAt.EqAt.none_int b t
  | str b=>obtain⟨t,rfl⟩:=rx;exact SeqAt.EqAt.none_str b t
  | _=>exact absurd (show false=true from fx) Bool.false_ne_true
 | bl a=>
  cases ry
  cases x with
  | non=>cases rx;exact SeqAt.EqAt.bool_none a
  | bl b=>cases rx;exact SeqAt.EqAt.bool_bool a b
  | int b=>obtain⟨t,rfl⟩:=rx;exact SeqAt.EqAt.bool_int a b t
  | str b=>obtain⟨t,rfl⟩:=rx;exact SeqAt.EqAt.bool_str a b t
  | _=>exact absurd (show false=true from fx) Bool.false_ne_true
 | int a=>
  obtain⟨t',rfl⟩:=ry
  cases x with
  | non=>cases rx;exact SeqAt.EqAt.int_none a t'
  | bl b=>cases rx;exact SeqAt.EqAt.int_bool a t' b
  | int b=>obtain⟨t,rfl⟩:=rx;exact SeqAt.EqAt.int_int a t' b t
  | str b=>obtain⟨t,rfl⟩:=rx;exact SeqAt.EqAt.int_str a t' b t
  | _=>exact absurd (show false=true from fx) Bool.false_ne_true
 | str a=>
  obtain⟨t',rfl⟩:=ry
  cases x with
  | non=>cases rx;exact SeqAt.EqAt.str_none a t'
  | bl b=>cases rx;exact SeqAt.EqAt.str_bool a t' b
  | int b=>obtain⟨t,rfl⟩:=rx;exact SeqAt.EqAt.str_int a t' b t
  | str b=>obtain⟨t,rfl⟩:=rx;exact SeqAt.EqAt.str_str a t' b t
  | _=>exact absurd (show false=true from fx) Bool.false_ne_true
 | _=>exact absurd (show false=true from fy) Bool.false_ne_true
noncomputable def eqU (x:V)(u:Value):Bool:=match u with
 | .none=>eqV .non x
 | .bool b=>eqV (.bl b) x
 | .int i _=>eqV (.int i) x
 | .str z _=>eqV (.str z) x
 | _=>false
theorem qOj {x y:V}{u:Value}(r:RelV y u)(f:flatV y=true):eqU x u=eqV y x:=by
 cases y with
 | non=>cases r;rfl
 | bl b=>cases r;rfl
 | int i=>obtain⟨t,rfl⟩:=r;rfl
 | str z=>obtain⟨t,rfl⟩:=r;rfl
 | _=>exact absurd (show false=true from f) Bool.false_ne_true
theorem qZh {x:V}:∀{xs:List V} {us:List Value},Vals xs us→xs.all flatV=true→us.any (eqU x)=xs.any fun y=>eqV y x
 | _,_,.nil,_=>rfl
 | y::xs,u::us,.cons r t,f=>by
  rw[List.all_cons,Bool.and_eq_true] at f
  rw[List.any_cons,List.any_cons,qOj r f.1,qZh t f.2]
theorem wA {A:Around}{s:Shared}{x:V}{v:Value}(rx:RelV x v)(fx:flatV x=true):∀{xs:List V} {us:List Value},Vals xs us→xs.all flatV=true→∀u∈us,SeqAt.EqAt A s u v (eqU x u)
 | _,_,.nil,_=>fun u hu=>by cases hu
 | y::xs,u::us,.cons r t,f=>fun u' hu=>by
  rw[List.all_cons,Bool.and_eq_true] at f
  rcases List.mem_cons.mp hu with rfl | hu
  ·rw[qOj r f.1];exact qOk r rx f.1 fx
  ·exact wA rx fx t f.2 u' hu
noncomputable def inV (x:V)(xs:List V):Bool:=xs.any fun y=>eqV y x
noncomputable def rIn (K:PySem.W.Frag)(neg:Bool):R2:=fun x y H Q=>∃p xs,y=.ref p∧(SqL K H p xs∨SqT K H p xs)∧flatV x=true∧xs.all flatV=true∧Q (.bl (if neg then !inV x xs else inV x xs)) H
theorem qGx:OpR X (compareOp .In) (rIn X.K false):=by
 intro pins s σ H x y v u Q I rx ry h
 obtain⟨p,xs,rfl,hq,fx,fs,q⟩:=h
 cases ry
 rcases hq with hq | hq
 ·obtain⟨its,r,pl,hz⟩:=I.list hq
  refine SeqAt.in_listAt (eqU x) pl.isList (fun w hw=>wA rx fx r fs w (by simpa using hw)) ⟨.bl _,H,I,rfl,?_⟩
  rw[show its.toArray.any (eqU x)=its.any (eqU x) by simp,qZh r fs]
  exact q
 ·obtain⟨its,r,pl,hz⟩:=I.tuple hq
  refine SeqAt.in_tupleAt (eqU x) pl (fun w hw=>wA rx fx r fs w (by simpa using hw)) ⟨.bl _,H,I,rfl,?_⟩
  rw[show its.toArray.any (eqU x)=its.any (eqU x) by simp,qZh r fs]
  exact q
theorem qKi:OpR X (compareOp .NotIn) (rIn X.K true):=by
 intro pins s σ H x y v u Q I rx ry h
 obtain⟨p,xs,rfl,hq,fx,fs,q⟩:=h
 cases ry
 rcases hq with hq | hq
 ·obtain⟨its,r,pl,hz⟩:=I.list hq
  refine SeqAt.notIn_listAt (eqU x) pl.isList (fun w hw=>wA rx fx r fs w (by simpa using hw)) ⟨.bl _,H,I,rfl,?_⟩
  rw[show its.toArray.any (eqU x)=its.any (eqU x) by simp,qZh r fs]
  exact q
 ·obtain⟨its,r,pl,hz⟩:=I.tuple hq
  refine SeqAt.notIn_tupleAt (eqU x) pl (fun w hw=>wA rx fx r fs w (by simpa using hw)) ⟨.bl _,H,I,rfl,?_⟩
  rw[show its.toArray.any (eqU x)=its.any (eqU x) by simp,qZh r fs]
  exact q
theorem qQc:CallR X (.builtin "len") (fun xs H Q=>∃p ys,xs=[.ref p]∧(SqL X.K H p ys∨SqT X.K H p ys)∧Q (.int ys.length) H):=by
 intro pins s σ H xs us Q I r h
 obtain⟨p,ys,rfl,hq,q⟩:=h
 obtain⟨u,rfl,rx⟩:=vals1 r
 cases rx
 have hn:=line63
 rcases hq with hq | hq
 ·obtain⟨its,r',pl,hz⟩:=I.list hq
  have hlen:=r'.length
  exact Calls.call_len_list pl.isList (by simp only[List.size_toArray] <;> omega) ⟨.int ys.length,H,I.tok _,⟨s.toks+1,by rw[List.size_toArray,hlen]⟩,q⟩
 ·obtain⟨its,r',pl,hz⟩:=I.tuple hq
  have hlen:=r'.length
  exact len_tuple pl (by simp only[List.size_toArray] <;> omega) ⟨.int ys.length,H,I.tok _,⟨s.toks+1,by rw[List.size_toArray,hlen]⟩,q⟩
theorem qVl:CallR X (.builtin "len") (fun xs H Q=>∃z,xs=[.str z]∧z.length≤sizeLine∧Q (.int z.length) H):=by
 intro pins s σ H xs us Q I r h
 obtain⟨z,rfl,hz,q⟩:=h
 obtain⟨u,rfl,t,rfl⟩:=vals1 r
 have hn:=line63
 exact len_str (by omega) ⟨.int z.length,H,I.tok _,⟨_,rfl⟩,q⟩
theorem qVi:CallR X (.type "list") (fun xs H Q=>∃p ys,xs=[.ref p]∧(SqL X.K H p ys∨SqT X.K H p ys)∧∀l,H l=none→Q (.ref l) (upd H l (.lst ys))):=by
 intro pins s σ H xs us Q I r h
 obtain⟨p,ys,rfl,hq,q⟩:=h
 obtain⟨u,rfl,rx⟩:=vals1 r
 cases rx
 have fin:∀(its:List Value),Vals ys its→ys.length≤sizeLine→∀(h':Heap) (c':Nat),(∀b o',s.heap.get? b=some o'→h'.get? b=some o')→
   h'.get? s.heap.objs.size=some { cls:=.type "list",dict:=none,data:=.seq its.toArray c',slots:=#[] }→EP X pins σ Q (.ref s.heap.objs.size) { s with heap:=h' }:=fun its r' hz h' c' kp e=>
  ⟨.ref s.heap.objs.size,_,I.laid (t':=s.toks) kp (Nat.le_refl _) (show ObjOk X.prog X.w _ h' _ (.lst ys) from⟨hz,its,c',r',e⟩),rfl,q _ (I.hok.fresh (Nat.le_refl _))⟩
 rcases hq with hq | hq
 ·obtain⟨its,r',pl,hz⟩:=I.list hq
  have hlen:=r'.length
  obtain⟨o,ho,hc,n,hd⟩:=pl.isList
  exact call_list_seq p (.inl rfl) ho hc hd (fun h' c' kp e=>fin its r' hz h' c' kp e) (by simp only[List.size_toArray] <;> omega)
 ·obtain⟨its,r',pl,hz⟩:=I.tuple hq
  have hlen:=r'.length
  obtain⟨o,ho,hc,n,hd⟩:=pl
  exact call_list_seq p (.inr rfl) ho hc hd (fun h' c' kp e=>fin its r' hz h' c' kp e) (by simp only[List.size_toArray] <;> omega)
noncomputable def tyV (K:PySem.W.Frag)(T:String)(x:V)(H:Hp):Prop:=match x with
 | .str _=>T = "str"
 | .int _=>T = "int"
 | .ref p=>(T = "list" ∧ ∃xs,SqL K H p xs)∨(T = "tuple" ∧ ∃o,K.lookup p=some o∧o.cls=.type "tuple" ∧ o.dict=none)∨
   (T = "dict" ∧ ((∃kvs,H p=some (.dK kvs))∨∃kvs,H p=some (.dT kvs)))∨(T = "set" ∧ ∃S n,H p=some (.set S n))
 | _=>False
theorem qNm {pins:List (Addr×Obj)}{σ:St}{H:Hp}{s:Shared}{T:String}{x:V}{v:Value}(I:Inv X pins σ H s)(r:RelV x v)(ty:tyV X.K T x H):
  s.TypeIs v T∧∀a,v=.ref a→∃ob,s.heap.get? a=some ob∧ob.dict=none:=by
 cases x with
 | str z=>
  obtain⟨t,rfl⟩:=r
  cases(show T = "str" from ty)
  exact⟨typeIs_str s z t,fun _ e=>nomatch e⟩
 | int i=>
  obtain⟨t,rfl⟩:=r
  cases(show T = "int" from ty)
  exact⟨typeIs_int s i t,fun _ e=>nomatch e⟩
 | ref p=>
  cases r
  rcases ty with⟨rfl,xs,hq⟩ | ⟨rfl,o,hk,hc,hd⟩ | ⟨rfl,hk⟩ | ⟨rfl,S,n,hk⟩
  ·obtain⟨its,_,pl,_⟩:=I.list hq
   refine⟨pl.isList.typeIs,fun a e=>?_⟩
   cases e
   obtain⟨o,n,e,c,hd,_⟩:=pl
   exact⟨o,e,hd⟩
  ·refine⟨⟨o,I.kIn p o hk,hc⟩,fun a e=>?_⟩
   cases e
   exact⟨o,I.kIn _ o hk,hd⟩
  ·have z:∃o,s.heap.get? p=some o∧o.ExactDict:=by
    rcases hk with⟨kvs,hk⟩ | ⟨kvs,hk⟩
    ·obtain⟨_,_,_,_,o,_,_,e,ex,_⟩:=I.hok p _ hk
     exact⟨o,e,ex⟩
    ·obtain⟨_,_,_,_,o,_,_,e,ex,_⟩:=I.hok p _ hk
     exact⟨o,e,ex⟩
   obtain⟨o,e,ex⟩:=z
   refine⟨⟨o,e,ex.1⟩,fun a e2=>?_⟩
   cases e2
   exact⟨o,e,ex.2.1⟩
  ·obtain⟨o,_,_,_,e,ex,_⟩:=I.hok p _ hk
   refine⟨⟨o,e,ex.1⟩,fun a e2=>?_⟩
   cases e2
   exact⟨o,e,ex.2.1⟩
 | _=>exact False.elim ty
noncomputable def tBM0 (K:PySem.W.Frag)(T:String)(r:V→List V→Hp→VK→Prop)(to:TE):TE:=fun σ H Q=>to σ H fun x H1=>tyV K T x H1∧r x [] H1 Q
noncomputable def tBM (K:PySem.W.Frag)(T:String)(r:V→List V→Hp→VK→Prop)(to:TE)(t:TA):TE:=fun σ H Q=>to σ H fun x H1=>tyV K T x H1∧t σ H1 fun xs H2=>r x xs H2 Q
variable {o e:Expr}{es:List Expr}{to:TE}{t:TA}{name:Str}{apos cpos:Pos}{T id:String}{r:V→List V→Hp→VK→Prop}
theorem qSo (pa:PlainAttrs T)(slot:Slot T name id)(hty:typeOf (.builtin id)=pure (.type "method_descriptor"))(hm:MtR X id r)(ho:PE X o to)
  (hbase:attributeBase o name X.env (eval o X.env)=eval o X.env:=by rfl) (hline:(apos.endLine == cpos.line)=true:=by rfl):PE X (.Call (.Attribute o name apos) [] [] cpos) (tBM0 X.K T r to):=by
 intro pins s σ H Q I h
 refine wpAny_Call_method0_late hbase hline (thn (ho pins s σ H _ I h) fun v s1 ⟨x,H1,I1,r1,ty,q1⟩=>?_)
 obtain⟨h1,h2⟩:=qNm I1 r1 ty
 exact⟨T,id,pa,slot,hty,h1,h2,Calls.callWith_builtin rfl (PySem.evalArgs_none (hm pins s1 σ H1 x [] v [] Q I1 r1 .nil q1))⟩
theorem xQx (pa:PlainAttrs T)(slot:Slot T name id)(hty:typeOf (.builtin id)=pure (.type "method_descriptor"))(hm:MtR X id r)(ho:PE X o to)(ha:PA X (e::es) t)
  (hbase:attributeBase o name X.env (eval o X.env)=eval o X.env:=by rfl)
  (hfew:((backTo cpos (starEach (e::es) X.env)).all (fun x=>!x.1) && (backToKw cpos (keywordEach [] X.env)).all (fun x=>x.1.isSome)
   && decide ((e::es).length+([]:List Keyword).length+(if ([]:List Keyword).isEmpty then 0 else 1)<30))=true:=by rfl)
  (hline:(apos.endLine == cpos.line)=true:=by rfl) (hs:starEach (e::es) X.env=(false,eval e X.env)::starEach es X.env:=by rfl) (hplain:(backTo cpos (starEach es X.env)).any (·.1)=false:=by rfl):
  PE X (.Call (.Attribute o name apos) (e::es) [] cpos) (tBM X.K T r to t):=by
 intro pins s σ H Q I h
 refine wpAny_Call_method_late hbase hfew hline rfl (thn (ho pins s σ H _ I h) fun v s1 ⟨x,H1,I1,r1,ty,q1⟩=>?_)
 obtain⟨h1,h2⟩:=qNm I1 r1 ty
 refine⟨T,id,pa,slot,hty,h1,h2,?_⟩
 have hA:=ha cpos pins s1 σ H1 _ I1 q1
 rw[hs] at hA ⊢
 refine Calls.callWith_builtin (by show(false || (backTo cpos (starEach es X.env)).any (·.1))=false;rw[hplain] <;> rfl) (Calls.evalArgs_plain ?_)
 exact thn hA fun us s2 ⟨vs,H2,I2,r2,q2⟩=>hm pins s2 σ H2 x vs v us Q I2 r1 r2 q2
end
end L2

namespace L2
open PySem PySem.Spec PyProof.Rows

noncomputable def MtM (X:Cx)(id:String)(r:V→List V→Hp→VK→Prop):Prop:=
 ∀(pins:List (Addr×Obj)) (s:Shared) (σ:St) (H:Hp) (x:V) (xs:List V) (v:Value) (us:List Value) (Q:VK),Inv X pins σ H s→RelV x v→Vals xs us→r x xs H Q→
  wpAny (model X.prog X.w) X.A (call (.builtin id) (v::us)) (EP X pins σ Q) X.xe s

theorem Vals.one {x:V}{us:List Value}(h:Vals [x] us):∃u,us=[u]∧RelV x u:=by
 cases h with
 | cons r t=>
  cases t
  exact⟨_,rfl,r⟩
theorem Vals.zero:∀{us:List Value},Vals [] us→us=[]
 | _,.nil=>rfl
theorem Vals.dropLast {xs:List V}{us:List Value}(h:Vals xs us):Vals xs.dropLast us.dropLast:=by
 induction h with
 | nil=>exact .nil
 | cons r t ih=>
  cases t with
  | nil=>exact .nil
  | cons q t'=>exact .cons r ih
theorem Vals.rep {xs:List V}{us:List Value}(h:Vals xs us):∀k:Nat,Vals (List.replicate k xs).flatten (List.replicate k us).flatten
 | 0=>.nil
 | k+1=>by
  rw[List.replicate_succ,List.replicate_succ,List.flatten_cons,List.flatten_cons]
  exact Vals.append h (Vals.rep h k)
theorem qDc {α:Type}(l:List α):l.eraseIdx (l.length - 1)=l.dropLast:=by
 induction l with
 | nil=>rfl
 | cons a r ih=>
  cases r with
  | nil=>rfl
  | cons b r=>
   have e:(a::b::r).length - 1=((b::r).length - 1)+1:=by
    have h1:(a::b::r).length=r.length+2:=rfl
    have h2:(b::r).length=r.length+1:=rfl
    omega
   rw[e,List.eraseIdx_cons_succ,ih]
   all_goals rfl
theorem qVb (its:List Value):∀(k:Nat) (acc:List Value),
  List.foldl (fun x1 x2=>x1++x2) acc.toArray (List.replicate k its.toArray)=(acc++(List.replicate k its).flatten).toArray
 | 0,acc=>by simp
 | k+1,acc=>by
  have e:acc.toArray++its.toArray=(acc++its).toArray:=by simp
  have e2:(acc++its)++(List.replicate k its).flatten=acc++(List.replicate (k+1) its).flatten:=by
   rw[List.replicate_succ,List.flatten_cons,List.append_assoc]
  rw[← e2,← qVb its k (acc++its),← e,List.replicate_succ,List.foldl_cons]

section
variable {X:Cx}{pins:List (Addr×Obj)}{σ:St}{H:Hp}{s:Shared}{l b:Addr}{xs ys zs:List V}

theorem Inv.lset {its its':List Value}{n:Nat}{f:Array Value→Array Value}{t':Nat}(I:Inv X pins σ H s)(hH:H l=some (.lst xs))
  (e:s.heap.get? l=some { cls:=.type "list",data:=.seq its.toArray n }) (hf:f its.toArray=its'.toArray) (hv:Vals ys its') (hz:ys.length≤sizeLine):
  Inv X pins σ (upd H l (.lst ys)) { s with heap:=s.heap.update l (Obj.mapSeq f),toks:=t' }:=by
 have q:=PySem.IsL.update e f
 rw[hf] at q
 refine I.write (x:=l) (e:=l) (by rw[hH];exact trivial) (.inl rfl) (fun b' u hb hu=>(Heap.get?_update_other s.heap (Obj.mapSeq f) (Ne.symm hb)).trans hu) ⟨_,q⟩ ?_
 exact⟨hz,its',_,hv,q⟩
theorem Inv.lnew {its:List Value}{t':Nat}(I:Inv X pins σ H s)(hv:Vals ys its)(hz:ys.length≤sizeLine):
  Inv X pins σ (upd H s.heap.objs.size (.lst ys)) { s with heap:=s.heap.push { cls:=.type "list",data:=.seq its.toArray },toks:=t' }:=
 I.laid (fun _ _ q=>Heap.get?_push_of_some _ q) (Nat.le_refl _) ⟨hz,its,0,hv,Heap.get?_push_size _ rfl⟩
theorem Inv.fresh (I:Inv X pins σ H s):H s.heap.objs.size=none:=I.hok.fresh (Nat.le_refl _)
theorem Inv.lstM (I:Inv X pins σ H s)(hH:H l=some (.lst xs)):xs.length≤sizeLine∧∃(its:List Value) (n:Nat),Vals xs its∧xs.length=its.length∧s.heap.get? l=some { cls:=.type "list",data:=.seq its.toArray n }:=by
 obtain⟨z,its,n,r,e⟩:=I.hok l _ hH
 exact⟨z,its,n,r,r.length,e⟩

theorem qBf {n:Nat}(h:n≤sizeLine):Builtin.List.listTooLong n=false:=by
 unfold Builtin.List.listTooLong
 exact decide_eq_false (by omega)
end

section
variable {X:Cx}

noncomputable def qOo:V→List V→Hp→VK→Prop:=fun x vs H Q=>∃l xs y,x=.ref l∧vs=[y]∧H l=some (.lst xs)∧xs.length<sizeLine∧Q .non (upd H l (.lst (xs++[y])))
theorem zU:MtM X "list.append" qOo:=by
 intro pins s σ H x vs v us Q I rx rv h
 obtain⟨l,xs,y,rfl,rfl,hH,hz,q⟩:=h
 cases rx
 obtain⟨u,rfl,ru⟩:=rv.one
 obtain⟨z,its,n,r,hl,e⟩:=I.lstM hH
 refine call_meets F.slot_list_append ⟨_,e,rfl⟩ F.entry_list_append (F.args_list_append_2 _ _) (PySem.list_append l its.toArray n u (by rw[List.size_toArray];omega)) ⟨e,?_⟩
 refine⟨.non,_,I.lset (its':=its++[u]) hH e (by simp) (r.append (.cons ru .nil)) ?_,rfl,q⟩
 rw[List.length_append,List.length_singleton]
 omega

noncomputable def qOn:V→List V→Hp→VK→Prop:=fun x vs H Q=>∃l b xs zs,x=.ref l∧vs=[.ref b]∧H l=some (.lst xs)∧H b=some (.lst zs)∧xs.length+zs.length≤sizeLine∧Q .non (upd H l (.lst (xs++zs)))
theorem qVq:MtM X "list.extend" qOn:=by
 intro pins s σ H x vs v us Q I rx rv h
 obtain⟨l,b,xs,zs,rfl,rfl,hH,hB,hz,q⟩:=h
 cases rx
 obtain⟨u,rfl,ru⟩:=rv.one
 cases ru
 obtain⟨z,its,n,r,hl,e⟩:=I.lstM hH
 obtain⟨z2,its2,n2,r2,hl2,e2⟩:=I.lstM hB
 have hsz:its.toArray.size+its2.toArray.size≤sizeLine:=by rw[List.size_toArray,List.size_toArray];omega
 have hlong:¬(!its.toArray.isEmpty && Builtin.List.listTooLong (its.toArray.size+its2.toArray.size))=true:=by
  rw[qBf hsz,Bool.and_false]
  exact Bool.false_ne_true
 refine call_meets F.slot_list_extend ⟨_,e,rfl⟩ F.entry_list_extend (F.args_list_extend_2 _ _)
  (AutoSeq1.list_extend_list_list_0 l its.toArray n b its2.toArray n2 hlong (by rw[List.size_toArray];omega) (by omega)) ⟨e,e2,?_⟩
 refine⟨.non,_,I.lset (its':=its++its2) hH e (by simp) (r.append r2) ?_,rfl,q⟩
 rw[List.length_append]
 omega

noncomputable def rPop:V→List V→Hp→VK→Prop:=fun x vs H Q=>∃l xs y,x=.ref l∧vs=[]∧H l=some (.lst xs)∧xs[xs.length - 1]? = some y∧Q y (upd H l (.lst xs.dropLast))
theorem qTe:MtM X "list.pop" rPop:=by
 intro pins s σ H x vs v us Q I rx rv h
 obtain⟨l,xs,y,rfl,rfl,hH,hy,q⟩:=h
 cases rx
 have hus:=rv.zero
 subst hus
 obtain⟨z,its,n,r,hl,e⟩:=I.lstM hH
 obtain⟨u,hu,ru⟩:=r.get hy
 have hy':its.toArray[its.toArray.size - 1]? = some u:=by
  show its.toArray[its.length - 1]? = some u
  rw[← Array.getElem?_toList,← hl]
  exact hu
 refine call_meets F.slot_list_pop ⟨_,e,rfl⟩ F.entry_list_pop (F.args_list_pop_1 _) (MeetsSeq.list_pop_last l its.toArray n u hy' (by rw[List.size_toArray];omega)) ⟨e,?_⟩
 refine⟨y,_,I.lset (its':=its.dropLast) hH e ?_ r.dropLast ?_,ru,q⟩
 ·show its.toArray.eraseIdxIfInBounds (its.toArray.size - 1)=its.dropLast.toArray
  rw[List.size_toArray,List.eraseIdxIfInBounds_toArray,qDc]
 ·rw[List.length_dropLast]
  omega

noncomputable def rCat:R2:=fun x y H Q=>∃l b xs zs,x=.ref l∧y=.ref b∧H l=some (.lst xs)∧H b=some (.lst zs)∧xs.length+zs.length≤sizeLine∧∀p,H p=none→Q (.ref p) (upd H p (.lst (xs++zs)))
theorem jC:OpR X (binaryOp .Add) rCat:=by
 intro pins s σ H x y v u Q I rx ry h
 obtain⟨l,b,xs,zs,rfl,rfl,hH,hB,hz,q⟩:=h
 cases rx
 cases ry
 obtain⟨z,its,n,r,hl,e⟩:=I.lstM hH
 obtain⟨z2,its2,n2,r2,hl2,e2⟩:=I.lstM hB
 refine PySem.P.add_list e e2 ?_ (by rw[List.size_toArray,List.size_toArray];omega)
 have ea:its.toArray++its2.toArray=(its++its2).toArray:=by simp
 rw[ea]
 exact⟨.ref _,_,I.lnew (t':=s.toks) (r.append r2) (by rw[List.length_append];omega),rfl,q _ I.fresh⟩
noncomputable def rRep:R2:=fun x y H Q=>∃l k xs,x=.ref l∧y=.int k∧H l=some (.lst xs)∧-(2 ^ 63)≤k∧k<2 ^ 63∧xs.length * k.toNat≤sizeLine∧
 ∀p,H p=none→Q (.ref p) (upd H p (.lst (List.replicate k.toNat xs).flatten))
theorem qRq {α:Type}(xs:List α)(k:Nat):(List.replicate k xs).flatten.length=k * xs.length:=by
 induction k with
 | zero=>simp
 | succ k ih=>rw[List.replicate_succ,List.flatten_cons,List.length_append,ih,Nat.succ_mul,Nat.add_comm]
theorem qTx:OpR X (binaryOp .Mult) rRep:=by
 intro pins s σ H x y v u Q I rx ry h
 obtain⟨l,k,xs,rfl,rfl,hH,h1,h2,hz,q⟩:=h
 cases rx
 obtain⟨t,rfl⟩:=ry
 obtain⟨z,its,n,r,hl,e⟩:=I.lstM hH
 have hlen:its.toArray.size * k.toNat≤sizeLine:=by rw[List.size_toArray,← hl];exact hz
 have hcap:¬its.toArray.size * k.toNat>(2 ^ 63 - 1) / 8:=by
  have:(sizeLine:Nat)≤(2 ^ 63 - 1) / 8:=by decide
  omega
 have hfit:¬(!Builtin.List.listFitsIndex k)=true:=by
  rw[fitsIndex_both h1 h2]
  exact Bool.false_ne_true
 have hlong:¬Builtin.List.listTooLong (its.toArray.size * k.toNat)=true:=by
  rw[qBf hlen]
  exact Bool.false_ne_true
 have hnew:List.foldl (fun x1 x2=>x1++x2) #[] (List.replicate (if its.toArray.isEmpty=true then 0 else k.toNat) its.toArray)=(List.replicate k.toNat its).flatten.toArray:=by
  have f0:∀m:Nat,List.foldl (fun x1 x2=>x1++x2) #[] (List.replicate m its.toArray)=(List.replicate m its).flatten.toArray:=fun m=>by
   have:=qVb its m []
   rw[List.nil_append] at this
   exact this
  rw[f0]
  cases its with
  | nil=>simp
  | cons a r'=>rw[if_neg (by simp)]
 refine wpAny_binaryOp_repeat_ref (T := "list") (U := "int") (by decide) ⟨_,e,rfl⟩ (fun s'=>typeIs_int s' k t) noFill_list_mul F.fills_int_mul F.slot_int_rmul repeat_list F.slot_int_index.lookup
  (call_meets F.slot_int_rmul (typeIs_int s k t) F.entry_int_rmul (F.args_int_rmul_2 _ _) (int___rmul___int_list k t l its.toArray n)
   ⟨e,rfl,⟨_,e,rfl⟩,call_meets F.slot_list_mul ⟨_,e,rfl⟩ F.entry_list_mul (F.args_list_mul_2 _ _) (AutoListH.list___mul___list_int_3 l its.toArray n k t hfit hcap hlong) ⟨e,?_⟩⟩)
 rw[hnew]
 exact⟨.ref _,_,I.lnew (t':=s.toks) (r.rep k.toNat) (by rw[qRq,Nat.mul_comm];exact hz),rfl,q _ I.fresh⟩

end

section
variable {prog:Program}{w:World}{A:Around}{E:Value→Shared→Prop}{s:Shared}
end

section
variable {X:Cx}
end
end L2

namespace L2
open PySem PySem.Spec PyProof.Rows

section
variable {κ:Type}[DecidableEq κ]
noncomputable def valV (kvs:List (κ×V))(k:κ):Option V:=(kvs.find? fun kv=>decide (kv.1=k)).map (·.2)
noncomputable def putK (kvs:List (κ×V))(k:κ)(v:V):List (κ×V):=
 if (kvs.any fun kv=>decide (kv.1=k))=true then kvs.map (fun kv=>if kv.1=k then (kv.1,v) else kv) else kvs++[(k,v)]
theorem jM {p:κ×V}{r:List (κ×V)}{k:κ}(e:p.1=k):valV (p::r) k=some p.2:=by simp[valV,List.find?_cons,e]
theorem jN {p:κ×V}{r:List (κ×V)}{k:κ}(e:¬p.1=k):valV (p::r) k=valV r k:=by simp[valV,List.find?_cons,e]
theorem qJn (k:κ):∀kvs:List (κ×V),(kvs.any fun kv=>decide (kv.1=k))=(valV kvs k).isSome
 | []=>rfl
 | p::r=>by
  rw[List.any_cons]
  by_cases e:p.1=k
  ·simp only[jM e,decide_eq_true e,Bool.true_or,Option.isSome_some]
  ·rw[jN e,decide_eq_false e,Bool.false_or];exact qJn k r
theorem qAm (k j:κ)(y:V):∀kvs:List (κ×V),valV (kvs.map fun kv=>if kv.1=k then (kv.1,y) else kv) j=(valV kvs j).map fun x=>if j=k then y else x
 | []=>rfl
 | p::r=>by
  have ih:=qAm k j y r
  rw[List.map_cons]
  by_cases h:p.1=k
  ·rw[if_pos h]
   by_cases e:p.1=j
   ·rw[jM (p:=(p.1,y)) e,jM e,Option.map_some,if_pos (e.symm.trans h)]
   ·rw[jN (p:=(p.1,y)) e,jN e,ih]
  ·rw[if_neg h]
   by_cases e:p.1=j
   ·rw[jM (p:=p) e,jM e,Option.map_some,if_neg (fun z=>h (e.trans z))]
   ·rw[jN (p:=p) e,jN e,ih]
theorem qYo (k j:κ)(y:V):∀kvs:List (κ×V),valV kvs k=none→valV (kvs++[(k,y)]) j=if j=k then some y else valV kvs j
 | [],_=>by
  by_cases e:k=j
  ·rw[if_pos e.symm];exact jM (p:=(k,y)) e
  ·rw[if_neg (fun z=>e z.symm)];exact jN (p:=(k,y)) e
 | p::r,hn=>by
  rw[List.cons_append]
  have hk:¬p.1=k:=fun z=>by rw[jM z] at hn;cases hn
  rw[jN hk] at hn
  have ih:=qYo k j y r hn
  by_cases e:p.1=j
  ·rw[jM e,jM e,if_neg (fun z=>hk (e.trans z))]
  ·rw[jN e,jN e,ih]
theorem qAl (kvs:List (κ×V))(k j:κ)(y:V):valV (putK kvs k y) j=if j=k then some y else valV kvs j:=by
 unfold putK
 by_cases a:(kvs.any fun kv=>decide (kv.1=k))=true
 ·rw[if_pos a,qAm]
  rw[qJn] at a
  by_cases e:j=k
  ·obtain⟨x,hx⟩:=Option.isSome_iff_exists.mp a
   rw[if_pos e,e,hx,Option.map_some,if_pos rfl]
  ·rw[if_neg e]
   cases valV kvs j with
   | none=>rfl
   | some x=>rw[Option.map_some,if_neg e]
 ·rw[if_neg a]
  refine qYo k j y kvs ?_
  rw[qJn] at a
  cases q:valV kvs k with
  | none=>rfl
  | some x=>rw[q] at a;exact(a rfl).elim
theorem qAx (kvs:List (κ×V))(k:κ)(v:V):(putK kvs k v).length≤kvs.length+1:=by
 unfold putK
 split
 ·rw[List.length_map];omega
 ·rw[List.length_append,List.length_cons,List.length_nil];omega
theorem KV.val {kvs:List (κ×V)}{vs:List (κ×Value)}(r:KV kvs vs)(k:κ):RelO (valV kvs k) (valueAt vs k):=by
 unfold KV at r
 induction r with
 | nil=>exact True.intro
 | @cons p q ps qs h t ih=>
  obtain⟨h1,h2⟩:=h
  by_cases e:p.1=k
  ·have e':q.1=k:=h1.symm.trans e
   have b:valueAt (q::qs) k=some q.2:=by simp[valueAt,List.find?_cons,e']
   rw[jM e,b];exact h2
  ·have e':¬q.1=k:=fun z=>e (h1.trans z)
   have b:valueAt (q::qs) k=valueAt qs k:=by simp[valueAt,List.find?_cons,e']
   rw[jN e,b];exact ih
theorem KV.any {kvs:List (κ×V)}{vs:List (κ×Value)}(r:KV kvs vs)(k:κ):(kvs.any fun kv=>decide (kv.1=k))=vs.any fun kv=>decide (kv.1=k):=by
 unfold KV at r
 induction r with
 | nil=>rfl
 | cons h t ih=>rw[List.any_cons,List.any_cons,ih,h.1]
theorem KV.repl {kvs:List (κ×V)}{vs:List (κ×Value)}(r:KV kvs vs)(k:κ){y:V}{u:Value}(ry:RelV y u):
  KV (kvs.map fun kv=>if kv.1=k then (kv.1,y) else kv) (vs.map fun kv=>if kv.1=k then (kv.1,u) else kv):=by
 unfold KV at r ⊢
 induction r with
 | nil=>exact .nil
 | @cons p q ps qs h t ih=>
  rw[List.map_cons,List.map_cons]
  refine .cons ?_ ih
  obtain⟨h1,h2⟩:=h
  by_cases e:p.1=k
  ·rw[if_pos e,if_pos (h1.symm.trans e)];exact⟨h1,ry⟩
  ·rw[if_neg e,if_neg (fun z=>e (h1.trans z))];exact⟨h1,h2⟩
theorem KV.put {kvs:List (κ×V)}{vs:List (κ×Value)}(r:KV kvs vs)(k:κ){y:V}{u:Value}(ry:RelV y u):KV (putK kvs k y) (stored vs k u):=by
 unfold putK stored
 rw[r.any k]
 by_cases e:(vs.any fun kv=>decide (kv.1=k))=true
 ·rw[if_pos e,if_pos e];exact r.repl k ry
 ·rw[if_neg e,if_neg e];exact Paired.snoc r ⟨rfl,ry⟩
theorem KV.length {kvs:List (κ×V)}{vs:List (κ×Value)}(r:KV kvs vs):kvs.length=vs.length:=Paired.length r
end

theorem qTn {P:Program}{w:World}{k:Key}{u:Value}(r:RelV (kV k) u):(jA P w).is k u=true:=by
 cases k with
 | inl i=>obtain⟨t,e⟩:=(show∃t,u=Value.int i t from r);subst e;exact qWn P w i t
 | inr x=>obtain⟨t,e⟩:=(show∃t,u=Value.str x t from r);subst e;exact kM P w x t
theorem qVw {P:Program}{w:World}:∀{ks:List Key} {us:List Value},Vals (ks.map kV) us→ItemsAre (jA P w) ks us
 | [],_,r=>by rw[List.map_nil] at r;cases r;exact .nil
 | k::ks,_,r=>by
  rw[List.map_cons] at r
  cases r with
  | cons h t=>exact .cons (qTn h) (qVw t)

noncomputable abbrev KT (H:Hp):List (List Key×V)→List (List Key×Addr×Value)→Prop:=Paired fun p q=>p.1=q.1∧H q.2.1=some (.tup (p.1.map kV))∧RelV p.2 q.2.2
theorem KT.val {H:Hp}{kvs:List (List Key×V)}{xs:List (List Key×Addr×Value)}(r:KT H kvs xs)(k:List Key):RelO (valV kvs k) ((atKey xs k).map (·.2)):=by
 induction r with
 | nil=>exact True.intro
 | @cons p q ps qs h t ih=>
  obtain⟨h1,_,h2⟩:=h
  by_cases e:p.1=k
  ·have e':q.1=k:=h1.symm.trans e
   have b:atKey (q::qs) k=some q.2:=by simp[atKey,List.find?_cons,e']
   rw[jM e,b];exact h2
  ·have e':¬q.1=k:=fun z=>e (h1.trans z)
   have b:atKey (q::qs) k=atKey qs k:=by simp[atKey,List.find?_cons,e']
   rw[jN e,b];exact ih
section
variable {P:Program}{w:World}{H:Hp}{h:Heap}{a:Addr}
theorem qSh {u:HO}(ok:HOk P w H h)(e:Rd H a u):ObjOk P w H h a u:=e.ok ok
theorem qUk {kvs:List (Key×V)}(ok:HOk P w H h)(e:Rd H a (.dK kvs)):kvs.length≤sizeLine∧(a == sysModules)=false∧∃vs,KV kvs vs∧h.DictOf (jA P w) a vs:=
 show ObjOk P w H h a (.dK kvs) from qSh ok e
theorem qOq {ks:List Key}(ok:HOk P w H h)(e:H a=some (.tup (ks.map kV))):(tupleKind (jA P w)).is h ks a:=by
 obtain⟨_,its,r,o,h1,h2,n,h3,_⟩:=(show ObjOk P w H h a (.tup (ks.map kV)) from ok a _ e)
 exact⟨o,its.toArray,n,h1,h2,h3,by simpa using qVw r⟩
theorem qUx {kvs:List (List Key×V)}(ok:HOk P w H h)(e:Rd H a (.dT kvs)):kvs.length≤sizeLine∧(a == sysModules)=false∧
  ∃xs,KT H kvs xs∧h.DictOfH (tupleKind (jA P w)) a xs:=by
 obtain⟨z,y,xs,r,o,es,ep,h1,h2,h3,h4,h5⟩:=(show ObjOk P w H h a (.dT kvs) from qSh ok e)
 refine⟨z,y,xs,r,o,es,ep,h1,h2,h3,h4,fun x hx=>?_,h5⟩
 have all:∀{l:List (List Key×V)} {m:List (List Key×Addr×Value)},KT H l m→∀x∈m,(tupleKind (jA P w)).is h x.1 x.2.1:=by
  intro l m q
  induction q with
  | nil=>intro x hx;exact nomatch hx
  | @cons p q ps qs hq t ih=>
   intro x hx
   rcases List.mem_cons.mp hx with e | hx
   ·subst e
    exact qOq ok (by rw[← hq.1];exact hq.2.1)
   ·exact ih x hx
 exact all r x hx
end

noncomputable def DGet (H:Hp)(a:Addr)(y:V)(r:Option V):Prop:=
 (∃kvs k,Rd H a (.dK kvs)∧y=kV k∧r=valV kvs k)∨∃kvs k b,Rd H a (.dT kvs)∧y=.ref b∧H b=some (.tup (k.map kV))∧r=valV kvs k
theorem DGet.k {H:Hp}{a:Addr}{kvs:List (Key×V)}{k:Key}(e:H a=some (.dK kvs)):DGet H a (kV k) (valV kvs k):=.inl ⟨kvs,k,.inl e,rfl,rfl⟩
section
variable {X:Cx}{pins:List (Addr×Obj)}{σ:St}{H:Hp}{s:Shared}{a:Addr}{y v:V}{u r:Value}{o:Option V}{A:Around}{E:Value→Shared→Prop}

theorem Inv.big (I:Inv X pins σ H s):sysModules<s.heap.objs.size:=by
 have h:mainGlobals<s.heap.objs.size:=(I.mod.glob.keeps I.bk).lt
 exact Nat.lt_trans (by decide) h

theorem qIz {Q:Value→Shared→Prop}(hu:A.units+1<cLine)(I:Inv X pins σ H s)(g:DGet H a y (some v))(ry:RelV y u)(h:∀w' s',Inv X pins σ H s'→RelV v w'→Q w' s'):
  wpAny (model X.prog X.w) A (getItem (.ref a) u) Q E s:=by
 rcases g with⟨kvs,k,e,ey,l⟩ | ⟨kvs,k,b,e,ey,eb,l⟩
 ·subst ey
  obtain⟨z,hd,vs,rel,dd⟩:=qUk I.hok e
  obtain⟨w',hw,rw'⟩:=RelO.some_of (v:=v) (o:=valueAt vs k) (by rw[l];exact rel.val k)
  exact wpAny_getItem_of (qTn ry) dd.mapOf hw (h w' _ (I.tok _) rw')
 ·subst ey
  cases(show u=Value.ref b from ry)
  obtain⟨z,hd,xs,rel,dd⟩:=qUx I.hok e
  obtain⟨w',hw,rw'⟩:=RelO.some_of (v:=v) (o:=(atKey xs k).map (·.2)) (by rw[l];exact rel.val k)
  obtain⟨p,hp,hp2⟩:=Option.map_eq_some_iff.mp hw
  refine wpAny_getItem_heap (tupleKind_room_in1 hu) (qOq I.hok eb) dd hp ?_
  rw[hp2]
  exact h w' _ (I.tok _) rw'
end

section
variable {X:Cx}{pins:List (Addr×Obj)}{σ:St}{H:Hp}{s:Shared}{a:Addr}{kvs:List (Key×V)}{k:Key}{u:Value}{A:Around}{E:Value→Shared→Prop}
end

noncomputable def NoSl (i:Expr):Prop:=∀ov iv,subscripted i false ov iv=operate [ov,iv] (getItem ov iv)
theorem qOg {prog:Program}{w:World}{A:Around}{E:Value→Shared→Prop}{s:Shared}{env:Env}{value slice:Expr}{pos:Pos}{T id:String}{Q:Value→Shared→Prop}
  (hl:typeLookup (.type T) "__getitem__" = pure (some (.builtin id))) (hs:NoSl slice)
  (h:wpAny (model prog w) A (eval value env) (fun o s₁=>wpAny (model prog w) A (eval slice env) (fun i s₂=>s₂.TypeIs o T∧wpAny (model prog w) A (getItem o i) Q E s₂) E s₁) E s):
  wpAny (model prog w) A (eval (.Subscript value slice pos) env) Q E s:=by
 refine Subscript_ (wpAny_mono h (fun o s₁ h₁=>wpAny_mono h₁ (fun i s₂ h₂=>?_) fun _ _ x=>x) fun _ _ x=>x)
 obtain⟨hT,h₂⟩:=h₂
 unfold subscriptTail
 refine wpAny_bind ?_
 rw[getitemInPython_of_ne hT.not_modules]
 refine wpAny_bind (wpAny_specialOf hT hl ?_)
 have fin:wpAny (model prog w) A (subscripted slice false o i) (fun r s₃=>wpAny (model prog w) A (letTemporaryGo value o r >>= fun _=>pure r) Q E s₃) E s₂:=by
  rw[hs o i]
  exact wpAny_operating (wpAny_mono h₂ (fun r s₃ h₃=>wpAny_bind (wpAny_letTemporaryGo (wpAny_pure h₃))) fun _ _ x=>x)
 first
  | exact wpAny_pure (wpAny_bind fin)
  | exact wpAny_bind (wpAny_pure (wpAny_bind fin))
  | exact wpAny_bind fin

theorem qAc {X:Cx}{pins:List (Addr×Obj)}{σ:St}{H:Hp}{s:Shared}{a:Addr}{y:V}{o:Option V}(I:Inv X pins σ H s)(g:DGet H a y o):s.TypeIs (.ref a) "dict" := by
 rcases g with⟨kvs,k,e,_,_⟩ | ⟨kvs,k,b,e,_,_,_⟩
 ·obtain⟨_,_,vs,_,dd⟩:=qUk I.hok e
  exact dd.typeIs
 ·obtain⟨_,_,xs,_,dd⟩:=qUx I.hok e
  exact dd.typeIs
noncomputable def tDGet (td ty:TE):TE:=fun σ H Q=>td σ H fun x H1=>ty σ H1 fun y H2=>∃a v,x=.ref a∧DGet H2 a y (some v)∧Q v H2
section
variable {X:Cx}{o i e value:Expr}{pos pos' tpos:Pos}{td ty tv:TE}
theorem qFi (hu:X.A.units+1<cLine)(ho:PE X o td)(hi:PE X i ty)(hs:NoSl i):PE X (.Subscript o i pos) (tDGet td ty):=by
 intro pins s σ H Q I h
 refine qOg PySem.F.slot_dict_getitem.lookup hs (thn (ho pins s σ H _ I h) fun u s1 ⟨x,H1,I1,rx,q1⟩=>thn (hi pins s1 σ H1 _ I1 q1) fun iv s2 ⟨y,H2,I2,ry,a,v,ex,g,q2⟩=>?_)
 subst ex
 obtain rfl:u=Value.ref a:=rx
 exact⟨qAc I2 g,qIz hu I2 g ry fun w' s3 I3 rw'=>⟨v,H2,I3,rw',q2⟩⟩
end

section
variable {X:Cx}{pos:Pos}
end

noncomputable def mergeK (kvs more:List (Key×V)):List (Key×V):=more.foldl (fun acc kv=>putK acc kv.1 kv.2) kvs
theorem KV.merge:∀{more:List (Key×V)} {rs:List (Key×Value)} {kvs:List (Key×V)} {vs:List (Key×Value)},KV more rs→KV kvs vs→KV (mergeK kvs more) (merged vs rs):=by
 intro more rs kvs vs r
 unfold KV at r
 induction r generalizing kvs vs with
 | nil=>intro q;exact q
 | @cons p q ps qs h t ih=>
  intro r0
  have e:KV (putK kvs p.1 p.2) (stored vs q.1 q.2):=by
   have:=r0.put p.1 h.2
   rw[← h.1];exact this
  exact ih e
theorem wB:∀(more kvs:List (Key×V)),(mergeK kvs more).length≤kvs.length+more.length
 | [],kvs=>by show kvs.length≤kvs.length+0;omega
 | p::r,kvs=>by
  have h1:=wB r (putK kvs p.1 p.2)
  have h2:=qAx kvs p.1 p.2
  show(mergeK (putK kvs p.1 p.2) r).length≤_
  rw[List.length_cons];omega
section
variable {X:Cx}{pins:List (Addr×Obj)}{σ:St}{H:Hp}{s:Shared}{a:Addr}{y d:V}{u r:Value}{o:Option V}{A:Around}{E:Value→Shared→Prop}
end

section
variable {X:Cx}{o e f:Expr}{apos cpos:Pos}{td ty tx:TE}
end

section
variable {X:Cx}{pins:List (Addr×Obj)}{σ:St}{H:Hp}{s:Shared}{a:Addr}{kvs:List (Key×V)}{A:Around}{E:Value→Shared→Prop}
end

section
variable {X:Cx}{pins:List (Addr×Obj)}{σ:St}{H:Hp}{s:Shared}{a:Addr}{y:V}{u:Value}{A:Around}{E:Value→Shared→Prop}
end
end L2

namespace Att
open PySem PySem.W PySem.Calls PyProof.Rows

theorem qZw {P:Params}{h:Heap}:∀(ns:List Int) (vs:List Value),WellAll P h vs (ns.map WData.int)→IntsAre vs ns:=by
 intro ns
 induction ns with
 | nil=>
  intro vs w
  rw[List.map_nil] at w
  cases w
  exact .nil
 | cons n ns ih=>
  intro vs w
  rw[List.map_cons] at w
  cases w with
  | cons a b=>
   cases a
   exact .cons _ _ (ih _ b)

theorem qFv {l:OpenLaw}{n:Nat}(hn:l.most=some n){P:Params}{h:Heap}{args:List WData}{vals:List Value}
  (hpre:l.row.toRowW.claim.pre args=true) (hwl:WellAll P h vals args):
  ∃a vs ns,vals=[Value.ref a]∧args=[WData.list (ns.map WData.int)]∧h.get? a=some { cls:=.type "list",data:=.seq vs.toArray }∧IntsAre vs ns∧ns.length≤n:=by
 have hsh:WShape.hasAll [] args [.list .int]=true:=(pre_splitW hpre).1
 have hc:l.pre.holds [] { args:=args }=true:=(pre_splitW hpre).2
 obtain⟨d,r,rfl,h1,h2⟩:=hasAllW_cons hsh
 obtain rfl:=hasAllW_nil h2
 obtain⟨xs,rfl,h3⟩:=hasW_list h1
 obtain⟨ns,rfl⟩:=items_int h3
 have hlen:ns.length≤n:=by
  unfold OpenLaw.pre at hc
  have h4:(WTm.not (.lt (.lit (.int (n:Int))) (.len (.arg 0)))).holds [] { args:=[.list (ns.map .int)] }=true:=by
   have h4:=(holds_andW hc).1
   rw[hn] at h4
   exact h4
  have h5:=condW_of h4 (w_not (w_lt w_lit (w_len_list (w_arg rfl))))
  rw[List.length_map] at h5
  refine Nat.le_of_not_lt fun q=>?_
  have q':(n:Int)<((ns.length:Nat):Int):=by omega
  first
   | (rw[decide_eq_true q'] at h5;exact absurd h5 (by decide))
   | (simp at h5;omega)
 cases hwl with
 | cons w1 w2=>
  cases w2
  cases w1 with
  | list ho hall=>exact⟨_,_,ns,rfl,rfl,ho,qZw ns _ hall,hlen⟩

theorem qFd (l:OpenLaw)(args:List WData):l.row.toRowW.claim.post args (.bool true) args=true:=
 postW_of (r:=l.row.toRowW) (X:=(true == true))
  (show WShape.has [] (.bool true) .bool=true by first | rfl | decide | simp[WShape.has,WShape.arms,WShape.armsAll])
  (show(WTm.eq .res (.lit (.bool true))).value [] { args:=args,res:=some (.bool true),after:=args }=some (.bool (true == true)) from w_eq_bool (w_res rfl) w_lit) rfl

theorem attach_call {l:OpenLaw}{n:Nat}{q:Program}{loose:List Str}{XP:(Str→Option Value)→Heap→Prop}{YP:World→Heap→Prop}{d:DefRec}
  (hn:l.most=some n) (hdf:d.params.defaults=[])
  (call:∀(w:World) (s₀ s₁:Shared) (mg mb:Str→Option Value) (fa:Addr) (o:Obj) (pm cd doc:Value) (a:Addr) (vs:List Value) (ns:List Int),
   Ground q loose [] XP w s₀ mg mb s₁.heap→YP w s₁.heap→
   s₁.heap.get? fa=some o→o.data=.func (docDef d.name d.params d.body d.scope pm cd doc)→s₁.heap.CodeRec cd d.name→mg d.name=some (.ref fa)→
   s₁.heap.get? a=some { cls:=.type "list",data:=.seq vs.toArray }→IntsAre vs ns→ns.length≤n→s₁.gens=#[]→
   codeAny (model l.prog w) callerA (.call (.ref fa) ⟨[.ref a],[]⟩) (fun r s'=>r=.ok (.ret (.bool true))∧OldK s₁.heap s'.heap∧s'.os=s₁.os∧AllBare s'.gens) s₁):
  WalkO q loose XP YP l.row.toRowW d [] (fun f vs=>PySem.call f vs):=by
 intro w s₀ s₁ mg mb G Y fa o pm cd doc dV kV ho hd hcd hD hmg hg args vals as hpre hlay hrd hwl hlo
 obtain rfl:dV=.none:=Dflts.none hD hdf
 obtain rfl:kV=.none:=Dflts.noKw hD
 obtain⟨a,vs,ns,rfl,rfl,hobj,hints,hlen⟩:=qFv hn hpre hwl
 refine enter_call (codeAny_mono (call w s₀ s₁ mg mb fa o pm cd doc a vs ns G Y ho (fd_plain hd) hcd hmg hobj hints hlen hg) fun r s' hq=>?_)
 obtain⟨rfl,h2,h3,h4⟩:=hq
 exact⟨.inl ⟨.bool true,.bool true,[],rfl,fun _=>rfl,.bool true,qFd l _,fun _=>⟨List.Pairwise.nil,fun _ hm=>(nomatch hm)⟩⟩,h2,h3,h4⟩

section
variable {prog:Program}{w:World}{A:Around}{E:Value→Shared→Prop}{s:Shared}{K:Frag}

end
end Att

namespace L2
open PySem PySem.Spec PyProof.Rows

theorem qYn:∀{vs:List Value} {ns:List Int},IntsAre vs ns→Vals (ns.map V.int) vs
 | _,_,.nil=>.nil
 | _,_,.cons n t h=>.cons ⟨t,rfl⟩ (qYn h)

noncomputable def Only (H:Hp):Prop:=∀b,H b=none∨∃o xs,H b=some (.frz o (.lst xs))

theorem qNx {P:Program}{w:World}{K:PySem.W.Frag}{mg mb:Str→Option Value}{CX:CXT}{k:Nat}{fa a:Addr}{fd:FuncData}{x:Str}{sp:Sp}{s₁:Shared}{vs:List Value}{ns:List Int}
  (KX:K.In s₁.heap) (hns:s₁.heap.Ns mainGlobals mg) (hb:s₁.heap.Ns builtinsNs mb) (hbb:∀x:Str,x ≠ "__name__" → mb x=bootBuiltins x) (hlim:s₁.heap.NoLimit) (hg:s₁.gens=#[])
  (ha:s₁.heap.get? a=some { cls:=.type "list",data:=.seq vs.toArray }) (hi:IntsAre vs ns) (hl:ns.length≤sizeLine) (hr:Room k callerA)
  (F:∀base:Heap,K.In base→base.Ns mainGlobals mg→FnOk P w K mg base CX k fa fd [x] sp) (hbind:∀(s:Shared) (u:Value),BindsTo s fd ⟨[u],[]⟩ [(x,u)])
  (hsp:∀H:Hp,Only H→SqL K H a (ns.map V.int)→sp [.ref a] H (fun v _=>v=.bl true) fun _ _ _=>False)
  (hCX:∀H e s',CX [] H s₁ (fun _ _ _=>False) e s'→False):
  codeAny (model P w) callerA (.call (.ref fa) ⟨[.ref a],[]⟩) (fun r s'=>r=.ok (.ret (.bool true))∧OldK s₁.heap s'.heap∧s'.os=s₁.os∧AllBare s'.gens) s₁:=by
 have rv:=qYn hi
 have lenV:=hi.length
 have core:∀H:Hp,Only H→SqL K H a (ns.map V.int)→HOk P w H s₁.heap→(∀b,H b≠none→b=a)→(H a≠none→K.lookup a=none)→
   codeAny (model P w) callerA (.call (.ref fa) ⟨[.ref a],[]⟩) (fun r s'=>r=.ok (.ret (.bool true))∧OldK s₁.heap s'.heap∧s'.os=s₁.os∧AllBare s'.gens) s₁:=by
  intro H hO hS hok hA hK
  have base_of:∀{b:Addr} {o:Obj},s₁.heap.get? b=some o→H b=none→(hidT s₁.heap H).get? b=some o:=fun e n=>qNj e n
  have noA:∀{b:Addr} {o:Obj} {es:Array DictEntry} {ep:Nat},s₁.heap.get? b=some o→o.data=.dict es ep→H b=none:=fun{b o es ep} e d=>by
   cases q:H b with
   | none=>rfl
   | some u=>
    have e':b=a:=hA b (by rw[q];simp)
    subst e'
    rw[ha] at e;cases e
    have d':Data.seq vs.toArray _=Data.dict es ep:=d
    cases d'
  have nsK:∀{b:Addr} {m:Str→Option Value},s₁.heap.Ns b m→(hidT s₁.heap H).Ns b m:=fun{b m} ⟨o,es,ep,e,d,r⟩=>⟨o,es,ep,base_of e (noA e d),d,r⟩
  have hKb:K.In (hidT s₁.heap H):=fun b o e=>base_of (KX b o e) (by
   cases q:H b with
   | none=>rfl
   | some u=>
    have e':b=a:=hA b (by rw[q];simp)
    subst e'
    rw[hK (by rw[q];simp)] at e;cases e)
  have hM:Mod K mg (hidT s₁.heap H):=⟨hKb,nsK hns,⟨mb,nsK hb,hbb⟩,let ⟨mc,h1,h2⟩:=hlim;⟨mc,nsK h1,h2⟩⟩
  have e0:Env0 P w K mg (hidT s₁.heap H) callerA [] s₁ H:=⟨rfl,hM,fun b o e=>qPm e,Nat.le_of_eq (qHb _ _),trivial,fun b hb=>absurd (show b∈([]:List Addr) from hb) (by simp),hok,.of_eq hg⟩
  refine codeAny_mono ((F _ hKb (nsK hns)).run callerA [] s₁ H ⟨[.ref a],[]⟩ [.ref a] [.ref a] _ _ hr e0 (hbind s₁ (.ref a)) (.cons rfl .nil) (hsp H hO hS)) fun r s' h=>?_
  cases r with
  | error e=>exact(hCX H e s' h).elim
  | ok fl=>
   cases fl with
   | next=>exact False.elim h
   | brk=>exact False.elim h
   | cont=>exact False.elim h
   | ret u=>
    obtain⟨v,H',os,bare,un,hok',r',q⟩:=h
    have q':v=.bl true:=q
    subst q'
    obtain rfl:u=Value.bool true:=r'
    refine⟨rfl,OldK.of_keep fun b o e=>?_,os,bare⟩
    cases q:H b with
    | none=>exact un.keep b o e q (by intro z;exact absurd (show b∈([]:List Addr) from z) (by simp)) (by simp)
    | some u=>
     rcases hO b with z | ⟨ob,xs,z⟩
     ·rw[q] at z;cases z
     ·have z2:=un.frzs b ob _ z
      obtain⟨e1,_⟩:=hok b _ z
      obtain⟨e2,_⟩:=hok' b _ z2
      rw[e] at e1;cases e1
      exact e2
 cases hk:K.lookup a with
 | some o=>
  have e:=KX a o hk
  rw[ha] at e
  cases e
  refine core (fun _=>none) (fun _=>.inl rfl) (.inr ⟨_,vs.toArray,_,hk,rfl,rfl,rfl,by rw[List.size_toArray,lenV];exact hl,by simpa using rv⟩) (fun b u z=>by have z':(none:Option HO)=some u:=z;cases z') (fun b z=>absurd rfl z) fun z=>absurd rfl z
 | none=>
  refine core (fun b=>if b=a then some (.frz { cls:=.type "list",data:=.seq vs.toArray } (.lst (ns.map V.int))) else none) (fun b=>?_) (.inl (.inr ⟨{ cls:=.type "list",data:=.seq vs.toArray },if_pos rfl⟩)) (fun b u z=>?_) (fun b z=>?_) fun _=>hk
  ·by_cases hb:b=a
   ·exact .inr ⟨_,_,if_pos hb⟩
   ·exact .inl (if_neg hb)
  ·by_cases hb:b=a
   ·have z':=(if_pos hb).symm.trans z
    cases z'
    subst hb
    exact⟨ha,by rw[List.length_map];exact hl,vs,_,rv,ha⟩
   ·have z':=(if_neg hb).symm.trans z
    cases z'
  ·by_cases hb:b=a
   ·exact hb
   ·exact absurd (if_neg hb) z
end L2

namespace L2
open PySem PySem.Spec PyProof.Rows

theorem qOb {l:PySem.W.OpenLaw}{n k:Nat}{q:Program}{loose:List Str}{XP:(Str→Option Value)→Heap→Prop}{YP:World→Heap→Prop}{d:DefRec}{K:Params→PySem.W.Frag}{CX:World→CXT}{sp:World→Sp}{x:Str}
  (hn:l.most=some n) (hn2:n≤sizeLine) (hdf:d.params.defaults=[]) (hr:Room k callerA)
  (hY:∀(w:World) (h:Heap),YP w h→(K w.params).In h)
  (F:∀(w:World) (mg:Str→Option Value) (fa:Addr) (h:Heap),(K w.params).In h→h.Ns mainGlobals mg→mg d.name=some (.ref fa)→
   ∃fd:FuncData,(∀(s:Shared) (u:Value),BindsTo s fd ⟨[u],[]⟩ [(x,u)])∧
    ∀base:Heap,(K w.params).In base→base.Ns mainGlobals mg→FnOk l.prog w (K w.params) mg base (CX w) k fa fd [x] (sp w))
  (hsp:∀(w:World) (H:Hp) (a:Addr) (ns:List Int),ns.length≤n→Only H→SqL (K w.params) H a (ns.map V.int)→sp w [.ref a] H (fun v _=>v=.bl true) fun _ _ _=>False)
  (hCX:∀(w:World) (H:Hp) (s:Shared) (e:Value) (s':Shared),CX w [] H s (fun _ _ _=>False) e s'→False):
  PySem.W.WalkO q loose XP YP l.row.toRowW d [] (fun f vs=>PySem.call f vs):=by
 refine Att.attach_call hn hdf fun w s₀ s₁ mg mb fa o pm cd doc a vs ns G Y ho hd hcd hmg hobj hints hlen hg=>?_
 have KX:=hY w _ Y
 obtain⟨fd,hb,hF⟩:=F w mg fa _ KX G.T.g hmg
 exact qNx KX G.T.g G.T.b G.T.builtins G.T.nolimit hg hobj hints (Nat.le_trans hlen hn2) hr hF hb (fun H hO hS=>hsp w H a ns hlen hO hS) fun H e s'=>hCX w H s₁ e s'
end L2

namespace L2
open PySem PySem.Spec PyProof.Rows

noncomputable abbrev CX0:CXT:=fun _ _ _ _ _ _=>False
noncomputable abbrev E0:XK:=fun _ _ _=>False
theorem pass0 {X:Cx}:Passes CX0 X E0:=fun _ _ _ _ _ _ _ h=>h.elim

structure Fun (K:PySem.W.Frag)(x qual:Str)(st:Stmt)(f:Addr)(fd:FuncData):Prop where
 ex:∃(oc:Value) (od:Option Addr) (kV doc pm:Value) (an:Option Addr) (cdv ct:Value) (osl:Array (Option Value)),
  fd=PySem.W.fnOf x qual (xD st) (xC st) (xB st) .none kV doc pm an cdv ct∧K.lookup f=some ⟨oc,od,.func fd,osl⟩∧PySem.W.codeIn K cdv qual=true
 kp:PySem.W.keepIn K (.ref f)=true
section
variable {P:Program}{w:World}{K:PySem.W.Frag}{mg:Str→Option Value}{base:Heap}
theorem Fun.ok {x qual:Str}{st:Stmt}{f:Addr}{fd:FuncData}{N ps:List Str}{k:Nat}{sp:Sp}(F:Fun K x qual st f fd)(S:xM N ps (xB st))(len:∀vs H Q E,sp vs H Q E→vs.length=ps.length)
  (hbody:∀(cdv:Value) (A:Around) (outer:List Env) (s:Shared) (H:Hp) (vs:List V) (Q:VK) (E:XK),Room k (A.deeper (envOfC qual (xB st) s.heap.objs.size f cdv))→sp vs H Q E→
   ∃t,PSs (cxOf CX0 P w K mg base N qual (xB st) f cdv A outer s H E).nox (xC st) t∧t { nx:=fun _ H'=>Q .non H',rt:=Q } (start N vs) H):FnOk P w K mg base CX0 (k+1) f fd ps sp:=by
 obtain⟨oc,od,kV,doc,pm,an,cdv,ct,osl,rfl,lk,hcd⟩:=F.ex
 refine qUq lk hcd S len fun A outer s H vs Q E hr hsp=>?_
 obtain⟨t,h,q⟩:=hbody cdv A outer s H vs Q E hr hsp
 exact⟨t,h.nox,q⟩
theorem Fun.binds {x qual:Str}{st:Stmt}{f:Addr}{fd:FuncData}{ps:List Str}(F:Fun K x qual st f fd)
  (h:∀(kV doc pm:Value) (an:Option Addr) (cdv ct:Value) (us:List Value),us.length=ps.length→bindArgs (PySem.W.fnOf x qual (xD st) (xC st) (xB st) .none kV doc pm an cdv ct) ⟨us,[]⟩=pure (ps.zip us)):Binds K fd ps []:=by
 obtain⟨oc,od,kV,doc,pm,an,cdv,ct,osl,rfl,lk,hcd⟩:=F.ex
 exact .all (h kV doc pm an cdv ct)
theorem zX {x qual:Str}{st:Stmt}{f:Addr}{oc:Value}{od an:Option Addr}{osl:Array (Option Value)}{kV doc pm cdv ct:Value}(l:K.lookup f=some ⟨oc,od,.func (PySem.W.fnOf x qual (xD st) (xC st) (xB st) .none kV doc pm an cdv ct),osl⟩)
  (c:PySem.W.codeIn K cdv qual=true) (k:PySem.W.keepIn K (.ref f)=true):Fun K x qual st f (PySem.W.fnOf x qual (xD st) (xC st) (xB st) .none kV doc pm an cdv ct):=⟨⟨oc,od,kV,doc,pm,an,cdv,ct,osl,rfl,l,c⟩,k⟩
end
theorem qTo {A:Around}{k:Nat}(hr:Room k A):A.units+1<cLine:=Nat.lt_of_le_of_lt (Nat.add_le_add_left (by decide:1≤64) _) hr.units
section
variable {X:Cx}
theorem pv (i:Nat){x:Str}{pos:Pos}(hN:X.N[i]? = some x:=by rfl)(hv:Vis X.env.scope x:=by first | exact Or.inl rfl | exact Or.inr (Or.inl rfl) | exact Or.inr (Or.inr rfl))(hd:(x == ("__debug__" : Str))=false:=by decide)
  (hcd:(x == ("__classdict__" : Str))=false:=by decide):PE X (.Name x pos) (tVar i):=qSm hN hv hd hcd
end

theorem iteF {A B:Prop}(h:B):if false=true then A else B:=by
 rw[if_neg Bool.false_ne_true]
 exact h
theorem iteT {A B:Prop}(h:A):if true=true then A else B:=by
 rw[if_pos rfl]
 exact h
theorem ite2 {c A B:Prop}[Decidable c](h1:c→A)(h2:¬c→B):if c then A else B:=by
 by_cases h:c
 ·rw[if_pos h]
  exact h1 h
 ·rw[if_neg h]
  exact h2 h
noncomputable def Same (H H':Hp):Prop:=∀b o,H b=some o→H' b=some o
theorem Same.refl (H:Hp):Same H H:=fun _ _ h=>h
theorem Same.trans {H H1 H2:Hp}(a:Same H H1)(b:Same H1 H2):Same H H2:=fun c o h=>b c o (a c o h)
theorem Same.free {H H':Hp}(e:Same H H'){l:Addr}(h:H' l=Option.none):H l=Option.none:=by
 cases q:H l with
 | none=>rfl
 | some o=>
  rw[e l o q] at h
  cases h
theorem Same.seq {K:PySem.W.Frag}{H H':Hp}{a:Addr}{xs:List V}(e:Same H H')(h:SqL K H a xs):SqL K H' a xs:=by
 rcases h with(h | ⟨o,h⟩) | h
 ·exact .inl (.inl (e _ _ h))
 ·exact .inl (.inr ⟨o,e _ _ h⟩)
 ·exact .inr h

end L2

namespace L2
open PySem PySem.Spec PyProof.Rows
section
variable {X:Cx}
end
section
variable {κ:Type}[DecidableEq κ]
theorem qGg:∀{l:List κ} {k:κ},l.Nodup→¬k∈l→(l++[k]).Nodup
 | [],k,_,_=>by simp
 | a::r,k,h,hk=>by
  obtain⟨h1,h2⟩:=List.nodup_cons.mp h
  show(a::(r++[k])).Nodup
  refine List.nodup_cons.mpr ⟨fun m=>?_,qGg h2 fun m=>hk (List.mem_cons.mpr (Or.inr m))⟩
  rcases List.mem_append.mp m with q | q
  ·exact h1 q
  ·exact hk (List.mem_cons.mpr (Or.inl (List.mem_singleton.mp q).symm))
end
end L2

namespace L2
open PySem PySem.Spec PyProof.Rows

theorem qJh {scope:Scope}{env:Env}(h:∀p∈scope.names,p.2=.free→∃c,env.cells.lookup p.1=some c):
  ∃cl,closureFor scope env=pure cl∧(∀x c,cl.lookup x=some c→env.cells.lookup x=some c)∧(∀p∈scope.names,p.2=.free→∃c,cl.lookup p.1=some c):=by
 have key:∀(names:List (Str×NameKind)) (acc:List (Str×Addr)),(∀p∈names,p.2=.free→∃c,env.cells.lookup p.1=some c)→(∀x c,acc.lookup x=some c→env.cells.lookup x=some c)→
   ∃cl,(forIn names acc (fun(x:Str×NameKind) (r:List (Str×Addr))=>(if (x.2 == NameKind.free)=true then (do let a ← cellOf env x.1;pure (ForInStep.yield ((x.1,a)::r))) else pure (ForInStep.yield r):Sem (ForInStep (List (Str×Addr))))):Sem (List (Str×Addr)))=pure cl∧
    (∀x c,cl.lookup x=some c→env.cells.lookup x=some c)∧(∀x c,acc.lookup x=some c→∃c,cl.lookup x=some c)∧(∀p∈names,p.2=.free→∃c,cl.lookup p.1=some c):=by
  intro names
  induction names with
  | nil=>intro acc _ ha;exact⟨acc,rfl,ha,fun x c e=>⟨c,e⟩,fun p hp=>by cases hp⟩
  | cons p r ih=>
   intro acc hn ha
   obtain⟨n,k⟩:=p
   by_cases hk:k=.free
   ·subst hk
    obtain⟨c,hc⟩:=hn (n,.free) List.mem_cons_self rfl
    have ha':∀x d,((n,c)::acc).lookup x=some d→env.cells.lookup x=some d:=fun x d e=>by
     rw[List.lookup_cons] at e
     cases hx:x == n with
     | true=>rw[hx] at e;cases e;rw[eq_of_beq hx];exact hc
     | false=>rw[hx] at e;exact ha x d e
    obtain⟨cl,e,h1,h2,h3⟩:=ih ((n,c)::acc) (fun p hp=>hn p (List.mem_cons_of_mem _ hp)) ha'
    have hcell:cellOf env n=pure c:=by unfold cellOf;rw[hc]
    refine⟨cl,?_,h1,fun x d ex=>?_,fun p hp hf=>?_⟩
    ·rw[List.forIn_cons]
     show(if (NameKind.free == NameKind.free)=true then (do let a ← cellOf env n;pure (ForInStep.yield ((n,a)::acc))) else _) >>= _=_
     rw[if_pos (show(NameKind.free == NameKind.free)=true from rfl),hcell]
     exact e
    ·cases hx:x == n with
     | true=>exact h2 x c (by rw[List.lookup_cons,hx])
     | false=>exact h2 x d (by rw[List.lookup_cons,hx];exact ex)
    ·rcases List.mem_cons.mp hp with rfl | hp
     ·exact h2 n c (by rw[List.lookup_cons,beq_self_eq_true])
     ·exact h3 p hp hf
   ·obtain⟨cl,e,h1,h2,h3⟩:=ih acc (fun p hp=>hn p (List.mem_cons_of_mem _ hp)) ha
    refine⟨cl,?_,h1,h2,fun p hp hf=>?_⟩
    ·rw[List.forIn_cons]
     show(if (k == NameKind.free)=true then _ else _) >>= _=_
     rw[if_neg (by simpa using hk)]
     exact e
    ·rcases List.mem_cons.mp hp with rfl | hp
     ·exact absurd hf hk
     ·exact h3 p hp hf
 obtain⟨cl,e,h1,_,h3⟩:=key scope.names [] h (fun x c e=>by cases e)
 refine⟨cl,?_,h1,h3⟩
 show(forIn scope.names [] _ >>= fun r=>pure r)=pure cl
 rw[bind_pure]
 exact e

theorem qZq {α:Type}(x:Str)(k:α)(l:List (Str×α)):List.lookup x ((x,k)::l)=some k:=by rw[List.lookup_cons,beq_self_eq_true]
theorem qZx {α:Type}{x n:Str}(k:α)(l:List (Str×α))(h:(x == n)=false):List.lookup x ((n,k)::l)=List.lookup x l:=by rw[List.lookup_cons,h]
theorem vG {env:Env}{x:Str}:∀(names:List (Str×NameKind)),
  (names.map fun(n,k)=>if (k == NameKind.free && env.scope.kind == .function && env.kindOf n == some .cell) then (n,NameKind.cell) else (n,k)).lookup x=
   (names.lookup x).map fun k=>if (k == NameKind.free && env.scope.kind == .function && env.kindOf x == some .cell) then NameKind.cell else k
 | []=>rfl
 | (n,k)::r=>by
  have ih:=@vG env x r
  show List.lookup x ((if (k == NameKind.free && env.scope.kind == .function && env.kindOf n == some .cell)=true then (n,NameKind.cell) else (n,k))::_)=_
  cases hx:x == n with
  | true=>
   have e:x=n:=eq_of_beq hx
   subst e
   rw[qZq]
   by_cases hc:(k == NameKind.free && env.scope.kind == .function && env.kindOf x == some .cell)=true
   ·rw[if_pos hc,qZq]
    show _=some (if (k == NameKind.free && env.scope.kind == .function && env.kindOf x == some .cell)=true then NameKind.cell else k)
    rw[if_pos hc]
   ·rw[if_neg hc,qZq]
    show _=some (if (k == NameKind.free && env.scope.kind == .function && env.kindOf x == some .cell)=true then NameKind.cell else k)
    rw[if_neg hc]
  | false=>
   rw[qZx _ _ hx]
   by_cases hc:(k == NameKind.free && env.scope.kind == .function && env.kindOf n == some .cell)=true
   ·rw[if_pos hc,qZx _ _ hx];exact ih
   ·rw[if_neg hc,qZx _ _ hx];exact ih

noncomputable def cxC (X:Cx)(scope:Scope)(cl:List (Str×Addr))(N:List Str)(fp:List Addr)(s:Shared)(H:Hp):Cx where
 prog:=X.prog
 w:=X.w
 K:=X.K
 mg:=X.mg
 base:=X.base
 A:=X.A
 N:=N
 s₀:=s
 H₀:=H
 env:=compEnvC scope cl s.heap.objs.size X.env
 outer:=X.stack
 stack:=X.stack
 ex:=fp
 fn:=fun _=>false
 calm:=X.calm
 pn:=[]
 xe:=fun _ _=>False

noncomputable def PTs (X:Cx)(ifs:List Expr)(t:TT):Prop:=
 ∀(pins:List (Addr×Obj)) (s:Shared) (σ:St) (H:Hp) (Q:Bool→Hp→Prop),Inv X pins σ H s→t σ H Q→
  wpAny (model X.prog X.w) X.A (forIn ifs true fun c r=>if r=true then do let ok ← isTrue c X.env (eval c X.env);pure (ForInStep.yield ok) else pure (ForInStep.yield r)) (TP X pins σ Q) X.xe s
noncomputable def tYes:TT:=fun _ H Q=>Q true H
theorem jJ {X:Cx}:PTs X [] tYes:=fun _ _ _ H _ I h=>wpAny_tests_nil ⟨H,I,h⟩
theorem qFb {X:Cx}{c:Expr}{t:TT}(h:PT X c t):PTs X [c] t:=fun pins s σ H Q I q=>wpAny_tests_one (h pins s σ H Q I q)

noncomputable def frees (js:List Nat)(σ:St):St:=js.map fun j=>σ.getD j none
noncomputable abbrev stC (k:Nat)(js:List Nat)(σ:St):St:=List.replicate k none++frees js σ

noncomputable def rdC (k:Nat)(js:List Nat)(g:TG)(tt:TT)(te:TE)(J:It)(σ:St)(H1:Hp)(Q:VK):Prop:=∀D,H1 D=none→
 ∃W:Nat→Nat→List V→Hp→Prop,(∃m,W 0 m [] (upd H1 D (.lst [])))∧∀i m ys H2,W i m ys H2→H2 D=some (.lst ys)∧
  ((J.stop i H2∧Q (.ref D) H2)∨(J.go i H2∧∀x H3,J.yld i H2 x H3→g x (stC k js σ) H3 fun σ4 H4=>(∃ow:St,ow.length=k∧σ4=ow++frees js σ)∧
   tt σ4 H4 fun b H5=>if b=true then te σ4 H5 fun y H6=>H6 D=some (.lst ys)∧ys.length<sizeLine∧∃m',m'<m∧W (i+1) m' (ys++[y]) (upd H6 D (.lst (ys++[y])))
    else ∃m',m'<m∧W (i+1) m' ys H5))
noncomputable def tComp (k:Nat)(js:List Nat)(wi:TI)(g:TG)(tt:TT)(te:TE):TE:=fun σ H Q=>wi σ H fun J H1=>rdC k js g tt te J σ H1 Q

structure CompOk (sc:Scope)(N0:List Str)(scope:Scope)(N:List Str)(k:Nat)(js:List Nat):Prop where
 kind:scope.kind=.function
 cell:∀y∈scope.names,y.2≠.cell
 names:∀y∈scope.names,y.2=.local→scope.names.lookup y.1=some .local
 free:∀p∈scope.names,p.2=.free→sc.names.lookup p.1=some .cell∨sc.names.lookup p.1=some .free
 fn:∀x∈N.drop k,scope.names.lookup x=some .free
 at':js.map (fun j=>N0[j]?)=(N.drop k).map some
 le:k≤N.length
 nd:N.Nodup

theorem kN {names:List (Str×NameKind)}{x:Str}{k:NameKind}(h:names.lookup x=some k):(x,k)∈names:=PySem.mem_of_lookup h

section
variable {X:Cx}{elt tg iter:Expr}{ifs:List Expr}{scope:Scope}{cpos:Pos}{N:List Str}{k:Nat}{js:List Nat}{cl:List (Str×Addr)}{g:TG}{tt:TT}{te:TE}

theorem qHa {pins:List (Addr×Obj)}{σ:St}{H:Hp}{s:Shared}{fp:List Addr}{h₁:Heap}{t':Nat}{m:Str→Option Value}(C:CompOk X.env.scope X.N scope N k js)
  (hcl1:∀x c,cl.lookup x=some c→X.env.cells.lookup x=some c) (hcl2:∀p∈scope.names,p.2=.free→∃c,cl.lookup p.1=some c)
  (I:Inv X pins σ H s) (f2:∀b∈fp,FpOk X pins H b) (flt:∀b∈fp,b<s.heap.objs.size) (hns:h₁.Ns s.heap.objs.size m) (keep:∀b o,s.heap.get? b=some o→h₁.get? b=some o):
  Inv (cxC X scope cl N fp s H) [] (stC k js σ) H { s with heap:=h₁,toks:=t' }:=by
 have relk:∀x,(cxC X scope cl N fp s H).env.kindOf x=(scope.names.lookup x).map fun k=>if (k == NameKind.free && X.env.scope.kind == .function && X.env.kindOf x == some .cell) then NameKind.cell else k:=fun x=>vG scope.names
 have wasfree:∀x,((cxC X scope cl N fp s H).env.kindOf x=some .cell∨(cxC X scope cl N fp s H).env.kindOf x=some .free)→scope.names.lookup x=some .free:=fun x hx=>by
  rw[relk x] at hx
  cases e:scope.names.lookup x with
  | none=>rw[e] at hx;rcases hx with hx | hx <;> cases hx
  | some kd=>
   rw[e] at hx
   by_cases hk:kd=.free
   ·rw[hk]
   ·have hk':(kd == NameKind.free)=false:=by simpa using hk
    rw[Option.map_some,hk',Bool.false_and,Bool.false_and,if_neg Bool.false_ne_true] at hx
    rcases hx with hx | hx
    ·exact absurd (Option.some.inj hx) (C.cell _ (kN e))
    ·exact absurd (Option.some.inj hx) hk
 have clt:∀x c,cl.lookup x=some c→c<s.heap.objs.size:=fun x c e=>by
  obtain⟨v,z⟩:=I.cell x c (hcl1 x c e)
  exact z.lt
 have ok:(cxC X scope cl N fp s H).Ok:=
  {mod:=I.ok.mod
   kind:=by show(relabel scope X.env).kind=_;exact C.kind
   glob:=I.ok.glob
   blt:=I.ok.blt
   above:=Nat.le_refl _
   inj:=fun x y c e1 e2=>I.ok.inj x y c (hcl1 x c e1) (hcl1 y c e2)
   has:=fun x hx=>hcl2 (x,.free) (kN (wasfree x hx)) rfl
   cab:=fun x c z=>by cases z
   hd:=I.ok.hd
   frames:=I.ok.frames
   stk:=.inl rfl
   exf:=fun b hb=>⟨Nat.ne_of_lt (flt b hb),fun x c e=>(f2 b hb).2.2.2.2.1 x c (hcl1 x c e)⟩
   bs:=fun b o e=>I.bs b o e
   bsz:=Nat.le_trans I.ok.bsz I.sz
   noex:=fun b o e hb=>by
    rcases(f2 b hb).2.2.2.1 with z | z
    ·exact I.ok.noex b o e z
    ·exact absurd (Nat.lt_of_lt_of_le (Heap.lt_size (I.ok.bs b o e).1) z) (Nat.lt_irrefl _)
   exfs:=fun b hb z=>by
    rcases List.mem_cons.mp (I.stkSub b z) with q | q
    ·exact(f2 b hb).2.1 q
    ·exact(f2 b hb).2.2.1 q
   funs:=I.stack
   frf:=I.stkFree }
 have hlen:(stC k js σ).length=N.length:=by
  have q:=congrArg List.length C.at'
  rw[List.length_map,List.length_map,List.length_drop] at q
  have:=C.le
  show(List.replicate k none++frees js σ).length=N.length
  rw[List.length_append,List.length_replicate,frees,List.length_map]
  omega
 refine⟨ok,rfl,I.bare,Un.kept keep,⟨m,hns,fun i x v e1 e2 e3=>?_⟩,fun x c e=>?_,I.hok.fresh (Nat.le_refl _),fun x c e=>I.freeC x c (hcl1 x c e),fun p hp=>absurd (show p∈([]:List (Addr×Obj)) from hp) (by simp),I.hok.kept keep,hlen⟩
 ·have e1:N[i]? = some x:=e1
  have hik:k≤i:=by
   by_cases hik:k≤i
   ·exact hik
   ·have e2':(List.replicate k (none:Option V)++frees js σ)[i]? = some (some v):=e2
    rw[List.getElem?_append_left (by rw[List.length_replicate];omega),List.getElem?_replicate] at e2'
    split at e2' <;> cases e2'
  obtain⟨d,rfl⟩:∃d,i=k+d:=⟨i - k,by omega⟩
  have e2':(List.replicate k (none:Option V)++frees js σ)[k+d]? = some (some v):=e2
  rw[List.getElem?_append_right (by rw[List.length_replicate];omega),List.length_replicate,Nat.add_sub_cancel_left,frees,List.getElem?_map] at e2'
  have ed:(N.drop k)[d]? = some x:=by rw[List.getElem?_drop];exact e1
  cases ej:js[d]? with
  | none=>rw[ej] at e2';cases e2'
  | some j=>
   rw[ej] at e2'
   have ev:σ.getD j none=some v:=Option.some.inj e2'
   have ej2:X.N[j]? = some x:=by
    have q:=congrArg (fun l=>l[d]?) C.at'
    simp only[List.getElem?_map,ej,ed,Option.map_some] at q
    exact Option.some.inj q
   have eσ:σ[j]? = some (some v):=by
    rw[List.getD_eq_getElem?_getD] at ev
    cases z:σ[j]? with
    | none=>rw[z] at ev;cases ev
    | some w=>rw[z] at ev;exact congrArg some ev
   have hfx:scope.names.lookup x=some .free:=C.fn x (List.mem_of_getElem? ed)
   have hX:X.env.scope.names.lookup x=some .cell∨X.env.scope.names.lookup x=some .free:=C.free (x,.free) (kN hfx) rfl
   obtain⟨mX,_,lX⟩:=I.loc
   obtain⟨u,ru,lu⟩:=lX j x v ej2 eσ (hX.elim (fun z=>.inr (.inl z)) fun z=>.inr (.inr z))
   refine⟨u,ru,.inr ⟨?_,?_⟩⟩
   ·rw[relk x,hfx]
    show some (if _ then _ else _)=_∨some (if _ then _ else _)=_
    split
    ·exact .inl rfl
    ·exact .inr rfl
   ·rcases lu with⟨z,_⟩ | ⟨_,c,ec,ic⟩
    ·have z:X.env.scope.names.lookup x=some .local:=z
     rcases hX with q | q <;> rw[q] at z <;> cases z
    ·obtain⟨c',ec'⟩:=hcl2 (x,.free) (kN hfx) rfl
     have:c'=c:=Option.some.inj ((hcl1 x c' ec').symm.trans ec)
     subst this
     obtain⟨o,ho,hd⟩:=ic
     exact⟨c',ec',o,keep _ _ ho,hd⟩
 ·obtain⟨v,o,ho,hd⟩:=I.cell x c (hcl1 x c e)
  exact⟨v,o,keep _ _ ho,hd⟩

theorem qCx {pins:List (Addr×Obj)}{σ:St}{H2:Hp}{s2:Shared}{E:Value→Shared→Prop}{it:Addr}{fp:List Addr}{tn:Nat→Heap→Prop}{J:It}{Q:VK}{RR:Value→Addr→Result→Shared→Prop}
  (hc:X.calm=true) (C:CompOk X.env.scope X.N scope N k js) (hcl1:∀x c,cl.lookup x=some c→X.env.cells.lookup x=some c) (hcl2:∀p∈scope.names,p.2=.free→∃c,cl.lookup p.1=some c)
  (hg:∀fp s H,PG (cxC X scope cl N fp s H) tg g) (ht:∀fp s H,PTs (cxC X scope cl N fp s H) ifs tt) (he:∀fp s H,PE (cxC X scope cl N fp s H) elt te)
  (I:Inv X pins σ H2 s2) (T:Turn X.prog X.w X.K tg J fp it tn) (st:tn 0 s2.heap) (f2:∀b∈fp,FpOk X pins H2 b) (rd:rdC k js g tt te J σ H2 Q)
  (fin:∀D L H' s',Inv X pins σ H' s'→FpOk X pins H' L→(∃m,s'.heap.Ns L m)→Q (.ref D) H'→RR (.ref D) L (.ok .next) s'):
  wpAny (model X.prog X.w) X.A (newList []) (fun acc s₃=>wpAny (model X.prog X.w) X.A (newFunctionEnv scope X.env.globals cl [] X.env.qual none .none (some X.env)) (fun cenv s₄=>
   codeAny (model X.prog X.w) X.A (.compStart (.ListComp elt [⟨tg,iter,ifs,0⟩] scope cpos) 0 (.ref it) acc { cenv with scope:=relabel scope X.env }) (RR acc cenv.locals) s₄) E s₃) E s2:=by
 refine wpAny_newObj_type (wpAny_newFunctionEnv C.cell (by intro y hy;simp at hy) (fun h₁ hns₁ hsb₁=>?_) C.kind)
 dsimp only at hns₁ hsb₁ ⊢
 have hD:H2 s2.heap.objs.size=none:=I.hok.fresh (Nat.le_refl _)
 have Id:Inv X pins σ (upd H2 s2.heap.objs.size (.lst [])) { s2 with heap:=s2.heap.push { cls:=.type "list",dict:=none,data:=.seq ([]:List Value).toArray } }:=
  I.laid (t':=s2.toks) (fun b u e=>Heap.get?_push_of_some _ e) (Nat.le_refl _) ⟨Nat.zero_le _,[],0,.nil,Heap.get?_push_size _ rfl⟩
 have kD:∀b o,s2.heap.get? b=some o→(s2.heap.push { cls:=.type "list",dict:=none,data:=.seq ([]:List Value).toArray }).get? b=some o:=fun b o e=>Heap.get?_push_of_some _ e
 generalize hHd:s2.heap.push { cls:=.type "list",dict:=none,data:=.seq ([]:List Value).toArray }=Hd at hns₁ hsb₁ Id kD ⊢
 have szd:Hd.objs.size=s2.heap.objs.size+1:=by rw[← hHd,Heap.size_push]
 have keep:∀b o,Hd.get? b=some o→h₁.get? b=some o:=fun b o e=>hsb₁.extBut b o (Nat.ne_of_lt (Heap.lt_size e)) (Heap.get?_push_of_some _ e)
 have flt2:∀b∈fp,b<s2.heap.objs.size:=fun b hb=>by
  obtain⟨o,e,_⟩:=T.obj _ _ st b hb
  exact Heap.lt_size e
 have fd:∀b∈fp,FpOk X pins (upd H2 s2.heap.objs.size (.lst [])) b:=fun b hb=>
  ⟨by rw[qA (Nat.ne_of_lt (flt2 b hb))];exact(f2 b hb).1,(f2 b hb).2⟩
 obtain⟨W,⟨m0,w0⟩,turn⟩:=rd _ hD
 generalize hY:cxC X scope cl N fp { s2 with heap:=Hd } (upd H2 s2.heap.objs.size (.lst []))=Y
 have hg:=hg fp { s2 with heap:=Hd } (upd H2 s2.heap.objs.size (.lst []))
 have ht:=ht fp { s2 with heap:=Hd } (upd H2 s2.heap.objs.size (.lst []))
 have he:=he fp { s2 with heap:=Hd } (upd H2 s2.heap.objs.size (.lst []))
 have loop:∀s₃:Shared,s₃={ s2 with heap:=h₁,toks:=s2.toks+([]:List (Str×Value)).length }→
   codeAny (model X.prog X.w) X.A (.compLoop (.ListComp elt [⟨tg,iter,ifs,0⟩] scope cpos) 0 (.ref it) (.ref s2.heap.objs.size) (compEnvC scope cl Hd.objs.size X.env))
    (RR (.ref s2.heap.objs.size) Hd.objs.size) s₃:=by
  rintro s₃ rfl
  have IY:Inv Y [] (stC k js σ) (upd H2 s2.heap.objs.size (.lst [])) { s2 with heap:=h₁,toks:=s2.toks+([]:List (Str×Value)).length }:=by
   rw[← hY]
   exact qHa (t':=s2.toks+([]:List (Str×Value)).length) C hcl1 hcl2 Id fd (fun b hb=>Nat.lt_of_lt_of_le (flt2 b hb) (by show s2.heap.objs.size≤Hd.objs.size;omega)) hns₁ keep
  rw[hY] at hg ht he
  have yprog:Y.prog=X.prog:=by rw[← hY];rfl
  have yw:Y.w=X.w:=by rw[← hY];rfl
  have yK:Y.K=X.K:=by rw[← hY];rfl
  have yA:Y.A=X.A:=by rw[← hY];rfl
  have yc:Y.calm=true:=by rw[← hY];exact hc
  have yenv:Y.env=compEnvC scope cl Hd.objs.size X.env:=by rw[← hY];rfl
  have yxe:Y.xe=fun _ _=>False:=by rw[← hY];rfl
  have ybase:∀{pn σ' H' s'},Inv Y pn σ' H' s'→Un (frs X.stack) fp (upd H2 s2.heap.objs.size (.lst [])) H' Hd s'.heap∧s'.os=s2.os:=fun{pn σ' H' s'} J=>by
   have u:=J.base
   have o:=J.os
   rw[← hY] at u o
   exact⟨u,o⟩
  have statY:∀{H':Hp},(∀b∈fp,H' b=none)→∀b∈fp,FpOk Y [] H' b:=fun{H'} hn b hb=>by
   rw[← hY]
   refine⟨hn b hb,Nat.ne_of_lt (Nat.lt_of_lt_of_le (flt2 b hb) (by show s2.heap.objs.size≤Hd.objs.size;omega)),?_,.inl hb,fun x c e=>(f2 b hb).2.2.2.2.1 x c (hcl1 x c e),fun p hp=>absurd (show p∈([]:List (Addr×Obj)) from hp) (by simp)⟩
   intro z
   rcases List.mem_cons.mp (I.stkSub b z) with q | q
   ·exact(f2 b hb).2.1 q
   ·exact(f2 b hb).2.2.1 q
  have st₁:tn 0 h₁:=T.keep _ _ _ st fun b hb o e=>keep b o (kD b o e)
  refine codeAny_loop rfl (fun n s'=>∃i ys H',Inv Y [] (stC k js σ) H' s'∧tn i s'.heap∧(∀b∈fp,H' b=none)∧W i n ys H') ?_ m0 ⟨0,[],_,IY,st₁,fun b hb=>(fd b hb).1,w0⟩
  rintro n s3 ⟨i,ys,H3,I3,st3,fr3,w3⟩
  show wpAny _ X.A ((compTurn (.ListComp elt [⟨tg,iter,ifs,0⟩] scope cpos) 0 (.ref it) (.ref s2.heap.objs.size) (compEnvC scope cl Hd.objs.size X.env)).onRaise (fun x=>do noteFrame x (compEnvC scope cl Hd.objs.size X.env);theTreesLotGoes x)) _ _ s3
  refine wpAny_noted ?_
  rw[compTurn_list]
  obtain⟨hDs,tr⟩:=turn i n ys H3 w3
  have hPE:∀{α:Type} {t:Sem α} {R R':α→Shared→Prop} {E':Value→Shared→Prop} {s:Shared},wpAny (model Y.prog Y.w) Y.A t R Y.xe s→(∀a s,R a s→R' a s)→wpAny (model X.prog X.w) X.A t R' E' s:=fun{α t R R' E' s} h hQ=>by
   rw[yprog,yw,yA,yxe] at h
   exact wpAny_mono h hQ fun _ _ z=>z.elim
  rcases tr with⟨stop,qn⟩ | ⟨go,step⟩
  ·refine wpAny_bind (wpAny_standAt (wpAny_bind ?_))
   have dn:=T.done Y yprog yw yK yc i [] s3 (stC k js σ) H3 (fun _ _=>False) I3 (statY fr3) st3 stop
   rw[yA] at dn
   refine wpAny_mono dn (fun r s4 ⟨hr,I4⟩=>?_) fun _ _ z=>z.elim
   subst hr
   obtain⟨u4,o4⟩:=ybase I4
   refine wpAny_pure (fin _ _ H3 s4 ?_ ?_ ?_ qn)
   ·refine I.call' (ch:=fp) o4 ((Un.laid (fun b o e=>kD b o e) (Nat.le_refl _) hD).trans u4) (by have:=I4.hok;rw[yprog,yw] at this;exact this) I4.bare fun b hb=>?_
    obtain⟨_,q1,q2,q3,q4,q5⟩:=f2 b hb
    exact⟨q3,q1,q4,q5⟩
   ·refine I.fpOk (by show s2.heap.objs.size≤Hd.objs.size;omega) ?_
    have:=I4.free
    rw[yenv] at this
    exact this
   ·obtain⟨m,hn,_⟩:=I4.loc
    rw[yenv] at hn
    exact⟨m,hn⟩
  ·refine wpAny_bind (wpAny_standAt (wpAny_bind ?_))
   have itm:=T.item Y yprog yw yK yc i [] s3 (stC k js σ) H3 (fun _ _=>False) I3 (statY fr3) st3 go
   rw[yA] at itm
   refine wpAny_mono itm (fun r s4 ⟨u,hr,h4⟩=>?_) fun _ _ z=>z.elim
   subst hr
   refine wpAny_bind (wpAny_mono h4 (fun _ s5 ⟨x,H5,I5,r5,y5,st5,fr5⟩=>?_) fun _ _ z=>z.elim)
   have I5':=I5.pinned (statY fr5) (T.obj _ _ st5)
   have as:=hg _ s5 (stC k js σ) H5 x u _ I5' r5 (step x H5 y5)
   rw[yenv] at as
   refine wpAny_bind (hPE as fun _ s6 ⟨σ6,H6,I6,⟨ow,eow,e6⟩,q6⟩=>?_)
   have again:∀{H7:Hp} {s7:Shared} {zs:List V},Inv Y ([]++pinsAt fp s5.heap) σ6 H7 s7→(∃m',m'<n∧W (i+1) m' zs H7)→
     ∃m,m<n∧∃i ys H',Inv Y [] (stC k js σ) H' s7∧tn i s7.heap∧(∀b∈fp,H' b=none)∧W i m ys H':=fun{H7 s7 zs} I7 ⟨m',hm,w7⟩=>by
    have J7:Inv Y ([]++pinsAt fp s5.heap) (stC k js σ) H7 s7:=by
     refine I7.weak ?_ fun j v e=>?_
     ·rw[e6]
      show(List.replicate k none++frees js σ).length=_
      rw[List.length_append,List.length_append,List.length_replicate,eow]
     ·have e:(List.replicate k (none:Option V)++frees js σ)[j]? = some (some v):=e
      rw[e6]
      by_cases hj:j<k
      ·rw[List.getElem?_append_left (by rw[List.length_replicate];exact hj),List.getElem?_replicate] at e
       split at e <;> cases e
      ·rw[List.getElem?_append_right (by rw[List.length_replicate];omega),List.length_replicate] at e
       rw[List.getElem?_append_right (by omega),eow]
       exact e
    refine⟨m',hm,i+1,zs,H7,J7.unpinned,T.keep _ _ _ st5 fun b hb o e=>(I7.pin (b,o) (List.mem_append_right _ (List.mem_append_right _ (vD hb e)))).1,fun b hb=>?_,w7⟩
    obtain⟨o,e,d⟩:=T.obj _ _ st5 b hb
    exact(I7.pin (b,o) (List.mem_append_right _ (List.mem_append_right _ (vD hb e)))).2.1
   have tst:=ht _ s6 σ6 H6 _ I6 q6
   rw[yenv] at tst
   refine wpAny_bind (hPE tst fun b s7 ⟨H7,I7,q7⟩=>?_)
   cases b with
   | false=>exact wpAny_pure ⟨rfl,again I7 q7⟩
   | true=>
    have ev:=he _ s7 σ6 H7 _ I7 q7
    rw[yenv] at ev
    refine wpAny_bind (wpAny_bind (hPE ev fun v s8 ⟨y,H8,I8,r8,q8,z8,w8⟩=>?_))
    refine wpAny_bind (hPE (zU (X:=Y) _ s8 σ6 H8 (.ref s2.heap.objs.size) [y] (.ref s2.heap.objs.size) [v] (fun _ H9=>H9=upd H8 s2.heap.objs.size (.lst (ys++[y]))) I8 rfl (.cons r8 .nil) ⟨_,ys,y,rfl,rfl,q8,z8,rfl⟩) fun _ s9 ⟨_,H9,I9,_,e9⟩=>?_)
    subst e9
    exact wpAny_pure (wpAny_pure ⟨rfl,again I9 w8⟩)
 exact codeAny_compStart_list (loop _ rfl) (T.self _ 0 _ _ _ (T.keep _ _ _ st fun b hb o e=>keep b o (kD b o e)) (loop _ rfl))

theorem qOz {pins:List (Addr×Obj)}{σ:St}{H:Hp}{s:Shared}(I:Inv X pins σ H s)(C:CompOk X.env.scope X.N scope N k js):∀p∈scope.names,p.2=.free→∃c,X.env.cells.lookup p.1=some c:=
 fun p hp hf=>I.ok.has p.1 (C.free p hp hf)

theorem jP {wi:TI}{sc:Scope}{N0:List Str}(hc:X.calm=true)(C:CompOk sc N0 scope N k js)(hi:PI X tg iter wi)
  (hg:∀cl fp s H,PG (cxC X scope cl N fp s H) tg g) (ht:∀cl fp s H,PTs (cxC X scope cl N fp s H) ifs tt) (he:∀cl fp s H,PE (cxC X scope cl N fp s H) elt te)
  (hs:∀x,foldedSetIterable iter X.env x=pure x:=by intro _;rfl) (hsc:X.env.scope=sc:=by rfl) (hN0:X.N=N0:=by rfl):PE X (.ListComp elt [⟨tg,iter,ifs,0⟩] scope cpos) (tComp k js wi g tt te):=by
 subst hsc hN0
 intro pins s σ H Q I h
 obtain⟨cl,e,h1,h2⟩:=qJh (qOz I C)
 rw[eval_ListComp]
 refine wpAny_comprehension_free (use:=none) rfl hs e C.kind C.names (thn (hi pins s σ H _ I h) fun v s1 q=>thn q fun itv s2 q2=>?_)
 obtain⟨it,fp,tn,J,H2,rfl,I2,T,st,f2,rd⟩:=q2
 refine qCx (RR:=fun acc L=>compPost (model X.prog X.w) X.A X.xe none (EP X pins σ Q) acc L) hc C h1 h2 (hg cl) (ht cl) (he cl) I2 T st f2 rd ?_
 intro D L H' s' I' ⟨f0,f1,_,f3,f4,f5⟩ ⟨m,hn⟩ q
 refine⟨m,hn,fun h' sb=>⟨.ref D,H',?_,rfl,q⟩⟩
 exact I'.turned (t':=s'.toks) (fun b o hb e=>(sb.2 b hb).trans e) f0 f1 f3 f4 f5

theorem yE {wi:TI}{i:Nat}{x:Str}{pos pos':Pos}{sc:Scope}{N0:List Str}(hN:X.N.Nodup)(hi':X.N[i]? = some x)(hx:Loc X.env.scope x)(hc:X.calm=true)(C:CompOk sc N0 scope N k js)(hi:PI X tg iter wi)
  (hg:∀cl fp s H,PG (cxC X scope cl N fp s H) tg g) (ht:∀cl fp s H,PTs (cxC X scope cl N fp s H) ifs tt) (he:∀cl fp s H,PE (cxC X scope cl N fp s H) elt te)
  (hsw:swapsWith (.ListComp elt [⟨tg,iter,ifs,0⟩] scope cpos) (some (.Name x pos')) pos.line X.env=pure true:=by rfl)
  (hs:∀x,foldedSetIterable iter X.env x=pure x:=by intro _;rfl) (hsc:X.env.scope=sc:=by rfl) (hN0:X.N=N0:=by rfl) (hf:X.fn x=true∨X.env.scope.names.lookup x=some .local:=by first | exact .inl rfl | exact .inr rfl | assumption):
  PS X (.Assign [.Name x pos'] (.ListComp elt [⟨tg,iter,ifs,0⟩] scope cpos) pos) (tAsg (tComp k js wi g tt te) (gName i)):=by
 subst hsc hN0
 intro pins s σ H D I h
 obtain⟨cl,e,h1,h2⟩:=qJh (qOz I C)
 rw[exec_Assign_Name_used _ _ _ _ hsw]
 refine wpAny_bind (wpAny_standAt (wpAny_bind ?_))
 show wpAny _ X.A (do let _ ← comprehension (.ListComp elt [⟨tg,iter,ifs,0⟩] scope cpos) scope X.env _ (newList []) false (eval iter X.env) (some (assign (.Name x pos') X.env))) _ _ s
 refine wpAny_bind (wpAny_mono (wpAny_comprehension_free (use:=some (assign (.Name x pos') X.env)) (Q:=fun _ s'=>SP X pins D .next s') rfl hs e C.kind C.names
  (thn (hi pins s σ H _ I h) fun v s1 q=>thn q fun itv s2 q2=>?_)) (fun _ s' hq=>wpAny_pure (wpAny_pure hq)) fun _ _ z=>z)
 obtain⟨it,fp,tn,J,H2,rfl,I2,T,st,f2,rd⟩:=q2
 refine qCx (RR:=fun acc L=>compPost (model X.prog X.w) X.A X.xe (some (assign (.Name x pos') X.env)) (fun _ s'=>SP X pins D .next s') acc L) hc C h1 h2 (hg cl) (ht cl) (he cl) I2 T st f2 rd ?_
 intro A' L H' s' I' ⟨f0,f1,f2',f3,f4,f5⟩ ⟨m,hn⟩ q
 show wpAny _ X.A (assign (.Name x pos') X.env (.ref A')) _ _ s'
 refine wpAny_assign_Name (qKx (v:=V.ref A') I' hN hi' hx rfl (fun s'' I'' ⟨a,sb,ha⟩=>?_) hf)
 have hLa:L≠a:=by
  rcases ha with rfl | ha
  ·exact f1
  ·exact fun z=>f4 x a ha z.symm
 refine⟨m,hn.sameBut sb hLa,fun h' sb'=>⟨σ.set i (some (.ref A')),H',?_,q⟩⟩
 exact I''.turned (t':=s''.toks) (fun b o hb e=>(sb'.2 b hb).trans e) f0 f1 f3 f4 f5
end

noncomputable abbrev turnC (k:Nat)(js:List Nat)(g:TG)(tt:TT)(te:TE)(σ:St)(D:Addr)(x:V)(ys:List V)(H:Hp)(N:List V→Hp→Prop):Prop:=
 g x (stC k js σ) H fun σ4 H4=>(∃ow:St,ow.length=k∧σ4=ow++frees js σ)∧
  tt σ4 H4 fun b H5=>if b=true then te σ4 H5 fun y H6=>H6 D=some (.lst ys)∧ys.length<sizeLine∧N (ys++[y]) (upd H6 D (.lst (ys++[y]))) else N ys H5
section
variable {K:PySem.W.Frag}{a:Addr}{xs:List V}{k:Nat}{js:List Nat}{g:TG}{tt:TT}{te:TE}{σ:St}{H1:Hp}{Q:VK}
theorem jQ (Pv:Addr→Nat→List V→Hp→Prop)(h0:∀D,H1 D=none→Pv D 0 [] (upd H1 D (.lst [])))
  (hl:∀D i ys H,i≤xs.length→Pv D i ys H→SqL K H a xs)
  (hs:∀D i x ys H (N:List V→Hp→Prop),H1 D=none→H D=some (.lst ys)→xs[i]? = some x→Pv D i ys H→(∀zs H',H' D=some (.lst zs)→Pv D (i+1) zs H'→N zs H')→turnC k js g tt te σ D x ys H N)
  (hd:∀D ys H,H1 D=none→H D=some (.lst ys)→Pv D xs.length ys H→Q (.ref D) H):rdC k js g tt te (Itl K a) σ H1 Q:=by
 intro D hD
 refine⟨fun i m ys H=>m=xs.length - i∧i≤xs.length∧H D=some (.lst ys)∧Pv D i ys H,⟨xs.length,by simp,Nat.zero_le _,qW,h0 D hD⟩,?_⟩
 rintro i m ys H ⟨rfl,hi,hDy,p⟩
 refine⟨hDy,?_⟩
 have q:=hl D i ys H hi p
 by_cases hlt:i<xs.length
 ·refine .inr ⟨⟨xs,xs[i],q,by simp[hlt]⟩,fun x H' y=>?_⟩
  obtain⟨e,y⟩:=y
  subst e
  exact hs D i x ys _ (fun zs H'=>∃m',m'<xs.length - i∧m'=xs.length - (i+1)∧i+1≤xs.length∧H' D=some (.lst zs)∧Pv D (i+1) zs H') hD hDy (y xs q) p fun zs H' e p'=>⟨xs.length - (i+1),by omega,rfl,hlt,e,p'⟩
 ·have e:i=xs.length:=by omega
  subst e
  exact .inl ⟨⟨xs,q,Nat.le_refl _⟩,hd D ys H hD hDy p⟩
theorem qQx {lo:Int}{n:Nat}(Pv:Addr→Nat→List V→Hp→Prop)(h0:∀D,H1 D=none→Pv D 0 [] (upd H1 D (.lst [])))
  (hs:∀D i ys H (N:List V→Hp→Prop),H1 D=none→H D=some (.lst ys)→i<n→Pv D i ys H→(∀zs H',H' D=some (.lst zs)→Pv D (i+1) zs H'→N zs H')→turnC k js g tt te σ D (.int (lo+i)) ys H N)
  (hd:∀D ys H,H1 D=none→H D=some (.lst ys)→Pv D n ys H→Q (.ref D) H):rdC k js g tt te (Itr lo n) σ H1 Q:=by
 intro D hD
 refine⟨fun i m ys H=>m=n - i∧i≤n∧H D=some (.lst ys)∧Pv D i ys H,⟨n,by simp,Nat.zero_le _,qW,h0 D hD⟩,?_⟩
 rintro i m ys H ⟨rfl,hi,hDy,p⟩
 refine⟨hDy,?_⟩
 by_cases hlt:i<n
 ·refine .inr ⟨hlt,fun x H' y=>?_⟩
  obtain⟨e,y⟩:=y
  subst e y
  exact hs D i ys _ (fun zs H'=>∃m',m'<n - i∧m'=n - (i+1)∧i+1≤n∧H' D=some (.lst zs)∧Pv D (i+1) zs H') hD hDy hlt p fun zs H' e p'=>⟨n - (i+1),by omega,rfl,hlt,e,p'⟩
 ·have e:i=n:=by omega
  subst e
  exact .inl ⟨Nat.le_refl _,hd D ys H hD hDy p⟩
end
noncomputable def qWc (e:Expr):Scope:=match e with
 | .ListComp _ _ s _=>s
 | _=>{ kind:=.function,names:=[],isGenerator:=false,isCoroutine:=false }
noncomputable def argOf (e:Expr)(i:Nat):Expr:=match e with
 | .Call _ as _ _=>as.getD i (.Constant .none 0 ⟨0,0,0,0⟩)
 | _=>.Constant .none 0 ⟨0,0,0,0⟩
noncomputable def stAt (l:List Stmt)(i:Nat):Stmt:=l.getD i (.Pass ⟨0,0,0,0⟩)
noncomputable def asgVal (s:Stmt):Expr:=match s with
 | .Assign _ v _=>v
 | .Return (some v) _=>v
 | _=>.Constant .none 0 ⟨0,0,0,0⟩
end L2

namespace L2
open PySem PySem.Spec PyProof.Rows

theorem log2_lt {n k:Nat}(h:n<2 ^ (k+1)):n.log2≤k:=by
 by_cases h0:n=0
 ·subst h0;simp
 ·exact Nat.lt_succ_iff.mp ((Nat.log2_lt h0).mpr h)
theorem qIf {a:Int}(h:a.natAbs<2 ^ 1000):Builtin.Int.intBits a≤2 ^ 20:=by
 unfold Builtin.Int.intBits
 split
 ·exact Nat.zero_le _
 ·have:=log2_lt (n:=a.natAbs) (k:=999) h
  have e:(2:Nat) ^ 20=1048576:=by decide
  omega
theorem mulOk {a b:Int}(ha:a.natAbs<2 ^ 1000)(hb:b.natAbs<2 ^ 1000):IntMulOk a b:=IntMulOk.of_bits (qIf ha) (qIf hb)
section
variable {X:Cx}{a b:Expr}{ta tb:TE}{pos:Pos}
theorem yV:OpR X (binaryOp .Mult) (rI (fun i j=>i.natAbs<2 ^ 1000∧j.natAbs<2 ^ 1000) fun i j=>.int (i * j)):=opI fun _ _ _ _ _ _ _ hc q=>mul_int q (mulOk hc.1 hc.2)
theorem xO:OpR X (binaryOp .FloorDiv) (rI (fun _ j=>0<j∧j.natAbs<2 ^ 1000) fun i j=>.int (i / j)):=opI fun i j _ _ _ _ _ hc q=>by
 have h0:j≠0:=by have:=hc.1;omega
 have e:i.fdiv j=i / j:=Int.fdiv_eq_ediv_of_nonneg _ (by have:=hc.1;omega)
 refine floordiv_int h0 (by rw[e];exact q) (.inl (PyProof.noPylong_of_log2 ?_))
 have:=log2_lt (n:=j.natAbs) (k:=999) hc.2
 omega

theorem qFo:OpR X (binaryOp .Mult) (fun x y H Q=>∃z n,x=.str z∧y=.int n∧-1000≤n∧n≤1000∧z.length≤1000∧Q (.str (Txt.mul z n)) H):=by
 intro pins s σ H x y v u Q I rx ry h
 obtain⟨z,n,rfl,rfl,h0,h1,h2,q⟩:=h
 obtain⟨t,rfl⟩:=rx
 obtain⟨t',rfl⟩:=ry
 refine SB.mul ⟨?_,fun a b=>?_,fun a b=>?_⟩ fun t'' k=>⟨.str (Txt.mul z n),H,I.tok _,⟨_,rfl⟩,q⟩
 ·rw[decide_eq_false (by omega),decide_eq_false (by omega)];rfl
 ·intro c
  have:(2 ^ 63 - 1) / n≥(2 ^ 63 - 1) / 1000:=by
   apply Int.le_ediv_of_mul_le (by omega)
   have:(2 ^ 63 - 1:Int) / 1000 * n≤(2 ^ 63 - 1) / 1000 * 1000:=Int.mul_le_mul_of_nonneg_left h1 (by decide)
   exact Int.le_trans this (by decide)
  have e:((2:Int) ^ 63 - 1) / 1000=9223372036854775:=by decide
  omega
 ·show decide (z.length * n.toNat>sizeLine)=false
  refine decide_eq_false ?_
  have:z.length * n.toNat≤1000 * 1000:=Nat.mul_le_mul h2 (by omega)
  have e:sizeLine=16777216:=by decide
  omega
theorem qVc (x:Array Nat):∀(k:Nat) (acc:Array Nat),((List.replicate k x).foldl (·++·) acc).size=acc.size+k * x.size
 | 0,acc=>by simp
 | k+1,acc=>by
  rw[List.replicate_succ,List.foldl_cons,qVc x k,Array.size_append,Nat.succ_mul]
  omega
theorem qGi (x:Str)(n:Int):(Txt.mul x n).length≤x.length * n.toNat:=by
 unfold Txt.mul
 split
 ·exact Nat.zero_le _
 ·split
  ·rename_i h1 h2
   have:1≤n.toNat:=by omega
   exact Nat.le_mul_of_pos_right _ (by omega)
  ·show((List.replicate n.toNat x.cps).foldl (·++·) #[]).size≤_
   rw[qVc,Nat.mul_comm]
   exact Nat.le_of_eq (by simp[Str.length])

inductive DEq (K:PySem.W.Frag)(H:Hp):Nat→V→V→Prop
 | int {n} (i:Int):DEq K H n (.int i) (.int i)
 | str {n} (x:Str):DEq K H n (.str x) (.str x)
 | bl {n} (b:Bool):DEq K H n (.bl b) (.bl b)
 | non {n}:DEq K H n .non .non
 | same {n} (a:Addr):DEq K H n (.ref a) (.ref a)
 | lst {n} {a b:Addr} {xs ys:List V}:SqL K H a xs→SqL K H b ys→xs.length=ys.length→(∀(j:Nat) x y,xs[j]? = some x→ys[j]? = some y→DEq K H n x y)→DEq K H (n+1) (.ref a) (.ref b)
 | tup {n} {a b:Addr} {xs ys:List V}:SqT K H a xs→SqT K H b ys→xs.length=ys.length→(∀(j:Nat) x y,xs[j]? = some x→ys[j]? = some y→DEq K H n x y)→DEq K H (n+1) (.ref a) (.ref b)
theorem wM (n:Nat):(List.range n).all (fun _=>true)=true:=List.all_eq_true.mpr fun _ _=>rfl
theorem Inv.deq {pins:List (Addr×Obj)}{σ:St}{H:Hp}{s:Shared}(I:Inv X pins σ H s):∀{n:Nat} {x y:V},DEq X.K H n x y→∀{A:Around} {u v:Value},RelV x u→RelV y v→A.units+n<cLine→SeqAt.EqAt A s u v true:=by
 intro n x y d
 induction d with
 | int i=>intro A u v r q _;obtain⟨t,rfl⟩:=r;obtain⟨t',rfl⟩:=q;have:=SeqAt.EqAt.int_int (A:=A) (s:=s) i t i t';rwa [beq_self_eq_true] at this
 | str i=>intro A u v r q _;obtain⟨t,rfl⟩:=r;obtain⟨t',rfl⟩:=q;have:=SeqAt.EqAt.str_str (A:=A) (s:=s) i t i t';rwa [beq_self_eq_true] at this
 | bl i=>intro A u v r q _;cases r;cases q;exact SeqAt.EqAt.same _
 | non=>intro A u v r q _;cases r;cases q;exact SeqAt.EqAt.same _
 | same a=>intro A u v r q _;cases r;cases q;exact SeqAt.EqAt.same _
 | @lst n a b xs ys ha hb hl _ ih=>
  intro A u v r q hu
  cases r;cases q
  obtain⟨its,r1,p1,_⟩:=I.list ha
  obtain⟨its2,r2,p2,_⟩:=I.list hb
  by_cases hab:a=b
  ·subst hab;exact SeqAt.EqAt.same _
  ·refine SeqAt.EqAt.of_refs hab ?_
   have sz:its.toArray.size=its2.toArray.size:=by rw[List.size_toArray,List.size_toArray,← r1.length,← r2.length,hl]
   have:=SeqAt.RcAt.lists (A:=A) (s:=s) (e:=fun _=>true) p1.isList p2.isList sz (by omega) fun j h1 h2=>?_
   ·rwa [wM] at this
   ·have h1':j<xs.length:=by rw[r1.length];simpa using h1
    have h2':j<ys.length:=by rw[← hl];exact h1'
    obtain⟨u1,e1,q1⟩:=r1.get (List.getElem?_eq_getElem h1')
    obtain⟨u2,e2,q2⟩:=r2.get (List.getElem?_eq_getElem h2')
    have g1:its.toArray[j]=u1:=by
     have:its[j]? = some its.toArray[j]:=by simp
     exact Option.some.inj (this.symm.trans e1)
    have g2:its2.toArray[j]=u2:=by
     have:its2[j]? = some its2.toArray[j]:=by simp
     exact Option.some.inj (this.symm.trans e2)
    rw[g1,g2]
    exact ih j _ _ (List.getElem?_eq_getElem h1') (List.getElem?_eq_getElem h2') q1 q2 (by show A.units+1+n<cLine;omega)
 | @tup n a b xs ys ha hb hl _ ih=>
  intro A u v r q hu
  cases r;cases q
  obtain⟨its,r1,p1,_⟩:=I.tuple ha
  obtain⟨its2,r2,p2,_⟩:=I.tuple hb
  by_cases hab:a=b
  ·subst hab;exact SeqAt.EqAt.same _
  ·refine SeqAt.EqAt.of_refs hab ?_
   have sz:its.toArray.size=its2.toArray.size:=by rw[List.size_toArray,List.size_toArray,← r1.length,← r2.length,hl]
   have:=SeqAt.RcAt.tuples (A:=A) (s:=s) (e:=fun _=>true) (show s.heap.IsTuple a its.toArray from p1) (show s.heap.IsTuple b its2.toArray from p2) (by omega) fun j h1 h2=>?_
   ·rw[wM,sz,beq_self_eq_true] at this
    exact this
   ·have h1':j<xs.length:=by rw[r1.length];simpa using h1
    have h2':j<ys.length:=by rw[← hl];exact h1'
    obtain⟨u1,e1,q1⟩:=r1.get (List.getElem?_eq_getElem h1')
    obtain⟨u2,e2,q2⟩:=r2.get (List.getElem?_eq_getElem h2')
    have g1:its.toArray[j]=u1:=by
     have:its[j]? = some its.toArray[j]:=by simp
     exact Option.some.inj (this.symm.trans e1)
    have g2:its2.toArray[j]=u2:=by
     have:its2[j]? = some its2.toArray[j]:=by simp
     exact Option.some.inj (this.symm.trans e2)
    rw[g1,g2]
    exact ih j _ _ (List.getElem?_eq_getElem h1') (List.getElem?_eq_getElem h2') q1 q2 (by show A.units+1+n<cLine;omega)
noncomputable def rEqL (K:PySem.W.Frag)(k:Bool):R2:=fun x y H Q=>∃n a b xs ys,n≤60∧x=.ref a∧y=.ref b∧SqL K H a xs∧SqL K H b ys∧xs.length=ys.length∧(∀(j:Nat) x y,xs[j]? = some x→ys[j]? = some y→DEq K H n x y)∧Q (.bl k) H
theorem qZv {pins:List (Addr×Obj)}{σ:St}{H:Hp}{s:Shared}(I:Inv X pins σ H s){n:Nat}{xs ys:List V}{its its2:List Value}(r1:Vals xs its)(r2:Vals ys its2)(hl:xs.length=ys.length)
  (hd:∀(j:Nat) x y,xs[j]? = some x→ys[j]? = some y→DEq X.K H n x y) {A:Around} (hu:A.units+n<cLine):∀j (h1:j<its.toArray.size) (h2:j<its2.toArray.size),SeqAt.EqAt A s its.toArray[j] its2.toArray[j] true:=by
 intro j h1 h2
 have h1':j<xs.length:=by rw[r1.length];simpa using h1
 have h2':j<ys.length:=by rw[← hl];exact h1'
 obtain⟨u1,e1,q1⟩:=r1.get (List.getElem?_eq_getElem h1')
 obtain⟨u2,e2,q2⟩:=r2.get (List.getElem?_eq_getElem h2')
 have g1:its.toArray[j]=u1:=by
  have:its[j]? = some its.toArray[j]:=by simp
  exact Option.some.inj (this.symm.trans e1)
 have g2:its2.toArray[j]=u2:=by
  have:its2[j]? = some its2.toArray[j]:=by simp
  exact Option.some.inj (this.symm.trans e2)
 rw[g1,g2]
 exact I.deq (hd j _ _ (List.getElem?_eq_getElem h1') (List.getElem?_eq_getElem h2')) q1 q2 hu
theorem qTw (hu:X.A.units+64<cLine):OpR X (compareOp .Eq) (rEqL X.K true):=by
 intro pins s σ H x y v u Q I rx ry h
 obtain⟨n,a,b,xs,ys,hn,rfl,rfl,ha,hb,hl,hd,q⟩:=h
 cases rx;cases ry
 obtain⟨its,r1,p1,_⟩:=I.list ha
 obtain⟨its2,r2,p2,_⟩:=I.list hb
 have sz:its.toArray.size=its2.toArray.size:=by rw[List.size_toArray,List.size_toArray,← r1.length,← r2.length,hl]
 refine SeqAt.RcAt.lists (e:=fun _=>true) p1.isList p2.isList sz (by omega) (qZv I r1 r2 hl hd (by show X.A.units+1+n<cLine;omega)) _ _ _ _ ?_
 rw[wM]
 exact⟨.bl true,H,I,rfl,q⟩
theorem qTj (hu:X.A.units+64<cLine):OpR X (compareOp .NotEq) (rEqL X.K false):=by
 intro pins s σ H x y v u Q I rx ry h
 obtain⟨n,a,b,xs,ys,hn,rfl,rfl,ha,hb,hl,hd,q⟩:=h
 cases rx;cases ry
 obtain⟨its,r1,p1,_⟩:=I.list ha
 obtain⟨its2,r2,p2,_⟩:=I.list hb
 have sz:its.toArray.size=its2.toArray.size:=by rw[List.size_toArray,List.size_toArray,← r1.length,← r2.length,hl]
 refine SeqAt.RcNeAt.lists (e:=fun _=>true) p1.isList p2.isList sz (by omega) (qZv I r1 r2 hl hd (by show X.A.units+1+n<cLine;omega)) _ _ _ _ ?_
 rw[wM]
 exact⟨.bl false,H,I,rfl,q⟩
theorem qTk (hu:X.A.units+64<cLine):OpR X (compareOp .NotEq) (fun x y H Q=>∃a b xs,x=.ref a∧y=.ref b∧SqL X.K H a xs∧SqL X.K H b []∧Q (.bl (!xs.isEmpty)) H):=by
 intro pins s σ H x y v u Q I rx ry h
 obtain⟨a,b,xs,rfl,rfl,ha,hb,q⟩:=h
 cases xs with
 | nil=>exact qTj hu pins s σ H _ _ v u Q I rx ry ⟨0,a,b,[],[],by omega,rfl,rfl,ha,hb,rfl,fun j x y e=>by simp at e,q⟩
 | cons z zs=>
  cases rx;cases ry
  obtain⟨its,r1,p1,_⟩:=I.list ha
  obtain⟨its2,r2,p2,_⟩:=I.list hb
  have l1:=r1.length
  have l2:=r2.length
  refine SeqAt.RcNeAt.lists_lengths p1.isList p2.isList ?_ (by omega) _ _ _ _ ⟨.bl true,H,I,rfl,q⟩
  simp only[List.length_cons,List.length_nil] at l1 l2
  rw[bne_iff_ne,List.size_toArray,List.size_toArray]
  omega
theorem qAf:CallR X (.builtin "isinstance") (fun xs H Q=>∃x T t b,xs=[x,.ty T]∧TyOf X.K H x t∧PySem.W.kitOne X.K t (.type T)=some b∧Q (.bl b) H):=by
 intro pins s σ H xs us Q I r h
 obtain⟨x,T,t,b,rfl,ty,e,q⟩:=h
 obtain⟨u,v,rfl,ru,rv⟩:=vals2 r
 cases rv
 exact qHv I ru ty e fun tk=>⟨.bl b,H,I.tok _,rfl,q⟩
theorem qPw {x:Str}{T:String}{pos:Pos}(hg:Gl X x)(hm:X.mg x=none)(hv:bootBuiltins x=some (.type T))(hn:x ≠ "__name__" := by decide)(hd:(x == ("__debug__" : Str))=false:=by decide):PE X (.Name x pos) (tC (.ty T)):=
 qPc hg hm hv rfl hn hd
end

noncomputable def But (d:Addr)(H H':Hp):Prop:=∀b o,b≠d→H b=some o→H' b=some o
theorem But.refl {d:Addr}(H:Hp):But d H H:=fun _ _ _ h=>h
theorem But.trans {d:Addr}{H H1 H2:Hp}(a:But d H H1)(b:But d H1 H2):But d H H2:=fun c o n h=>b c o n (a c o n h)
theorem Same.but {d:Addr}{H H':Hp}(s:Same H H'):But d H H':=fun b o _ h=>s b o h
theorem But.upd {d:Addr}{H:Hp}{o:HO}:But d H (upd H d o):=fun b u n h=>by rw[qA n];exact h
theorem qV {H:Hp}{p:Addr}(h:H p=none)(o:HO):Same H (upd H p o):=fun b u q=>by rw[qA (qB q h)];exact q
theorem qZg {α:Type}(x:α)(xs:List α):atI (x::xs) 0=some x:=jR (xs:=x::xs) (j:=0) rfl
theorem zH:bootBuiltins "len" = some (.builtin "len"):=by decide +kernel
theorem qCv:bootBuiltins "min" = some (.builtin "min"):=by decide +kernel
theorem qUa:bootBuiltins "max" = some (.builtin "max"):=by decide +kernel
theorem yD:bootBuiltins "isinstance" = some (.builtin "isinstance"):=by decide +kernel
theorem qQz:bootBuiltins "list" = some (.type "list"):=by decide +kernel
theorem qCw:bootBuiltins "int" = some (.type "int"):=by decide +kernel
theorem qRe:bootBuiltins "bool" = some (.type "bool"):=by decide +kernel
theorem qIe:bootBuiltins "dict" = some (.type "dict"):=by decide +kernel
end L2

namespace PySem
namespace FR
end FR
section
variable {prog:Program}{w:World}{A:Around}{E:Value→Shared→Prop}{s:Shared}
end
end PySem
namespace L2
open PySem PySem.Spec PyProof.Rows
section
variable {X:Cx}{tg:Expr}
end
theorem jT {α β:Type}{F:α→β→Prop}:∀{a c:List α} {b d:List β},Paired F a b→Paired F c d→Paired F (a++c) (b++d)
 | _,_,_,_,.nil,q=>q
 | _,_,_,_,.cons f p,q=>.cons f (jT p q)
theorem xV {α β:Type}{F:α→β→Prop}:∀{a:List α} {b:List β} {i:Nat} {x:α} {y:β},Paired F a b→a[i]? = some x→b[i]? = some y→F x y
 | _,_,_,_,_,.nil,e,_=>by simp at e
 | _,_,0,_,_,.cons f _,e1,e2=>by simp at e1 e2;subst e1 e2;exact f
 | _,_,i+1,_,_,.cons _ p,e1,e2=>xV (i:=i) p (by simpa using e1) (by simpa using e2)
end L2

namespace PySem
namespace FD
theorem list_no_keys:typeLookup (.type "list") "keys" = pure none:=by rw[typeLookup_type,builtinLookup_eq_fast];kernel_rfl
theorem zip_no_keys:typeLookup (.type "zip") "keys" = pure none:=by rw[typeLookup_type,builtinLookup_eq_fast];kernel_rfl
theorem zip_no_getattr:typeLookup (.type "zip") "__getattr__" = pure none:=by rw[typeLookup_type,builtinLookup_eq_fast];kernel_rfl
theorem entry_zip_ga:entryFor table "zip.__getattribute__" = some Builtin.«object.__getattribute__»:=
 entryFor_alias (id' := "object.__getattribute__") (by kernel_rfl) (by decide +kernel) (by decide +kernel) (by kernel_rfl)
theorem keys_len:("keys" : Str).length+100≤sizeLine:=by decide +kernel
theorem keys_name:(["__module__","__name__","__qualname__","__doc__","__annotations__"]:List Str).contains "keys" = false:=by decide +kernel
end FD
theorem qAk (z:Addr)(vs:Array Value)(u:Tok):
  Meets (Builtin.«object.__getattribute__» ⟨[.ref z,.str "keys" u],[]⟩) (fun A R s=>s.heap.get? z=some { cls:=.type "zip",dict:=none,data:=.fields vs,slots:=#[] }∧raisesAttr (.ref z) "keys" A R s):=
 Meets.of_wp fun prog w A R s hs=>by
  obtain⟨hp,g,d,tk,os⟩:=s
  obtain⟨hx,hs⟩:=hs
  have hT:(⟨hp,g,d,tk,os⟩:Shared).TypeIs (.ref z) "zip" := ⟨_,hx,rfl⟩
  have f1:=FD.zip_no_keys
  unfold Builtin.«object.__getattribute__»
  repeat (any_goals (first | assumption | wp_step))
  try (simp only[FD.keys_name,Bool.false_eq_true,if_false];repeat (any_goals (first | assumption | wp_step)))
  exact wpAny_raiseAttrError hs.1 hs.2 (attrMsg_fits (by decide +kernel) FD.keys_len)
section
variable {prog:Program}{w:World}{A:Around}{E:Value→Shared→Prop}{s:Shared}
theorem qYd {z:Addr}{vs:Array Value}{Q:Option Value→Shared→Prop}(hx:s.heap.get? z=some { cls:=.type "zip",dict:=none,data:=.fields vs,slots:=#[] })(hA:A.handled=none)
  (h:∀h' tk,(∀b o,s.heap.get? b=some o→h'.get? b=some o)→Q none { s with heap:=h',toks:=tk }):wpAny (model prog w) A (getAttr? (.ref z) "keys") Q E s:=by
 obtain⟨hp,g,d,tk,os⟩:=s
 have hT:∀tk',(⟨hp,g,d,tk',os⟩:Shared).TypeIs (.ref z) "zip" := fun _=>⟨_,hx,rfl⟩
 have f1:=sub_AttributeError
 have f3:=F.slot_zip_getattribute.lookup
 have f4:=F.slot_zip_getattribute.bind (.ref z)
 have f5:=FD.zip_no_getattr
 unfold getAttr? getAttrBy? getAttrBy
 repeat (any_goals (first | assumption | exact hT _ | ((with_reducible show wpAny _ _ (call (Value.builtin "zip.__getattribute__") _ _) _ _ _);refine call_meets F.slot_zip_getattribute (hT _) FD.entry_zip_ga (F.args_zip_getattribute_2 _ _) (qAk z vs _) ⟨hx,hA,fun h' tk' e hx'=>?_⟩) | wp_step))
 obtain⟨t',u',he⟩:=hx'.there
 show wpAny _ _ (getattributeRaised _ _ _ _ _ _ _) _ _ _
 unfold getattributeRaised
 repeat (any_goals (first | assumption | wp_step))
 exact h _ _ hx'.keeps
theorem qZm {a:Addr}{xs:Array Value}{k:Nat}{Q:Option Value→Shared→Prop}(hx:s.heap.get? a=some { cls:=.type "list",data:=.seq xs k })(hA:A.handled=none)
  (h:∀h' tk,(∀b o,s.heap.get? b=some o→h'.get? b=some o)→Q none { s with heap:=h',toks:=tk }):wpAny (model prog w) A (getAttr? (.ref a) "keys") Q E s:=by
 obtain⟨hp,g,d,tk,os⟩:=s
 have hT:∀tk',(⟨hp,g,d,tk',os⟩:Shared).TypeIs (.ref a) "list" := fun _=>⟨_,hx,rfl⟩
 have f1:=sub_AttributeError
 have f3:=F.slot_list_getattribute.lookup
 have f4:=F.slot_list_getattribute.bind (.ref a)
 have f5:=am_list_getattr_none
 unfold getAttr? getAttrBy? getAttrBy
 repeat (any_goals (first | assumption | exact hT _ | ((with_reducible show wpAny _ _ (call (Value.builtin "list.__getattribute__") _ _) _ _ _);refine call_meets F.slot_list_getattribute (hT _) am_entry_list_getattribute (F.args_list_getattribute_2 _ _) (meets_getattribute_miss_list a xs k #[] _ _ FD.list_no_keys FD.keys_name FD.keys_len) ⟨hx,hA,fun h' tk' e hx'=>?_⟩) | wp_step))
 obtain⟨t',u',he⟩:=hx'.there
 show wpAny _ _ (getattributeRaised _ _ _ _ _ _ _) _ _ _
 unfold getattributeRaised
 repeat (any_goals (first | assumption | wp_step))
 exact h _ _ hx'.keeps

theorem qQv {it t:Addr}{i:Nat}{items:Array Value}{x:Value}{Q:Value→Shared→Prop}(hit:s.heap.IsTupleIter it t i)(ht:s.heap.IsTuple t items)(hx:items[i]? = some x)
  (hQ:∀h',h'.IsTupleIter it t (i+1)→Heap.SameBut it s.heap h'→Q x { s with heap:=h' }):wpAny (model prog w) A (Builtin.SmallTypes.nextOf (.ref it)) Q E s:=by
 obtain⟨o,ho,hc,hd⟩:=id hit
 obtain⟨ol,hol,_,nl,hdl⟩:=ht
 unfold Builtin.SmallTypes.nextOf
 refine wpAny_bind (wpAny_callSpecial?_slot (name:=Str.ofString "__next__") hit.typeIs F.slot_tuple_iterator_next (wpAny_call_entry F.slot_tuple_iterator_next hit.typeIs F.entry_tuple_iterator_next ?_ (F.args_tuple_iterator_next_1 _)))
 refine wpAny_bind (m:=field (.ref it) 0) (wpAny_field ho hd (x:=.ref t) rfl ?_)
 show wpAny _ _ (if (Value.ref t == Value.none)=true then _ else _) _ _ s;rw[if_neg (show¬((Value.ref t == Value.none)=true) from Bool.false_ne_true)]
 refine wpAny_bind (m:=field (.ref it) 1) (wpAny_field ho hd (x:=.int i 0) rfl ?_)
 refine wpAny_bind (m:=seqItems? (.ref t)) (wpAny_seqItems hol hdl ?_)
 simp only[Int.toNat_natCast,hx]
 refine wpAny_bind (wpAny_setField ho hd (by simp) (wpAny_pure ⟨x,rfl,wpAny_pure (hQ _ ?_ (Heap.SameBut.update ..))⟩))
 exact⟨_,Heap.get?_update_self _ ho (Obj.isFreed_of_fields (Obj.data_mapFields hd _)),(Obj.cls_mapFields ..).trans hc,by rw[Obj.data_mapFields hd];simp[rawInt]⟩

noncomputable abbrev ZipAt (h:Heap)(z TI TO:Addr)(f0 f1:Value):Prop:=h.get? z=some { cls:=.type "zip",dict:=none,data:=.fields #[f0,f1,.bool false,.ref TI,.ref TO],slots:=#[] }
noncomputable abbrev zH1 (h:Heap)(l:Addr):Heap:=h.push { cls:=.type "list_iterator",data:=.fields #[.ref l,.int 0 0] }
noncomputable abbrev zH2 (h:Heap)(l t:Addr):Heap:=(zH1 h l).push { cls:=.type "tuple_iterator",data:=.fields #[.ref t,.int 0 0] }
noncomputable abbrev zH3 (h:Heap)(l t:Addr):Heap:=(zH2 h l t).push { cls:=.type "tuple",data:=.seq #[.ref h.objs.size,.ref (zH1 h l).objs.size] }
noncomputable abbrev zH4 (h:Heap)(l t:Addr):Heap:=(zH3 h l t).push { cls:=.type "tuple",data:=.seq #[.none,.none] }
noncomputable abbrev zH5 (h:Heap)(l t:Addr):Heap:=(zH4 h l t).push { cls:=.type "zip",data:=.fields #[.none,.bool false,.bool false,.ref (zH2 h l t).objs.size,.ref (zH3 h l t).objs.size] }
theorem qVz (l t:Addr)(xs ys:Array Value):
  Meets (Builtin.«zip.__new__» ⟨[.type "zip",.ref l,.ref t],[]⟩) (fun _ R s=>s.heap.IsList l xs∧s.heap.IsTuple t ys∧R (.ok (.ret (.ref (zH4 s.heap l t).objs.size))) { s with heap:=zH5 s.heap l t }):=
 .of_wp fun prog w A R s h=>by
  obtain⟨hp,g,d,tk,os⟩:=s;obtain⟨hl,ht,h⟩:=h
  have hsub:=sub_zip
  have hL1:Heap.IsList (Shared.heap ⟨hp,g,d,tk,os⟩) l xs:=hl
  have hL2:Heap.IsTuple (Shared.heap ⟨hp.push { cls:=.type "list_iterator",data:=.fields #[.ref l,.int 0 0] },g,d,tk,os⟩) t ys:=by
   obtain⟨o,ho,r⟩:=ht
   exact⟨o,Heap.get?_push_of_some _ ho,r⟩
  wp_walk using wpAny_pyIter_list hL1,wpAny_pyIter_tuple hL2
  exact⟨_,rfl,h⟩
structure ZipSt (h:Heap)(z TI TO i1 i2 l t:Addr)(k:Nat):Prop where
 zip:ZipAt h z TI TO .none (.bool false)∨∃(T:Addr) (f:Bool),ZipAt h z TI TO (rawInt T) (.bool f)∧(∃o,h.get? T=some o)∧T≠z∧T≠TO∧T≠i1∧T≠i2
 its:IsPair h TI (.ref i1) (.ref i2)
 own:∃a b,IsPair h TO a b
 one:h.IsListIter i1 l k
 two:h.IsTupleIter i2 t k
structure ZApart (z TI TO i1 i2:Addr):Prop where
 TIz:TI≠z
 TOz:TO≠z
 i1z:i1≠z
 i2z:i2≠z
 TITO:TI≠TO
 TIi1:TI≠i1
 TIi2:TI≠i2
 TOi1:TO≠i1
 TOi2:TO≠i2
 i12:i1≠i2
theorem qAe {l t:Addr}{xs ys:Array Value}{Q:Value→Shared→Prop}(hl:s.heap.IsList l xs)(ht:s.heap.IsTuple t ys)
  (h:∀h' z TI TO i1 i2,ZApart z TI TO i1 i2→ZipSt h' z TI TO i1 i2 l t 0→s.heap.objs.size≤z→s.heap.objs.size≤TI→s.heap.objs.size≤TO→s.heap.objs.size≤i1→s.heap.objs.size≤i2→
   (∀c o,s.heap.get? c=some o→h'.get? c=some o)→Q (.ref z) { s with heap:=h' }):
  wpAny (model prog w) A (call (.type "zip") [.ref l,.ref t]) Q E s:=by
 refine callType_new F.called_zip (by decide) (F.typeCall_zip_2 _ _) (F.newCall_zip_2 _ _) (fun obj=>F.args_object_init_3 obj _ _) F.entry_zip_new (qVz l t xs ys) ⟨hl,ht,?_⟩
 have z1:(zH1 s.heap l).objs.size=s.heap.objs.size+1:=Heap.size_push ..
 have z2:(zH2 s.heap l t).objs.size=s.heap.objs.size+2:=by rw[Heap.size_push,z1]
 have z3:(zH3 s.heap l t).objs.size=s.heap.objs.size+3:=by rw[Heap.size_push,z2]
 have z4:(zH4 s.heap l t).objs.size=s.heap.objs.size+4:=by rw[Heap.size_push,z3]
 have g5:(zH5 s.heap l t).get? (zH4 s.heap l t).objs.size=some _:=Heap.get?_push_size _ rfl
 have g4:(zH5 s.heap l t).get? (zH3 s.heap l t).objs.size=some _:=Heap.get?_push_of_some _ (Heap.get?_push_size _ rfl)
 have g3:(zH5 s.heap l t).get? (zH2 s.heap l t).objs.size=some _:=Heap.get?_push_of_some _ (Heap.get?_push_of_some _ (Heap.get?_push_size _ rfl))
 have g2:(zH5 s.heap l t).get? (zH1 s.heap l).objs.size=some _:=Heap.get?_push_of_some _ (Heap.get?_push_of_some _ (Heap.get?_push_of_some _ (Heap.get?_push_size _ rfl)))
 have g1:(zH5 s.heap l t).get? s.heap.objs.size=some _:=Heap.get?_push_of_some _ (Heap.get?_push_of_some _ (Heap.get?_push_of_some _ (Heap.get?_push_of_some _ (Heap.get?_push_size _ rfl))))
 refine⟨⟨_,g5,rfl⟩,h _ _ (zH2 s.heap l t).objs.size (zH3 s.heap l t).objs.size s.heap.objs.size (zH1 s.heap l).objs.size ?_ ⟨.inl g5,g3,⟨_,_,g4⟩,⟨_,g1,rfl,rfl⟩,⟨_,g2,rfl,rfl⟩⟩ (by omega) (by omega) (by omega) (Nat.le_refl _) (by omega) ?_⟩
 ·constructor <;> (intro e;have e':@Eq Nat _ _:=e;omega)
 ·exact fun c o e=>Heap.get?_push_of_some _ (Heap.get?_push_of_some _ (Heap.get?_push_of_some _ (Heap.get?_push_of_some _ (Heap.get?_push_of_some _ e))))
end
end PySem

namespace PySem
section
variable {prog:Program}{w:World}{A:Around}{E:Value→Shared→Prop}{s:Shared}
theorem qJm {z TI TO i1 i2 l t:Addr}{k:Nat}{xs ys:Array Value}{x y:Value}{Q:Value→Shared→Prop}(D:ZApart z TI TO i1 i2)(S:ZipSt s.heap z TI TO i1 i2 l t k)
  (hl:s.heap.IsList l xs) (ht:s.heap.IsTuple t ys) (nl:l≠z∧l≠TO∧l≠i1∧l≠i2) (nt:t≠z∧t≠TO∧t≠i1∧t≠i2) (hx:xs[k]? = some x) (hy:ys[k]? = some y)
  (hQ:∀h' T,ZipSt h' z TI TO i1 i2 l t (k+1)→IsPair h' T x y→(∀c o,c≠z→c≠TO→c≠i1→c≠i2→s.heap.get? c=some o→h'.get? c=some o)→Q (.ref T) { s with heap:=h' }):
  wpAny (model prog w) A (Builtin.«zip.__next__» ⟨[.ref z],[]⟩) (fun fin s'=>∃v,fin=.done (.ret v)∧Q v s') E s:=by
 obtain⟨hz,hTI,⟨a,b,hTO⟩,h1,h2⟩:=S
 rcases hz with hz | ⟨T,f,hz,⟨oT,hT⟩,n1,n2,n3,n4⟩
 ·refine wpAny_bind (m:=field (.ref z) 2) (wpAny_field hz rfl (x:=.bool false) rfl ?_)
  refine wpAny_bind (m:=field (.ref z) 3) (wpAny_field hz rfl (x:=.ref TI) rfl ?_)
  refine wpAny_bind (wpAny_seqItems hTI rfl ?_)
  refine wpAny_bind (m:=Builtin.SmallTypes.ownedTupleIsFree (.ref z)) ?_
  unfold Builtin.SmallTypes.ownedTupleIsFree
  refine wpAny_bind (wpAny_field hz rfl (x:=.none) rfl (wpAny_pure ?_))
  simp only[if_true]
  refine wpAny_bind (wpAny_rule (wpAny_bind (wpAny_field hz rfl (x:=.ref TO) rfl (wpAny_bind (wpAny_setField_rec hz (by simp) fun h₁ hz₁ hs₁=>?_)))))
  replace hz₁:ZipAt h₁ z TI TO .ellipsis (.bool false):=hz₁
  refine wpAny_bind ?_
  simp only[List.zipIdx_cons,List.zipIdx_nil,List.forIn_cons,List.forIn_nil]
  refine wpAny_bind (wpAny_bind (wpAny_onRaise ?_))
  refine wpAny_bind (m:=Builtin.SmallTypes.nextOf (.ref i1)) (wpAny_nextOf_list_item (h1.extBut hs₁.extBut D.i1z) (hl.extBut hs₁.extBut nl.1) hx fun h₂ h1₂ hs₂=>wpAny_pure ?_)
  have hTO₂:IsPair h₂ TO a b:=hs₂.extBut _ _ D.TOi1 (hs₁.extBut _ _ D.TOz hTO)
  refine wpAny_bind (wpAny_seqItems hTO₂ rfl (wpAny_bind (wpAny_updateSeq_pair hTO₂ fun h₃ hTO₃ hs₃=>?_)))
  replace hTO₃:IsPair h₃ TO x b:=hTO₃
  refine wpAny_bind (wpAny_letGo (wpAny_pure ?_))
  refine wpAny_bind (wpAny_bind (wpAny_onRaise ?_))
  have ht₃:h₃.IsTuple t ys:=by
   obtain⟨o,ho,r⟩:=ht
   exact⟨o,hs₃.extBut _ _ nt.2.1 (hs₂.extBut _ _ nt.2.2.1 (hs₁.extBut _ _ nt.1 ho)),r⟩
  have h2₃:h₃.IsTupleIter i2 t k:=h2.at fun o e=>hs₃.extBut _ _ (Ne.symm D.TOi2) (hs₂.extBut _ _ (Ne.symm D.i12) (hs₁.extBut _ _ D.i2z e))
  refine wpAny_bind (m:=Builtin.SmallTypes.nextOf (.ref i2)) (qQv h2₃ ht₃ hy fun h₄ h2₄ hs₄=>wpAny_pure ?_)
  have hTO₄:IsPair h₄ TO x b:=hs₄.extBut _ _ D.TOi2 hTO₃
  refine wpAny_bind (wpAny_seqItems hTO₄ rfl (wpAny_bind (wpAny_updateSeq_pair hTO₄ fun h₅ hTO₅ hs₅=>?_)))
  replace hTO₅:IsPair h₅ TO x y:=hTO₅
  refine wpAny_bind (wpAny_letGo (wpAny_pure (wpAny_pure (wpAny_bind (wpAny_seqItems hTO₅ rfl (wpAny_bind (wpAny_newTuple ?_)))))))
  have hz₅:ZipAt h₅ z TI TO .ellipsis (.bool false):=hs₅.extBut _ _ D.TOz.symm (hs₄.extBut _ _ D.i2z.symm (hs₃.extBut _ _ D.TOz.symm (hs₂.extBut _ _ D.i1z.symm hz₁)))
  have hk₅:∀c o,c≠z→c≠TO→c≠i1→c≠i2→s.heap.get? c=some o→h₅.get? c=some o:=fun c o c1 c2 c3 c4 e=>hs₅.extBut _ _ c2 (hs₄.extBut _ _ c4 (hs₃.extBut _ _ c2 (hs₂.extBut _ _ c3 (hs₁.extBut _ _ c1 e))))
  have h1₅:h₅.IsListIter i1 l (k+1):=h1₂.at fun o e=>hs₅.extBut _ _ (Ne.symm D.TOi1) (hs₄.extBut _ _ D.i12 (hs₃.extBut _ _ (Ne.symm D.TOi1) e))
  have h2₅:h₅.IsTupleIter i2 t (k+1):=h2₄.at fun o e=>hs₅.extBut _ _ (Ne.symm D.TOi2) e
  refine wpAny_bind (m:=Builtin.SmallTypes.ownedTupleHandOut (.ref z) (.ref h₅.objs.size)) ?_
  unfold Builtin.SmallTypes.ownedTupleHandOut
  have hz₆:ZipAt (h₅.push { cls:=.type "tuple",data:=.seq #[x,y] }) z TI TO .ellipsis (.bool false):=Heap.get?_push_of_some _ hz₅
  refine wpAny_bind (wpAny_setField_rec hz₆ (by simp) fun h₇ hz₇ hs₇=>?_)
  replace hz₇:ZipAt h₇ z TI TO (rawInt h₅.objs.size) (.bool false):=hz₇
  refine wpAny_setField_rec hz₇ (by simp) fun h₈ hz₈ hs₈=>?_
  replace hz₈:ZipAt h₈ z TI TO (rawInt h₅.objs.size) (.bool false):=hz₈
  have up:∀c o,c≠z→h₅.get? c=some o→h₈.get? c=some o:=fun c o c1 e=>hs₈.extBut _ _ c1 (hs₇.extBut _ _ c1 (Heap.get?_push_of_some _ e))
  have hzlt:z<h₅.objs.size:=Heap.lt_size hz₅
  have hT₈:IsPair h₈ h₅.objs.size x y:=hs₈.extBut _ _ (Nat.ne_of_gt hzlt) (hs₇.extBut _ _ (Nat.ne_of_gt hzlt) (Heap.get?_push_size _ rfl))
  have lt1:i1<h₅.objs.size:=by obtain⟨_,e,_⟩:=h1₅;exact Heap.lt_size e
  have lt2:i2<h₅.objs.size:=by obtain⟨_,e,_⟩:=h2₅;exact Heap.lt_size e
  refine wpAny_pure ⟨_,rfl,hQ h₈ _ ⟨.inr ⟨_,_,hz₈,⟨_,hT₈⟩,Nat.ne_of_gt hzlt,Nat.ne_of_gt (Heap.lt_size hTO₅),Nat.ne_of_gt lt1,Nat.ne_of_gt lt2⟩,up _ _ D.TIz (hk₅ _ _ D.TIz D.TITO D.TIi1 D.TIi2 hTI),⟨_,_,up _ _ D.TOz hTO₅⟩,h1₅.at fun o e=>up _ o D.i1z e,h2₅.at fun o e=>up _ o D.i2z e⟩ hT₈ fun c o c1 c2 c3 c4 e=>up c o c1 (hk₅ c o c1 c2 c3 c4 e)⟩
 ·refine wpAny_bind (m:=field (.ref z) 2) (wpAny_field hz rfl (x:=.bool false) rfl ?_)
  refine wpAny_bind (m:=field (.ref z) 3) (wpAny_field hz rfl (x:=.ref TI) rfl ?_)
  refine wpAny_bind (wpAny_seqItems hTI rfl ?_)
  refine wpAny_bind (m:=Builtin.SmallTypes.ownedTupleIsFree (.ref z)) ?_
  have step:∀{α:Type} (N:Bool→Sem α) (QQ:α→Shared→Prop),(∀h₁,ZipAt h₁ z TI TO (rawInt T) (.bool true)→Heap.SameBut z s.heap h₁→wpAny (model prog w) A (N false) QQ E { s with heap:=h₁ })→
    wpAny (model prog w) A (Builtin.SmallTypes.ownedTupleIsFree (.ref z)) (fun b s'=>wpAny (model prog w) A (N b) QQ E s') E s:=fun N QQ hN=>by
   unfold Builtin.SmallTypes.ownedTupleIsFree
   refine wpAny_bind (wpAny_field hz rfl (x:=rawInt T) rfl ?_)
   show wpAny _ _ (loadIfAlive ((T:Int).toNat) >>= _) _ _ _
   rw[Int.toNat_natCast]
   refine wpAny_bind (W.kdx_alive hT ?_)
   simp only[Option.isNone_some,Bool.false_eq_true,if_false]
   refine wpAny_bind (wpAny_field hz rfl (x:=.bool f) rfl ?_)
   cases f with
   | true=>rw[if_neg (show¬((Value.bool true != Value.bool true)=true) from Bool.false_ne_true)];exact wpAny_pure (hN _ hz (.refl ..))
   | false=>rw[if_pos (show(Value.bool false != Value.bool true)=true from rfl)];exact wpAny_bind (wpAny_setField_rec hz (by simp) fun h₁ hz₁ hs₁=>wpAny_pure (hN h₁ hz₁ hs₁))
  refine step _ _ fun h₁ hz₁ hs₁=>?_
  simp only[Bool.false_eq_true,if_false]
  refine wpAny_bind ?_
  rw[← Array.forIn_toList]
  simp only[List.forIn_cons,List.forIn_nil]
  refine wpAny_bind (wpAny_bind (wpAny_holding ?_))
  refine wpAny_bind (m:=Builtin.SmallTypes.nextOf (.ref i1)) (wpAny_nextOf_list_item (h1.extBut hs₁.extBut D.i1z) (hl.extBut hs₁.extBut nl.1) hx fun h₂ h1₂ hs₂=>wpAny_pure (wpAny_pure ?_))
  refine wpAny_bind (wpAny_bind (wpAny_holding ?_))
  have ht₂:h₂.IsTuple t ys:=by
   obtain⟨o,ho,r⟩:=ht
   exact⟨o,hs₂.extBut _ _ nt.2.2.1 (hs₁.extBut _ _ nt.1 ho),r⟩
  have h2₂:h₂.IsTupleIter i2 t k:=h2.at fun o e=>hs₂.extBut _ _ (Ne.symm D.i12) (hs₁.extBut _ _ D.i2z e)
  refine wpAny_bind (m:=Builtin.SmallTypes.nextOf (.ref i2)) (qQv h2₂ ht₂ hy fun h₃ h2₃ hs₃=>wpAny_pure (wpAny_pure (wpAny_pure ?_)))
  refine wpAny_bind (wpAny_newTuple ?_ (show 2≤sizeLine by decide))
  have k₃:∀c o,c≠z→c≠i1→c≠i2→s.heap.get? c=some o→h₃.get? c=some o:=fun c o c1 c2 c3 e=>hs₃.extBut _ _ c3 (hs₂.extBut _ _ c2 (hs₁.extBut _ _ c1 e))
  have hz₃:ZipAt h₃ z TI TO (rawInt T) (.bool true):=hs₃.extBut _ _ (Ne.symm D.i2z) (hs₂.extBut _ _ (Ne.symm D.i1z) hz₁)
  refine wpAny_pure ⟨_,rfl,hQ _ _ ⟨.inr ⟨T,true,Heap.get?_push_of_some _ hz₃,⟨_,Heap.get?_push_of_some _ (k₃ _ _ n1 n3 n4 hT)⟩,n1,n2,n3,n4⟩,Heap.get?_push_of_some _ (k₃ _ _ D.TIz D.TIi1 D.TIi2 hTI),⟨_,_,Heap.get?_push_of_some _ (k₃ _ _ D.TOz D.TOi1 D.TOi2 hTO)⟩,h1₂.at fun o e=>Heap.get?_push_of_some _ (hs₃.extBut _ _ D.i12 e),h2₃.at fun o e=>Heap.get?_push_of_some _ e⟩ (Heap.get?_push_size _ rfl) fun c o c1 _ c3 c4 e=>Heap.get?_push_of_some _ (k₃ c o c1 c3 c4 e)⟩
theorem qJl {z TI TO i1 i2 l t:Addr}{k:Nat}{xs:Array Value}{Q:Fin→Shared→Prop}(hh:A.handled=none)(D:ZApart z TI TO i1 i2)(S:ZipSt s.heap z TI TO i1 i2 l t k)
  (hl:s.heap.IsList l xs) (nl:l≠z∧l≠TO∧l≠i1∧l≠i2) (hx:xs[k]? = none)
  (hE:∀h' e,(∀c o,c≠z→c≠TO→c≠i1→c≠i2→s.heap.get? c=some o→h'.get? c=some o)→(∃o,h'.get? e=some o∧o.cls=.type "StopIteration")→E (.ref e) { s with heap:=h' }):
  wpAny (model prog w) A (Builtin.«zip.__next__» ⟨[.ref z],[]⟩) Q E s:=by
 obtain⟨hz,hTI,⟨a,b,hTO⟩,h1,h2⟩:=S
 rcases hz with hz | ⟨T,f,hz,⟨oT,hT⟩,n1,n2,n3,n4⟩
 ·refine wpAny_bind (m:=field (.ref z) 2) (wpAny_field hz rfl (x:=.bool false) rfl ?_)
  refine wpAny_bind (m:=field (.ref z) 3) (wpAny_field hz rfl (x:=.ref TI) rfl ?_)
  refine wpAny_bind (wpAny_seqItems hTI rfl ?_)
  refine wpAny_bind (m:=Builtin.SmallTypes.ownedTupleIsFree (.ref z)) ?_
  unfold Builtin.SmallTypes.ownedTupleIsFree
  refine wpAny_bind (wpAny_field hz rfl (x:=.none) rfl (wpAny_pure ?_))
  simp only[if_true]
  refine wpAny_bind (wpAny_rule (wpAny_bind (wpAny_field hz rfl (x:=.ref TO) rfl (wpAny_bind (wpAny_setField_rec hz (by simp) fun h₁ hz₁ hs₁=>?_)))))
  replace hz₁:ZipAt h₁ z TI TO .ellipsis (.bool false):=hz₁
  refine wpAny_bind ?_
  simp only[List.zipIdx_cons,List.zipIdx_nil,List.forIn_cons,List.forIn_nil]
  refine wpAny_bind (wpAny_bind (wpAny_onRaise ?_))
  refine wpAny_bind (m:=Builtin.SmallTypes.nextOf (.ref i1)) (wpAny_nextOf_list_end hh (h1.extBut hs₁.extBut D.i1z) (hl.extBut hs₁.extBut nl.1) hx fun h₂ e hs₂ he=>?_)
  obtain⟨oe,hoe,hce⟩:=he
  have hz₂:ZipAt h₂ z TI TO .ellipsis (.bool false):=hs₂ _ _ D.i1z.symm hz₁
  have hez:e≠z:=fun x=>by subst x;rw[hz₂] at hoe;cases hoe;simp at hce
  exact wpAny_setField_rec hz₂ (by simp) fun h₃ _ hs₃=>hE h₃ e (fun c o c1 _ c3 _ x=>hs₃.extBut _ _ c1 (hs₂ _ _ c3 (hs₁.extBut _ _ c1 x))) ⟨oe,hs₃.extBut _ _ hez hoe,hce⟩
 ·refine wpAny_bind (m:=field (.ref z) 2) (wpAny_field hz rfl (x:=.bool false) rfl ?_)
  refine wpAny_bind (m:=field (.ref z) 3) (wpAny_field hz rfl (x:=.ref TI) rfl ?_)
  refine wpAny_bind (wpAny_seqItems hTI rfl ?_)
  refine wpAny_bind (m:=Builtin.SmallTypes.ownedTupleIsFree (.ref z)) ?_
  have step:∀{α:Type} (N:Bool→Sem α) (QQ:α→Shared→Prop),(∀h₁,ZipAt h₁ z TI TO (rawInt T) (.bool true)→Heap.SameBut z s.heap h₁→wpAny (model prog w) A (N false) QQ E { s with heap:=h₁ })→
    wpAny (model prog w) A (Builtin.SmallTypes.ownedTupleIsFree (.ref z)) (fun b s'=>wpAny (model prog w) A (N b) QQ E s') E s:=fun N QQ hN=>by
   unfold Builtin.SmallTypes.ownedTupleIsFree
   refine wpAny_bind (wpAny_field hz rfl (x:=rawInt T) rfl ?_)
   show wpAny _ _ (loadIfAlive ((T:Int).toNat) >>= _) _ _ _
   rw[Int.toNat_natCast]
   refine wpAny_bind (W.kdx_alive hT ?_)
   simp only[Option.isNone_some,Bool.false_eq_true,if_false]
   refine wpAny_bind (wpAny_field hz rfl (x:=.bool f) rfl ?_)
   cases f with
   | true=>rw[if_neg (show¬((Value.bool true != Value.bool true)=true) from Bool.false_ne_true)];exact wpAny_pure (hN _ hz (.refl ..))
   | false=>rw[if_pos (show(Value.bool false != Value.bool true)=true from rfl)];exact wpAny_bind (wpAny_setField_rec hz (by simp) fun h₁ hz₁ hs₁=>wpAny_pure (hN h₁ hz₁ hs₁))
  refine step _ _ fun h₁ hz₁ hs₁=>?_
  simp only[Bool.false_eq_true,if_false]
  refine wpAny_bind ?_
  rw[← Array.forIn_toList]
  simp only[List.forIn_cons,List.forIn_nil]
  refine wpAny_bind (wpAny_bind (wpAny_holding ?_))
  refine wpAny_bind (m:=Builtin.SmallTypes.nextOf (.ref i1)) (wpAny_nextOf_list_end hh (h1.extBut hs₁.extBut D.i1z) (hl.extBut hs₁.extBut nl.1) hx fun h₂ e hs₂ he=>hE h₂ e (fun c o c1 _ c3 _ x=>hs₂ _ _ c3 (hs₁.extBut _ _ c1 x)) he)
theorem qCn {z TI TO i1 i2 l t:Addr}{k:Nat}{xs ys:Array Value}{x y:Value}{Q:Option Value→Shared→Prop}(D:ZApart z TI TO i1 i2)(S:ZipSt s.heap z TI TO i1 i2 l t k)
  (hl:s.heap.IsList l xs) (ht:s.heap.IsTuple t ys) (nl:l≠z∧l≠TO∧l≠i1∧l≠i2) (nt:t≠z∧t≠TO∧t≠i1∧t≠i2) (hx:xs[k]? = some x) (hy:ys[k]? = some y)
  (hQ:∀h' T,ZipSt h' z TI TO i1 i2 l t (k+1)→IsPair h' T x y→(∀c o,c≠z→c≠TO→c≠i1→c≠i2→s.heap.get? c=some o→h'.get? c=some o)→Q (some (.ref T)) { s with heap:=h' }):
  wpAny (model prog w) A (pyNext (.ref z)) Q E s:=by
 have hT:s.TypeIs (.ref z) "zip" := by
  rcases S.zip with h | ⟨_,_,h,_⟩ <;> exact⟨_,h,rfl⟩
 unfold pyNext
 exact wpAny_bind (wpAny_attempt (wpAny_callSpecial?_slot (name:=Str.ofString "__next__") hT F.slot_zip_next (wpAny_call_entry F.slot_zip_next hT F.entry_zip_next
   (qJm D S hl ht nl nt hx hy fun h' T a1 a2 a3=>wpAny_pure (hQ h' T a1 a2 a3)) (F.args_zip_next_1 _))))
theorem qXd {z TI TO i1 i2 l t:Addr}{k:Nat}{xs:Array Value}{Q:Option Value→Shared→Prop}(hh:A.handled=none)(D:ZApart z TI TO i1 i2)(S:ZipSt s.heap z TI TO i1 i2 l t k)
  (hl:s.heap.IsList l xs) (nl:l≠z∧l≠TO∧l≠i1∧l≠i2) (hx:xs[k]? = none)
  (hQ:∀h',(∀c o,c≠z→c≠TO→c≠i1→c≠i2→s.heap.get? c=some o→h'.get? c=some o)→Q none { s with heap:=h' }):wpAny (model prog w) A (pyNext (.ref z)) Q E s:=by
 have hT:s.TypeIs (.ref z) "zip" := by
  rcases S.zip with h | ⟨_,_,h,_⟩ <;> exact⟨_,h,rfl⟩
 unfold pyNext
 refine wpAny_bind (wpAny_attempt (wpAny_callSpecial?_slot (name:=Str.ofString "__next__") hT F.slot_zip_next (wpAny_call_entry F.slot_zip_next hT F.entry_zip_next (qJl hh D S hl nl hx fun h' e hk he=>?_) (F.args_zip_next_1 _))))
 obtain⟨o,ho,hc⟩:=he
 exact wpAny_bind (wpAny_isInstance (T := "StopIteration") (b:=true) ⟨o,ho,hc⟩ isSubtype_stop (wpAny_pure (hQ _ hk)))
theorem qCo {z TI TO i1 i2 l t:Addr}{k:Nat}{Q:Value→Shared→Prop}(S:ZipSt s.heap z TI TO i1 i2 l t k)(h:Q (.ref z) s):wpAny (model prog w) A (pyIter (.ref z)) Q E s:=by
 have hT:s.TypeIs (.ref z) "zip" := by
  rcases S.zip with h | ⟨_,_,h,_⟩ <;> exact⟨_,h,rfl⟩
 exact wpAny_pyIter_slot hT F.slot_zip_iter (wpAny_call_entry F.slot_zip_iter hT F.entry_zip_iter (wpAny_pure ⟨_,rfl,"zip",_,hT,F.slot_zip_next.lookup,h⟩) (F.args_zip_iter_1 _))
end
end PySem

namespace PySem
namespace FD
theorem entry_upd_loop:entryFor table "dict.update.loop" = some Builtin.«dict.update.loop»:=entryFor_of_tree (by kernel_rfl)
theorem plain_upd_loop:plainId "dict.update.loop" = true:=by decide +kernel
end FD
structure PairIt (prog:Program)(w:World)(A:Around)(d it:Addr)(fp:List Addr)(kvs:List (Value×Value))(St:Nat→Heap→Prop):Prop where
 frame:∀i h h',St i h→Heap.SameBut d h h'→(∃o,h'.get? d=some o)→St i h'
 item:∀(i:Nat) (s:Shared) (Q:Option Value→Shared→Prop) (E:Value→Shared→Prop) (k v:Value),kvs[i]? = some (k,v)→St i s.heap→
  (∀T h' tk n,St (i+1) h'→(∃o,h'.get? T=some o∧o.cls=.type "tuple" ∧ o.data=.seq #[k,v] n)→(∀b o,b∉fp→s.heap.get? b=some o→h'.get? b=some o)→Q (some (.ref T)) { s with heap:=h',toks:=tk })→wpAny (model prog w) A (pyNext (.ref it)) Q E s
 done:∀(s:Shared) (Q:Option Value→Shared→Prop) (E:Value→Shared→Prop),St kvs.length s.heap→
  (∀h' tk,(∀b o,b∉fp→s.heap.get? b=some o→h'.get? b=some o)→Q none { s with heap:=h',toks:=tk })→wpAny (model prog w) A (pyNext (.ref it)) Q E s
section
variable {prog:Program}{w:World}{K:Type}[DecidableEq K]{knd:KeyKind prog w K}{A:Around}
noncomputable abbrev Keyed (knd:KeyKind prog w K):List (K×Value)→List (Value×Value)→Prop:=Paired fun p q=>knd.is p.1 q.1=true∧p.2=q.2
theorem qGo {ks:List (K×Value)}{kvs:List (Value×Value)}(h:Keyed knd ks kvs):∀{i:Nat} {p:K×Value},ks[i]? = some p→∃q,kvs[i]? = some q∧knd.is p.1 q.1=true∧p.2=q.2:=by
 induction h with
 | nil=>intro i p e;simp at e
 | cons f _ ih=>
  intro i p e
  cases i with
  | zero=>simp at e;subst e;exact⟨_,rfl,f⟩
  | succ i=>exact ih (i:=i) (by simpa using e)
theorem qAn {d it:Addr}{fp:List Addr}{kvs:List (Value×Value)}{ks:List (K×Value)}{St:Nat→Heap→Prop}(P:PairIt prog w A.in1 d it fp kvs St)(hk:Keyed knd ks kvs)(hd:d∉fp)(hz:ks.length≤1000){R:Result→Shared→Prop}{s₀:Shared}
  (hR:∀h' tk,(∀b o,b∉fp→b≠d→s₀.heap.get? b=some o→h'.get? b=some o)→h'.DictOf knd d (merged [] ks)→R (.ok (.ret .none)) { s₀ with heap:=h',toks:=tk }):
  ∀(m i:Nat) (h:Heap) (tk:Nat),ks.length - i=m→i≤ks.length→St i h→h.DictOf knd d (merged [] (ks.take i))→(∀b o,b∉fp→b≠d→s₀.heap.get? b=some o→h.get? b=some o)→
   codeAny (model prog w) A (.builtin "dict.update.loop" ⟨[.ref d,.ref it,rawInt i,.none],[]⟩) R { s₀ with heap:=h,toks:=tk }:=by
 intro m
 induction m with
 | zero=>
  intro i h tk hm hi st hD keep
  have e:i=ks.length:=by omega
  subst e
  refine codeAny_builtin FD.entry_upd_loop ?_
  rw[Around.under_plainId FD.plain_upd_loop _]
  rw[hk.length] at st
  refine wpAny_bind (m:=pyNext (.ref it)) (P.done { s₀ with heap:=h,toks:=tk } _ _ st fun h' tk' kp=>?_)
  rw[List.take_length] at hD
  refine wpAny_bind (m:=Builtin.Dict.addKeywords d []) (wpAny_pure (wpAny_pure ?_))
  refine hR h' tk' (fun b o b1 b2 e=>kp b o b1 (keep b o b1 b2 e)) ?_
  obtain⟨o,es,ep,ho,r⟩:=hD
  exact⟨o,es,ep,kp _ _ hd ho,r⟩
 | succ m ih=>
  intro i h tk hm hi st hD keep
  have hlt:i<ks.length:=by omega
  obtain⟨p,ep⟩:∃p,ks[i]? = some p:=⟨_,List.getElem?_eq_getElem hlt⟩
  obtain⟨⟨kv,vv⟩,eq,hkey,hval⟩:=qGo hk ep
  have hval:p.2=vv:=hval
  refine codeAny_builtin FD.entry_upd_loop ?_
  rw[Around.under_plainId FD.plain_upd_loop _]
  refine wpAny_bind (m:=pyNext (.ref it)) (P.item i { s₀ with heap:=h,toks:=tk } _ _ kv vv eq st fun T h' tk' n st' hT kp=>?_)
  obtain⟨oT,hT,hTc,hTd⟩:=hT
  have hTy:Shared.TypeIs { s₀ with heap:=h',toks:=tk' } (.ref T) "tuple" := ⟨_,hT,hTc⟩
  have hD':h'.DictOf knd d (merged [] (ks.take i)):=by
   obtain⟨o,es,ep,ho,r⟩:=hD
   exact⟨o,es,ep,kp _ _ hd ho,r⟩
  refine wpAny_bind (wpAny_holding ?_)
  refine wpAny_bind (wpAny_tryCatch ?_)
  unfold Builtin.Dict.pairItems
  refine wpAny_bind (wpAny_typeOf hTy ?_)
  rw[if_pos (by decide)]
  refine wpAny_bind (wpAny_seqItems hT hTd (wpAny_pure ?_))
  refine wpAny_holding (wpAny_dictSet_pairs hkey hD' (fun h'' hD'' sb=>?_) ?_)
  ·refine wpAny_pure ⟨plainId_quiet FD.plain_upd_loop _,?_⟩
   have e1:merged [] (ks.take (i+1))=stored (merged [] (ks.take i)) p.1 p.2:=merged_take_succ [] ks i p ep
   rw[← hval] at hD''
   have:=ih (i+1) h'' (tk'+1) (by omega) hlt (P.frame _ _ _ st' sb (by obtain⟨o,_,_,ho,_⟩:=hD'';exact⟨o,ho⟩)) (by rw[e1];exact hD'') fun b o b1 b2 e=>(sb.2 b b2).trans (kp b o b1 (keep b o b1 b2 e))
   exact this
  ·have:=merged_length_le ([]:List (K×Value)) (ks.take i)
   rw[List.length_take,List.length_nil] at this
   have e:sizeLine=16777216:=by decide
   omega

theorem wI {E:Value→Shared→Prop}{s:Shared}{a:Addr}{T:String}{Q:Value→Shared→Prop}(hT:s.TypeIs (.ref a) T)(hne:(Value.type T != Value.type "dict")=true)
  (h:∀E':Value→Shared→Prop,wpAny (model prog w) A.in1.in1 (getAttr? (.ref a) "keys") (fun r s2=>r=none∧wpAny (model prog w) A.in1.in1 (pyIter (.ref a)) (fun it s3=>codeAny (model prog w) A.in1 (.builtin "dict.update.loop" ⟨[.ref s.heap.objs.size,it,rawInt 0,.none],[]⟩)
   (wants (fun r s₂=>r=.none∧Q (.ref s.heap.objs.size) s₂) E) s3) E' s2) E' { s with heap:=s.heap.push { cls:=.type "dict",data:=.dict #[] } }):
  wpAny (model prog w) A (call (.type "dict") [.ref a]) Q E s:=by
 refine callType_codes (Q₁:=fun obj s₁=>obj=.ref s.heap.objs.size∧s₁={ s with heap:=s.heap.push { cls:=.type "dict",data:=.dict #[] } }) F.kt_called_dict (F.kt_typeCall_dict_1 _) F.entry_dict_init (kt_code_dict_new _ ⟨rfl,rfl⟩) ?_
 rintro obj s₁ ⟨rfl,rfl⟩
 have gd:(s.heap.push { cls:=.type "dict",data:=.dict #[] }).get? s.heap.objs.size=some { cls:=.type "dict",data:=.dict #[] }:=Heap.get?_push_size _ rfl
 have hnew:Shared.TypeIs { s with heap:=s.heap.push { cls:=.type "dict",data:=.dict #[] } } (.ref s.heap.objs.size) "dict" := ⟨_,gd,rfl⟩
 have hT':Shared.TypeIs { s with heap:=s.heap.push { cls:=.type "dict",data:=.dict #[] } } (.ref a) T:=by
  obtain⟨o,ho,hc⟩:=hT
  exact⟨o,Heap.get?_push_of_some _ ho,hc⟩
 refine⟨hnew,F.args_dict_init_2 _ _,?_⟩
 unfold Builtin.«dict.__init__»
 refine wpAny_bind ?_
 unfold Builtin.Dict.selfAndRest
 refine wpAny_bind (wpAny_notOrdered_dict hnew ?_)
 show wpAny _ _ (pure (s.heap.objs.size,[Value.ref a])) _ _ _
 refine wpAny_pure ?_
 show wpAny _ _ (Builtin.Dict.updateFrom "dict.__init__" s.heap.objs.size (.ref a) [] .none) _ _ _
 unfold Builtin.Dict.updateFrom
 refine wpAny_bind (wpAny_typeOf hT' ?_)
 rw[if_pos hne]
 refine wpAny_bind (wpAny_mono (h _) (fun r s2 hr=>?_) fun _ _ x=>x)
 obtain⟨rfl,hr⟩:=hr
 simp only[Option.isNone_none,if_true]
 refine wpAny_bind (wpAny_rule (wpAny_bind (wpAny_mono hr (fun it s3 hc=>?_) fun _ _ x=>x)))
 exact wpAny_pure ⟨plainId_quiet FD.plain_upd_loop _,hc⟩
end
section
variable {prog:Program}{w:World}{K:Type}[DecidableEq K]{knd:KeyKind prog w K}{A:Around}{E:Value→Shared→Prop}{s:Shared}
theorem qXn (h:Heap):(h.push { cls:=.type "dict",data:=.dict #[] }).DictOf knd h.objs.size []:=Heap.DictOf.new h
theorem qYg {l t:Addr}{xs ys:Array Value}{ks:List (K×Value)}{Q:Value→Shared→Prop}(hh:A.handled=none)(hl:s.heap.IsList l xs)(ht:s.heap.IsTuple t ys)(hsz:xs.size=ys.size)(hk:Keyed knd ks (xs.toList.zip ys.toList))(hz:ks.length≤1000)
  (hQ:∀p h' tk,s.heap.objs.size≤p→(∀b o,s.heap.get? b=some o→h'.get? b=some o)→h'.DictOf knd p (merged [] ks)→Q (.ref p) { s with heap:=h',toks:=tk }):
  wpAny (model prog w) A (call (.type "zip") [.ref l,.ref t]) (fun z s1=>wpAny (model prog w) A (call (.type "dict") [z]) Q E s1) E s:=by
 refine qAe hl ht fun h1 z TI TO i1 i2 D S z1 z2 z3 z4 z5 keep1=>?_
 have hT:Shared.TypeIs { s with heap:=h1 } (.ref z) "zip" := by
  rcases S.zip with h | ⟨_,_,h,_⟩ <;> exact⟨_,h,rfl⟩
 have llt:l<s.heap.objs.size:=by obtain⟨o,e,_⟩:=hl;exact Heap.lt_size e
 have tlt:t<s.heap.objs.size:=by obtain⟨o,e,_⟩:=ht;exact Heap.lt_size e
 have zlt:∀x,x=z∨x=TI∨x=TO∨x=i1∨x=i2→x<h1.objs.size:=fun x hx=>by
  rcases hx with rfl | rfl | rfl | rfl | rfl
  ·rcases S.zip with h | ⟨_,_,h,_⟩ <;> exact Heap.lt_size h
  ·exact Heap.lt_size S.its
  ·obtain⟨_,_,h⟩:=S.own;exact Heap.lt_size h
  ·obtain⟨_,h,_⟩:=S.one;exact Heap.lt_size h
  ·obtain⟨_,h,_⟩:=S.two;exact Heap.lt_size h
 refine wI hT (by decide) fun E'=>?_
 have S2:ZipSt (h1.push { cls:=.type "dict",data:=.dict #[] }) z TI TO i1 i2 l t 0:=by
  refine⟨?_,Heap.get?_push_of_some _ S.its,?_,S.one.at fun o e=>Heap.get?_push_of_some _ e,S.two.at fun o e=>Heap.get?_push_of_some _ e⟩
  ·rcases S.zip with h | ⟨T,f,h,⟨o,e⟩,r⟩
   ·exact .inl (Heap.get?_push_of_some _ h)
   ·exact .inr ⟨T,f,Heap.get?_push_of_some _ h,⟨o,Heap.get?_push_of_some _ e⟩,r⟩
  ·obtain⟨a,b,e⟩:=S.own
   exact⟨a,b,Heap.get?_push_of_some _ e⟩
 have dz:∀x,x=z∨x=TI∨x=TO∨x=i1∨x=i2→h1.objs.size≠x:=fun x hx=>Nat.ne_of_gt (zlt x hx)
 have old:s.heap.objs.size≤h1.objs.size:=Nat.le_of_lt (Nat.lt_of_le_of_lt z1 (zlt z (.inl rfl)))
 obtain⟨vs,hzip⟩:∃vs,(h1.push { cls:=.type "dict",data:=.dict #[] }).get? z=some { cls:=.type "zip",dict:=none,data:=.fields vs,slots:=#[] }:=by
  rcases S2.zip with h | ⟨_,_,h,_⟩ <;> exact⟨_,h⟩
 refine qYd hzip hh fun h2 tk2 kp2=>⟨rfl,?_⟩
 have S3:ZipSt h2 z TI TO i1 i2 l t 0:=by
  refine⟨?_,kp2 _ _ S2.its,?_,S2.one.at fun o e=>kp2 _ _ e,S2.two.at fun o e=>kp2 _ _ e⟩
  ·rcases S2.zip with h | ⟨T,f,h,⟨o,e⟩,r⟩
   ·exact .inl (kp2 _ _ h)
   ·exact .inr ⟨T,f,kp2 _ _ h,⟨o,kp2 _ _ e⟩,r⟩
  ·obtain⟨a,b,e⟩:=S2.own
   exact⟨a,b,kp2 _ _ e⟩
 refine qCo S3 ?_
 have hlen:(xs.toList.zip ys.toList).length=xs.size:=by rw[List.length_zip];simp[hsz]
 have ndl:l≠z∧l≠TO∧l≠i1∧l≠i2:=⟨Nat.ne_of_lt (Nat.lt_of_lt_of_le llt z1),Nat.ne_of_lt (Nat.lt_of_lt_of_le llt z3),Nat.ne_of_lt (Nat.lt_of_lt_of_le llt z4),Nat.ne_of_lt (Nat.lt_of_lt_of_le llt z5)⟩
 have ndt:t≠z∧t≠TO∧t≠i1∧t≠i2:=⟨Nat.ne_of_lt (Nat.lt_of_lt_of_le tlt z1),Nat.ne_of_lt (Nat.lt_of_lt_of_le tlt z3),Nat.ne_of_lt (Nat.lt_of_lt_of_le tlt z4),Nat.ne_of_lt (Nat.lt_of_lt_of_le tlt z5)⟩
 have nl5:l≠h1.objs.size:=Nat.ne_of_lt (Nat.lt_of_lt_of_le llt old)
 have nt5:t≠h1.objs.size:=Nat.ne_of_lt (Nat.lt_of_lt_of_le tlt old)
 have P:PairIt prog w A.in1.in1 h1.objs.size z [z,TO,i1,i2] (xs.toList.zip ys.toList) (fun i h=>ZipSt h z TI TO i1 i2 l t i∧h.IsList l xs∧h.IsTuple t ys):=
  {frame:=fun i h h' ⟨S,hl,ht⟩ sb ⟨od,hod⟩=>by
    have k:∀b o,b≠h1.objs.size→h.get? b=some o→h'.get? b=some o:=fun b o hb e=>(sb.2 b hb).trans e
    refine⟨⟨?_,k _ _ (dz TI (.inr (.inl rfl))).symm S.its,?_,S.one.at fun o e=>k _ _ (dz i1 (by simp)).symm e,S.two.at fun o e=>k _ _ (dz i2 (by simp)).symm e⟩,?_,?_⟩
    ·rcases S.zip with h | ⟨T,f,h,⟨o,e⟩,r⟩
     ·exact .inl (k _ _ (dz z (.inl rfl)).symm h)
     ·refine .inr ⟨T,f,k _ _ (dz z (.inl rfl)).symm h,?_,r⟩
      by_cases hTd:T=h1.objs.size
      ·exact⟨od,by rw[hTd];exact hod⟩
      ·exact⟨o,k _ _ hTd e⟩
    ·obtain⟨a,b,e⟩:=S.own
     exact⟨a,b,k _ _ (dz TO (by simp)).symm e⟩
    ·obtain⟨o,ho,r⟩:=hl;exact⟨o,k _ _ nl5 ho,r⟩
    ·obtain⟨o,ho,r⟩:=ht;exact⟨o,k _ _ nt5 ho,r⟩
   item:=fun i s Q E k v e ⟨S,hl,ht⟩ hQ=>by
    obtain⟨e1,e2⟩:=List.getElem?_zip_eq_some.mp e
    refine qCn D S hl ht ndl ndt (x:=k) (y:=v) (by simpa using e1) (by simpa using e2) fun h' T S' hT kp=>?_
    refine hQ T h' s.toks 0 ⟨S',?_,?_⟩ ⟨_,hT,rfl,rfl⟩ fun b o hb e=>kp b o (fun z=>hb (by simp[z])) (fun z=>hb (by simp[z])) (fun z=>hb (by simp[z])) (fun z=>hb (by simp[z])) e
    ·obtain⟨o,ho,r⟩:=hl;exact⟨o,kp _ _ ndl.1 ndl.2.1 ndl.2.2.1 ndl.2.2.2 ho,r⟩
    ·obtain⟨o,ho,r⟩:=ht;exact⟨o,kp _ _ ndt.1 ndt.2.1 ndt.2.2.1 ndt.2.2.2 ho,r⟩
   done:=fun s Q E ⟨S,hl,ht⟩ hQ=>by
    refine qXd (A:=A.in1.in1) hh D S hl ndl (by rw[hlen];simp) fun h' kp=>?_
    exact hQ h' s.toks fun b o hb e=>kp b o (fun z=>hb (by simp[z])) (fun z=>hb (by simp[z])) (fun z=>hb (by simp[z])) (fun z=>hb (by simp[z])) e }
 have kl:∀b o,s.heap.get? b=some o→h2.get? b=some o:=fun b o e=>kp2 _ _ (Heap.get?_push_of_some _ (keep1 _ _ e))
 have hd0:h2.DictOf knd h1.objs.size (merged [] (ks.take 0)):=by
  obtain⟨o,es,ep,ho,r⟩:=qXn (knd:=knd) h1
  exact⟨o,es,ep,kp2 _ _ ho,r⟩
 refine qAn (A:=A.in1) (s₀:={ s with heap:=h2,toks:=tk2 }) P hk (by simp[dz z,dz TO,dz i1,dz i2]) hz (fun h' tk kp hD=>⟨rfl,?fin⟩) ks.length 0 h2 tk2 (by simp) (Nat.zero_le _) ⟨S3,?sl,?st⟩ hd0 (fun _ _ _ _ e=>e)
 case fin=>
  refine hQ _ h' tk old (fun b o e=>kp b o ?_ ?_ (kl b o e)) hD
  ·have bl:=Heap.lt_size e
   intro hb
   simp only[List.mem_cons,List.not_mem_nil,or_false] at hb
   rcases hb with rfl | rfl | rfl | rfl
   ·exact absurd (Nat.lt_of_lt_of_le bl z1) (Nat.lt_irrefl _)
   ·exact absurd (Nat.lt_of_lt_of_le bl z3) (Nat.lt_irrefl _)
   ·exact absurd (Nat.lt_of_lt_of_le bl z4) (Nat.lt_irrefl _)
   ·exact absurd (Nat.lt_of_lt_of_le bl z5) (Nat.lt_irrefl _)
  ·exact Nat.ne_of_lt (Nat.lt_of_lt_of_le (Heap.lt_size e) old)
 case sl=>obtain⟨o,ho,r⟩:=hl;exact⟨o,kl _ _ ho,r⟩
 case st=>obtain⟨o,ho,r⟩:=ht;exact⟨o,kl _ _ ho,r⟩
theorem qZo {l:Addr}{xs:Array Value}{n:Nat}{kvs:List (Value×Value)}{ks:List (K×Value)}{Q:Value→Shared→Prop}(hh:A.handled=none)(hl:s.heap.get? l=some { cls:=.type "list",data:=.seq xs n })
  (hp:∀(i:Nat) p,kvs[i]? = some p→∃T o m,xs[i]? = some (.ref T)∧s.heap.get? T=some o∧o.cls=.type "tuple" ∧ o.data=.seq #[p.1,p.2] m) (hlen:kvs.length=xs.size) (hk:Keyed knd ks kvs) (hz:ks.length≤1000)
  (hQ:∀p h' tk,s.heap.objs.size≤p→(∀b o,s.heap.get? b=some o→h'.get? b=some o)→h'.DictOf knd p (merged [] ks)→Q (.ref p) { s with heap:=h',toks:=tk }):
  wpAny (model prog w) A (call (.type "dict") [.ref l]) Q E s:=by
 refine wI (T := "list") ⟨_,hl,rfl⟩ (by decide) fun E'=>?_
 have kd:∀b o,s.heap.get? b=some o→(s.heap.push { cls:=.type "dict",data:=.dict #[] }).get? b=some o:=fun b o e=>Heap.get?_push_of_some _ e
 refine qZm (kd _ _ hl) hh fun h2 tk2 kp2=>⟨rfl,?_⟩
 have kl:∀b o,s.heap.get? b=some o→h2.get? b=some o:=fun b o e=>kp2 _ _ (kd _ _ e)
 have L2:h2.IsList l xs:=⟨_,kl _ _ hl,rfl,n,rfl⟩
 refine wpAny_pyIter_list (s:={ s with heap:=h2,toks:=tk2 }) L2 ?_
 have k3:∀b o,h2.get? b=some o→(h2.push { cls:=.type "list_iterator",data:=.fields #[.ref l,.int 0 0] }).get? b=some o:=fun b o e=>Heap.get?_push_of_some _ e
 have dlt:s.heap.objs.size<h2.objs.size:=Heap.lt_size (kp2 _ _ (Heap.get?_push_size _ rfl))
 have P:PairIt prog w A.in1.in1 s.heap.objs.size h2.objs.size [h2.objs.size] kvs (fun i h=>h.IsListIter h2.objs.size l i∧∀b o,s.heap.get? b=some o→h.get? b=some o):=
  {frame:=fun i h h' ⟨S,kp⟩ sb _=>⟨S.at fun o e=>(sb.2 _ (Nat.ne_of_gt dlt)).trans e,fun b o e=>(sb.2 b (Nat.ne_of_lt (Heap.lt_size e))).trans (kp b o e)⟩
   item:=fun i s' Q E k v e ⟨S,kp⟩ hQ=>by
    obtain⟨T,o,m,ex,ho,hc,hd⟩:=hp i (k,v) e
    refine wpAny_pyNext_list_item S ⟨_,kp _ _ hl,rfl,n,rfl⟩ ex fun h' S' sb=>?_
    have nb:∀b o,s.heap.get? b=some o→b≠h2.objs.size:=fun b o e=>Nat.ne_of_lt (Nat.lt_trans (Heap.lt_size e) dlt)
    exact hQ T h' s'.toks m ⟨S',fun b o e=>(sb.2 b (nb b o e)).trans (kp b o e)⟩ ⟨o,(sb.2 T (nb T o ho)).trans (kp _ _ ho),hc,hd⟩ fun b o hb e=>(sb.2 b (fun z=>hb (by simp[z]))).trans e
   done:=fun s' Q E ⟨S,kp⟩ hQ=>by
    refine wpAny_pyNext_list_end (A:=A.in1.in1) hh S ⟨_,kp _ _ hl,rfl,n,rfl⟩ (by rw[hlen];simp) fun h' eb=>?_
    exact hQ h' s'.toks fun b o hb e=>eb b o (fun z=>hb (by simp[z])) e }
 have hd0:(h2.push { cls:=.type "list_iterator",data:=.fields #[.ref l,.int 0 0] }).DictOf knd s.heap.objs.size (merged [] (ks.take 0)):=by
  obtain⟨o,es,ep,ho,r⟩:=qXn (knd:=knd) s.heap
  exact⟨o,es,ep,k3 _ _ (kp2 _ _ ho),r⟩
 refine qAn (A:=A.in1) (s₀:={ s with heap:=h2.push { cls:=.type "list_iterator",data:=.fields #[.ref l,.int 0 0] },toks:=tk2 }) P hk (by simp;exact Nat.ne_of_lt dlt) hz (fun h' tk kp hD=>⟨rfl,?_⟩) ks.length 0 _ tk2 (by simp) (Nat.zero_le _) ⟨⟨_,Heap.get?_push_size _ rfl,rfl,rfl⟩,fun b o e=>k3 _ _ (kl _ _ e)⟩ hd0 (fun _ _ _ _ e=>e)
 refine hQ _ h' tk (Nat.le_refl _) (fun b o e=>kp b o ?_ (Nat.ne_of_lt (Heap.lt_size e)) (k3 _ _ (kl b o e))) hD
 simp only[List.mem_singleton]
 exact Nat.ne_of_lt (Nat.lt_trans (Heap.lt_size e) dlt)
end
end PySem

namespace L2
open PySem PySem.Spec PyProof.Rows
theorem qUv:bootBuiltins "zip" = some (.type "zip"):=by decide +kernel
noncomputable def zipK (ns:List Str)(xs:List V):List (Key×V):=(ns.zip xs).map fun p=>(Sum.inr p.1,p.2)
noncomputable def pairK (kvs:List (Str×V)):List (Key×V):=kvs.map fun p=>(Sum.inr p.1,p.2)
theorem qYl {P:Program}{w:World}:∀{ns:List Str} {xs:List V} {us vs:List Value},Vals (ns.map V.str) us→Vals xs vs→ns.length=xs.length→∃ks:List (Key×Value),Keyed (jA P w) ks (us.zip vs)∧KV (zipK ns xs) ks∧ks.length=ns.length
 | [],[],_,_,.nil,.nil,_=>⟨[],.nil,.nil,rfl⟩
 | n::ns,x::xs,_,_,.cons r1 t1,.cons (b:=v) r2 t2,hl=>by
  obtain⟨ks,h1,h2,h3⟩:=qYl (P:=P) (w:=w) t1 t2 (by simpa using hl)
  obtain⟨t,rfl⟩:=r1
  exact⟨(Sum.inr n,v)::ks,.cons ⟨kM P w n t,rfl⟩ h1,.cons ⟨rfl,r2⟩ h2,by simp[h3]⟩
 | [],_::_,_,_,_,_,hl=>by simp at hl
 | _::_,[],_,_,_,_,hl=>by simp at hl
section
variable {X:Cx}{pins:List (Addr×Obj)}{σ:St}{H:Hp}{s:Shared}
theorem Inv.newDict {Q:VK}{p:Addr}{h':Heap}{tk:Nat}{kvs:List (Key×V)}{ks:List (Key×Value)}(I:Inv X pins σ H s)(hp:s.heap.objs.size≤p)(keep:∀b o,s.heap.get? b=some o→h'.get? b=some o)
  (rel:KV kvs ks) (hk:ks.length≤1000) (hD:h'.DictOf (jA X.prog X.w) p (merged [] ks)) (q:Q (.ref p) (upd H p (.dK (mergeK [] kvs)))):EP X pins σ Q (.ref p) { s with heap:=h',toks:=tk }:=by
 refine⟨.ref p,upd H p (.dK (mergeK [] kvs)),I.laid (o:=.dK (mergeK [] kvs)) keep hp ⟨?_,?_,merged [] ks,KV.merge rel .nil,hD⟩,rfl,q⟩
 ·have l1:=wB kvs []
  have l2:=rel.length
  have e:sizeLine=16777216:=by decide
  rw[List.length_nil] at l1
  omega
 ·have:=I.big
  have ne:p≠sysModules:=Nat.ne_of_gt (Nat.lt_of_lt_of_le this hp)
  exact beq_eq_false_iff_ne.mpr ne
noncomputable def qMj (K:PySem.W.Frag)(ta:TA):TE:=fun σ H Q=>ta σ H fun vs H1=>∃l t ns xs,vs=[.ref l,.ref t]∧SqL K H1 l (ns.map V.str)∧SqT K H1 t xs∧ns.length=xs.length∧ns.length≤1000∧
 ∀p,H1 p=none→Q (.ref p) (upd H1 p (.dK (mergeK [] (zipK ns xs))))
theorem qWi {a b:Expr}{ta:TA}{p p2 pos pos2:Pos}(hc:X.calm=true)(hg:Gl X "dict")(hm:X.mg "dict" = none)(hg2:Gl X "zip")(hm2:X.mg "zip" = none)(ha:PA X [a,b] ta)
  (he:starEach [.Call (.Name "zip" p2) [a,b] [] pos2] X.env=[(false,eval (.Call (.Name "zip" p2) [a,b] [] pos2) X.env)]:=by rfl)
  (he2:starEach [a,b] X.env=[(false,eval a X.env),(false,eval b X.env)]:=by rfl) (he3:starEach [b] X.env=[(false,eval b X.env)]:=by rfl):
  PE X (.Call (.Name "dict" p) [.Call (.Name "zip" p2) [a,b] [] pos2] [] pos) (qMj X.K ta):=by
 intro pins s σ H Q I h
 refine Call_ (qZk I hg hm qIe (PyProof.Rows.callWith_type1 ?_ he rfl))
 rw[he]
 refine Calls.spliced_cons (Call_ (qZk I hg2 hm2 qUv (PyProof.Rows.callWith_type1 (thn (ha pos2 pins s σ H _ I h) fun us s1 ⟨vs,H1,I1,r1,q1⟩=>?_) (by rw[he2,he3]) (by rw[he3];rfl))))
 obtain⟨l,t,ns,xs,rfl,hl,ht,hlen,h1000,q⟩:=q1
 obtain⟨u,v,rfl,ru,rv⟩:=vals2 r1
 cases ru;cases rv
 obtain⟨its,r2,p2',_⟩:=I1.list hl
 obtain⟨its2,r3,p3,_⟩:=I1.tuple ht
 obtain⟨ks,k1,k2,k3⟩:=qYl (P:=X.prog) (w:=X.w) r2 r3 hlen
 have e1:=r2.length
 have e2:=r3.length
 rw[List.length_map] at e1
 refine thn (qYg (knd:=jA X.prog X.w) (ks:=ks) (I1.ok.hd hc) p2'.isList (show s1.heap.IsTuple t its2.toArray from p3) (by simp only[List.size_toArray];omega) (by simpa using k1) (by omega) fun p' h' tk hp keep hD=>?_) fun z s2 hz=>Calls.spliced_nil hz
 exact I1.newDict hp keep k2 (by omega) hD (q p' (I1.hok.fresh hp))
noncomputable def PairIn (H:Hp)(kv:Str×V)(u:V):Prop:=∃a,u=.ref a∧H a=some (.tup [.str kv.1,kv.2])
theorem qWl (I:Inv X pins σ H s):∀{kvs:List (Str×V)} {us:List V} {its:List Value},Paired (PairIn H) kvs us→Vals us its→∃(vv:List (Value×Value)) (ks:List (Key×Value)),
  (∀(i:Nat) p,vv[i]? = some p→∃T o m,its[i]? = some (.ref T)∧s.heap.get? T=some o∧o.cls=.type "tuple" ∧ o.data=.seq #[p.1,p.2] m)∧vv.length=its.length∧Keyed (jA X.prog X.w) ks vv∧KV (pairK kvs) ks∧ks.length=kvs.length:=by
 intro kvs us its hp
 induction hp generalizing its with
 | nil=>
  intro hv
  cases hv
  exact⟨[],[],fun i p e=>by simp at e,rfl,.nil,.nil,rfl⟩
 | @cons kv _ _ _ f t ih=>
  intro hv
  cases hv with
  | cons r t2=>
  obtain⟨n,x⟩:=kv
  obtain⟨vv,ks,h1,h2,h3,h4,h5⟩:=ih t2
  obtain⟨a,rfl,ha⟩:=f
  cases r
  obtain⟨z,its,rv,o,ho,hc,m,hd,_⟩:=I.hok a _ ha
  obtain⟨u,v,rfl,ru,rv'⟩:=vals2 rv
  obtain⟨tk,rfl⟩:=ru
  refine⟨(.str n tk,v)::vv,(Sum.inr n,v)::ks,fun i p e=>?_,by simp[h2],.cons ⟨kM _ _ n tk,rfl⟩ h3,.cons ⟨rfl,rv'⟩ h4,by simp[h5]⟩
  cases i with
  | zero=>
   simp at e
   subst e
   exact⟨a,o,m,rfl,ho,hc,hd⟩
  | succ i=>exact h1 i p (by simpa using e)
theorem qVm (hc:X.calm=true):CallR X (.type "dict") (fun vs H Q=>∃l us kvs,vs=[.ref l]∧H l=some (.lst us)∧Paired (PairIn H) kvs us∧kvs.length≤1000∧∀p,H p=none→Q (.ref p) (upd H p (.dK (mergeK [] (pairK kvs))))):=by
 intro pins s σ H vs us Q I r h
 obtain⟨l,xs,kvs,rfl,hl,hp,h1000,q⟩:=h
 obtain⟨u,rfl,ru⟩:=vals1 r
 cases ru
 obtain⟨z,its,n,rv,hlen,e⟩:=I.lstM hl
 obtain⟨vv,ks,k1,k2,k3,k4,k5⟩:=qWl I hp rv
 refine qZo (knd:=jA X.prog X.w) (ks:=ks) (kvs:=vv) (I.ok.hd hc) e (fun i p ep=>?_) (by simp[k2]) k3 (by omega) fun p h' tk hp' keep hD=>I.newDict hp' keep k4 (by omega) hD (q p (I.hok.fresh hp'))
 obtain⟨T,o,m,a1,a2⟩:=k1 i p ep
 exact⟨T,o,m,by simpa using a1,a2⟩
end
end L2

namespace FP
open PySem L2

inductive Th where
 | num (n:Int) | box (x:Str) | nul (k:Str) | un (k:Str) (a:Th) | bin (k:Str) (a b:Th)
namespace Th
noncomputable def Op (k:Str):Prop:=k ≠ "box" ∧ k ≠ "number"
noncomputable def Ok:Th→Prop
 | num _=>True
 | box _=>True
 | nul k=>Op k
 | un k a=>Op k∧a.Ok
 | bin k a b=>Op k∧a.Ok∧b.Ok
noncomputable def dep:Th→Nat
 | num _=>1
 | box _=>1
 | nul _=>1
 | un _ a=>a.dep+1
 | bin _ a b=>max a.dep b.dep+1
noncomputable def cnt:Th→Nat
 | num _=>1
 | box _=>1
 | nul _=>1
 | un _ a=>a.cnt+1
 | bin _ a b=>a.cnt+b.cnt+1
noncomputable def names:Th→List Str
 | num _=>[]
 | box x=>[x]
 | nul _=>[]
 | un _ a=>a.names
 | bin _ a b=>a.names++b.names
theorem cnt_pos:∀t:Th,1≤t.cnt
 | num _=>Nat.le_refl _
 | box _=>Nat.le_refl _
 | nul _=>Nat.le_refl _
 | un _ a=>by show 1≤a.cnt+1;omega
 | bin _ a b=>by show 1≤a.cnt+b.cnt+1;omega
theorem names_le:∀t:Th,t.names.length≤t.cnt
 | num _=>Nat.zero_le _
 | box _=>Nat.le_refl _
 | nul _=>Nat.zero_le _
 | un _ a=>by have:=names_le a;show a.names.length≤a.cnt+1;omega
 | bin _ a b=>by
  have:=names_le a
  have:=names_le b
  show(a.names++b.names).length≤a.cnt+b.cnt+1
  rw[List.length_append];omega
theorem qCz:∀t:Th,t.cnt+1≤2 ^ t.dep
 | num _=>by show 1+1≤2 ^ 1;decide
 | box _=>by show 1+1≤2 ^ 1;decide
 | nul _=>by show 1+1≤2 ^ 1;decide
 | un _ a=>by
  have:=qCz a
  have:=cnt_pos a
  show a.cnt+1+1≤2 ^ (a.dep+1)
  rw[Nat.pow_succ];omega
 | bin _ a b=>by
  have ha:=qCz a
  have hb:=qCz b
  show a.cnt+b.cnt+1+1≤2 ^ (max a.dep b.dep+1)
  have h1:2 ^ a.dep≤2 ^ (max a.dep b.dep):=Nat.pow_le_pow_right (by decide) (Nat.le_max_left _ _)
  have h2:2 ^ b.dep≤2 ^ (max a.dep b.dep):=Nat.pow_le_pow_right (by decide) (Nat.le_max_right _ _)
  rw[Nat.pow_succ];omega
theorem cnt_small {t:Th}(h:t.dep≤12):t.cnt≤4096:=by
 have h1:=qCz t
 have h2:2 ^ t.dep≤2 ^ 12:=Nat.pow_le_pow_right (by decide) h
 have e:2 ^ 12=4096:=by decide
 omega
theorem dep_pos:∀t:Th,1≤t.dep
 | num _=>Nat.le_refl _
 | box _=>Nat.le_refl _
 | nul _=>Nat.le_refl _
 | un _ a=>by show 1≤a.dep+1;omega
 | bin _ a b=>by show 1≤max a.dep b.dep+1;omega
noncomputable def At (H:Hp):Th→V→Prop
 | num n,v=>∃a,v=.ref a∧H a=some (.tup [.str "number",.int n])
 | box x,v=>∃a,v=.ref a∧H a=some (.tup [.str "box",.str x])
 | nul k,v=>∃a,v=.ref a∧H a=some (.tup [.str k])
 | un k t,v=>∃a u,v=.ref a∧H a=some (.tup [.str k,u])∧t.At H u
 | bin k t r,v=>∃a u w,v=.ref a∧H a=some (.tup [.str k,u,w])∧t.At H u∧r.At H w
noncomputable def _root_.FP.Tups (H H':Hp):Prop:=∀b xs,H b=some (.tup xs)→H' b=some (.tup xs)
theorem At.mono {H H':Hp}(h:Tups H H'):∀{t:Th} {v:V},t.At H v→t.At H' v
 | num _,_,⟨a,e,q⟩=>⟨a,e,h _ _ q⟩
 | box _,_,⟨a,e,q⟩=>⟨a,e,h _ _ q⟩
 | nul _,_,⟨a,e,q⟩=>⟨a,e,h _ _ q⟩
 | un _ t,_,⟨a,u,e,q,r⟩=>⟨a,u,e,h _ _ q,At.mono h r⟩
 | bin _ t r,_,⟨a,u,w,e,q,r1,r2⟩=>⟨a,u,w,e,h _ _ q,At.mono h r1,At.mono h r2⟩
end Th
theorem qC {H H':Hp}(s:Same H H'):Tups H H':=fun b xs h=>s b _ h
theorem yO {d:Addr}{H H':Hp}{xs:List V}(s:But d H H')(h:H d=some (.lst xs)):Tups H H':=fun b ys q=>s b _ (kI q h (by intro z;cases z)) q
theorem Tups.trans {H H1 H2:Hp}(a:Tups H H1)(b:Tups H1 H2):Tups H H2:=fun c xs h=>b c xs (a c xs h)

inductive View (H:Hp)(t:Th)(v:V):Prop
 | box (a:Addr) (x:Str):t=.box x→v=.ref a→H a=some (.tup [.str "box",.str x])→View H t v
 | num (a:Addr) (n:Int):t=.num n→v=.ref a→H a=some (.tup [.str "number",.int n])→View H t v
 | op (a:Addr) (k:Str) (us:List V) (ts:List Th):v=.ref a→H a=some (.tup (.str k::us))→Th.Op k→us.length=ts.length→us.length≤2→
   (∀(i:Nat) u r,us[i]? = some u→ts[i]? = some r→r.At H u∧r.Ok∧r.dep+1≤t.dep)→t.names=ts.flatMap Th.names→(ts.map Th.cnt).sum+1=t.cnt→View H t v
theorem view {H:Hp}:∀{t:Th} {v:V},t.At H v→t.Ok→View H t v
 | .num n,_,⟨a,e,q⟩,_=>.num a n rfl e q
 | .box x,_,⟨a,e,q⟩,_=>.box a x rfl e q
 | .nul k,_,⟨a,e,q⟩,ok=>.op a k [] [] e q ok rfl (by decide) (fun i u r h=>by simp at h) rfl rfl
 | .un k t,_,⟨a,u,e,q,r⟩,ok=>by
  refine .op a k [u] [t] e q ok.1 rfl (by show 1≤2;decide) (fun i u' r' h1 h2=>?_) (by simp[Th.names]) (by simp[Th.cnt])
  match i,h1,h2 with
  | 0,h1,h2=>
   cases h1;cases h2
   exact⟨r,ok.2,Nat.le_refl _⟩
  | i+1,h1,_=>simp at h1
 | .bin k t s,_,⟨a,u,w,e,q,r1,r2⟩,ok=>by
  refine .op a k [u,w] [t,s] e q ok.1 rfl (by show 2≤2;decide) (fun i u' r' h1 h2=>?_) (by simp[Th.names]) (by simp[Th.cnt])
  match i,h1,h2 with
  | 0,h1,h2=>
   cases h1;cases h2
   exact⟨r1,ok.2.1,by show t.dep+1≤max t.dep s.dep+1;omega⟩
  | 1,h1,h2=>
   cases h1;cases h2
   exact⟨r2,ok.2.2,by show s.dep+1≤max t.dep s.dep+1;omega⟩
  | i+2,h1,_=>simp at h1
theorem qKq {ts:List Th}{i:Nat}{t:Th}(h:ts[i]? = some t):(ts.take (i+1)).flatMap Th.names=(ts.take i).flatMap Th.names++t.names:=by
 rw[List.take_add_one,h,List.flatMap_append]
 simp
theorem qMz {ts:List Th}(i:Nat):((ts.take i).flatMap Th.names).length≤(ts.flatMap Th.names).length:=by
 have e:ts.flatMap Th.names=(ts.take i).flatMap Th.names++(ts.drop i).flatMap Th.names:=by rw[← List.flatMap_append,List.take_append_drop]
 rw[e,List.length_append];omega
theorem cut1 (k:V)(us:List V):cutV (k::us) (some 1) none=us:=by
 unfold cutV
 have e1:HT.sIx (k::us).length 0 (some (1:Int))=1:=by
  have:=HT.sIx_nat (k::us).length 0 1
  rw[List.length_cons] at this ⊢
  have e:min 1 (us.length+1)=1:=by omega
  rw[e] at this
  exact this
 rw[e1,HT.sIx_none,List.drop_one,List.tail_cons,List.length_cons,Nat.add_sub_cancel,List.take_length]
theorem notwhole (k:V)(us:List V):¬(HT.sIx (k::us).length 0 (some 1)=0∧HT.sIx (k::us).length (k::us).length none=(k::us).length):=by
 intro z
 have:=HT.sIx_nat (k::us).length 0 1
 rw[List.length_cons] at this
 have e:min 1 (us.length+1)=1:=by omega
 rw[e] at this
 have z1:=z.1
 rw[List.length_cons] at z1
 exact absurd (this.symm.trans z1) (by decide)
theorem small {n:Nat}(h:n≤10000):n<sizeLine:=Nat.lt_of_le_of_lt h (by decide)
theorem smallE {n:Nat}(h:n≤10000):n≤sizeLine:=Nat.le_of_lt (small h)
theorem qPn:("number" : Str) ≠ "box" := by decide +kernel
theorem xW {a b:Str}(h:a≠b):decide (V.str a=V.str b)=false:=decide_eq_false (by intro z;cases z;exact h rfl)
theorem jZ (a:Str):decide (V.str a=V.str a)=true:=decide_eq_true rfl

noncomputable abbrev strsV (ws:List Str):List V:=ws.map V.str
theorem xA (ws:List Str):(strsV ws).length=ws.length:=List.length_map _

theorem zS (a b:List Str):strsV (a++b)=strsV a++strsV b:=List.map_append
theorem qCh (a:List Str)(x:Str):strsV (a++[x])=strsV a++[.str x]:=List.map_append
noncomputable abbrev intsV (ns:List Int):List V:=ns.map V.int
theorem wS (a:List Int)(x:Int):intsV (a++[x])=intsV a++[.int x]:=List.map_append
theorem yY (ws:List Int):(intsV ws).length=ws.length:=List.length_map _

end FP

namespace L2
open PySem PySem.Spec PyProof.Rows

section
variable {X:Cx}{K:PySem.W.Frag}
theorem qU (hK:X.K=K:=by rfl):IxR X (rIxL K):=by subst hK;exact qHj
theorem qT (hK:X.K=K:=by rfl):IxR X (rIxT K):=by subst hK;exact qHz
theorem zJ (hK:X.K=K:=by rfl):SlR X (rSlL K):=by subst hK;exact qOh
theorem qWb (hK:X.K=K:=by rfl):SlR X (rSlT K):=by subst hK;exact qSd
noncomputable def rLen (K:PySem.W.Frag):List V→Hp→VK→Prop:=fun xs H Q=>∃p ys,xs=[.ref p]∧(SqL K H p ys∨SqT K H p ys)∧Q (.int ys.length) H
theorem xR (hK:X.K=K:=by rfl):CallR X (.builtin "len") (rLen K):=by subst hK;exact qQc
noncomputable def qWf (K:PySem.W.Frag):List V→Hp→VK→Prop:=fun xs H Q=>∃p ys,xs=[.ref p]∧(SqL K H p ys∨SqT K H p ys)∧∀l,H l=none→Q (.ref l) (upd H l (.lst ys))
theorem yH (hK:X.K=K:=by rfl):CallR X (.type "list") (qWf K):=by subst hK;exact qVi
noncomputable def rIsIn (K:PySem.W.Frag):List V→Hp→VK→Prop:=fun xs H Q=>∃x T t b,xs=[x,.ty T]∧TyOf K H x t∧PySem.W.kitOne K t (.type T)=some b∧Q (.bl b) H
theorem qQd (hK:X.K=K:=by rfl):CallR X (.builtin "isinstance") (rIsIn K):=by subst hK;exact qAf
theorem qNo (hK:X.K=K:=by rfl):OpR X (compareOp .In) (rIn K false):=by subst hK;exact qGx
theorem qKl (hK:X.K=K:=by rfl):OpR X (compareOp .NotIn) (rIn K true):=by subst hK;exact qKi
noncomputable def rNeE (K:PySem.W.Frag):R2:=fun x y H Q=>∃a b xs,x=.ref a∧y=.ref b∧SqL K H a xs∧SqL K H b []∧Q (.bl (!xs.isEmpty)) H
theorem qXh (hu:X.A.units+64<cLine)(hK:X.K=K:=by rfl):OpR X (compareOp .NotEq) (rNeE K):=by subst hK;exact qTk hu
noncomputable def rEqE (K:PySem.W.Frag):R2:=fun x y H Q=>∃a b xs,x=.ref a∧y=.ref b∧SqL K H a xs∧SqL K H b []∧Q (.bl xs.isEmpty) H
theorem qXl (hu:X.A.units+64<cLine)(hK:X.K=K:=by rfl):OpR X (compareOp .Eq) (rEqE K):=by
 subst hK
 intro pins s σ H x y v u Q I rx ry h
 obtain⟨a,b,xs,rfl,rfl,ha,hb,q⟩:=h
 cases xs with
 | nil=>exact qTw hu pins s σ H _ _ v u Q I rx ry ⟨0,a,b,[],[],by omega,rfl,rfl,ha,hb,rfl,fun j x y e=>by simp at e,q⟩
 | cons z zs=>
  cases rx;cases ry
  obtain⟨its,r1,p1,_⟩:=I.list ha
  obtain⟨its2,r2,p2,_⟩:=I.list hb
  have l1:=r1.length
  have l2:=r2.length
  refine SeqAt.RcAt.lists_lengths p1.isList p2.isList ?_ (by omega) _ _ _ _ ⟨.bl false,H,I,rfl,q⟩
  simp only[List.length_cons,List.length_nil] at l1 l2
  rw[bne_iff_ne,List.size_toArray,List.size_toArray]
  omega
variable {tg l o e:Expr}{es:List Expr}{tl to:TE}{t:TA}{name:Str}{pos apos cpos:Pos}{T id:String}{r:V→List V→Hp→VK→Prop}
theorem xQ (hl:PE X l tl)(hK:X.K=K:=by rfl):PI X tg l (iList K tl):=by subst hK;exact qFf hl
theorem qPk (hl:PE X l tl)(hK:X.K=K:=by rfl):PI X tg l (iTup K tl):=by subst hK;exact qSi hl
theorem jV {es:List Expr}{k:Nat}{t:TGs}{n:Nat}(hc:X.calm=true)(h:PGs X es t)
  (hn:(assignEach es X.env).length=n:=by rfl) (hst:(assignEach es X.env).findIdx? (·.1)=none:=by rfl) (hK:X.K=K:=by rfl):PG X (.Tuple es k pos) (gTup K n t):=by subst hK;exact qNn hc h hn hst
theorem qPb (pa:PlainAttrs T)(slot:Slot T name id)(hty:typeOf (.builtin id)=pure (.type "method_descriptor"))(hm:MtR X id r)(ho:PE X o to)
  (hbase:attributeBase o name X.env (eval o X.env)=eval o X.env:=by rfl) (hline:(apos.endLine == cpos.line)=true:=by rfl) (hK:X.K=K:=by rfl):PE X (.Call (.Attribute o name apos) [] [] cpos) (tBM0 K T r to):=by
 subst hK;exact qSo pa slot hty hm ho hbase hline
theorem kJ (pa:PlainAttrs T)(slot:Slot T name id)(hty:typeOf (.builtin id)=pure (.type "method_descriptor"))(hm:MtR X id r)(ho:PE X o to)(ha:PA X (e::es) t)
  (hbase:attributeBase o name X.env (eval o X.env)=eval o X.env:=by rfl)
  (hfew:((backTo cpos (starEach (e::es) X.env)).all (fun x=>!x.1) && (backToKw cpos (keywordEach [] X.env)).all (fun x=>x.1.isSome)
   && decide ((e::es).length+([]:List Keyword).length+(if ([]:List Keyword).isEmpty then 0 else 1)<30))=true:=by rfl)
  (hline:(apos.endLine == cpos.line)=true:=by rfl) (hs:starEach (e::es) X.env=(false,eval e X.env)::starEach es X.env:=by rfl) (hplain:(backTo cpos (starEach es X.env)).any (·.1)=false:=by rfl) (hK:X.K=K:=by rfl):
  PE X (.Call (.Attribute o name apos) (e::es) [] cpos) (tBM K T r to t):=by
 subst hK;exact xQx pa slot hty hm ho ha hbase hfew hline hs hplain
end

structure Dn (P:Program)(w:World)(K:PySem.W.Frag)(mg:Str→Option Value)(base:Heap)(x:Str)(k:Nat)(ps:List Str)(sp:Sp):Prop where
 ex:∃f fd,FnOk P w K mg base CX0 k f fd ps sp∧mg x=some (.ref f)∧PySem.W.keepIn K (.ref f)=true∧Binds K fd ps []
section
variable {P:Program}{w:World}{K:PySem.W.Frag}{mg:Str→Option Value}{base:Heap}{x:Str}{j k:Nat}{ps:List Str}{sp sp':Sp}
end
section
variable {X:Cx}{P:Program}{w:World}{K:PySem.W.Frag}{mg:Str→Option Value}{base:Heap}{j k:Nat}{ps:List Str}{sp:Sp}{x:Str}{p pos:Pos}{e:Expr}{es:List Expr}{t:TA}
theorem qD (D:Dn P w K mg base x j ps sp)(hr:Room k X.A)(ha:PA X (e::es) t)(hjk:j≤k:=by first | decide | omega)(hg:Gl X x:=by rfl)
  (h1:X.prog=P:=by rfl) (h2:X.w=w:=by rfl) (h3:X.K=K:=by rfl) (h4:X.mg=mg:=by rfl) (h5:X.base=base:=by rfl)
  (hdb:(x == ("__debug__" : Str))=false:=by decide) (he:starEach (e::es) X.env=(false,eval e X.env)::starEach es X.env:=by rfl) (hpl:(backTo pos (starEach es X.env)).any (·.1)=false:=by rfl):
  PE X (.Call (.Name x p) (e::es) [] pos) (tCall sp [] E0 t):=by
 subst h1 h2 h3 h4 h5
 obtain⟨f,fd,F,a,b,c⟩:=D.ex
 exact zI (F.mono hjk) hr hg a b c .nil pass0 ha hdb he hpl
end

noncomputable def kidsE:Expr→List Expr
 | .BoolOp _ vs _=>vs
 | .BinOp l _ r _=>[l,r]
 | .UnaryOp _ a _=>[a]
 | .IfExp a b c _=>[a,b,c]
 | .ListComp e gs _ _=>e::gs.flatMap fun g=>g.iter::g.ifs
 | .Compare l _ cs _=>l::cs
 | .Call f as _ _=>f::as
 | .Attribute v _ _=>[v]
 | .Subscript a b _=>[a,b]
 | .List es _=>es
 | .Tuple es _ _=>es
 | .Slice a b c _=>a.toList++b.toList++c.toList
 | _=>[]
noncomputable def downE (e:Expr):List Nat→Expr
 | []=>e
 | i::p=>downE ((kidsE e).getD i (.Constant .none 0 ⟨0,0,0,0⟩)) p
noncomputable def exprS:Stmt→Expr
 | .Assign _ v _=>v
 | .Return (some v) _=>v
 | .Expr v _=>v
 | .If t _ _ _=>t
 | .While t _ _ _=>t
 | .For _ it _ _ _=>it
 | _=>.Constant .none 0 ⟨0,0,0,0⟩
noncomputable def blockS:Stmt→List Stmt
 | .If _ a b _=>a++b
 | .For _ _ b _ _=>b
 | .While _ b _ _=>b
 | _=>[]
noncomputable def stmtAt (body:List Stmt):List Nat→Stmt
 | []=>.Pass ⟨0,0,0,0⟩
 | [i]=>body.getD i (.Pass ⟨0,0,0,0⟩)
 | i::j::p=>stmtAt (blockS (body.getD i (.Pass ⟨0,0,0,0⟩))) (j::p)
noncomputable abbrev scAt (body:List Stmt)(p q:List Nat):Scope:=qWc (downE (exprS (stmtAt body p)) q)
noncomputable def relS (scope sc:Scope):Scope:=
 { scope with names:=scope.names.map fun(n,k)=>if (k == .free && sc.kind == .function && sc.names.lookup n == some .cell) then (n,.cell) else (n,k) }

noncomputable def tCut (t u:TS):TS:=fun D σ H=>∃Pv:St→Hp→Prop,t { D with nx:=Pv } σ H∧∀σ' H',Pv σ' H'→u D σ' H'
theorem qK {X:Cx}{st:Stmt}{rest:List Stmt}{t u:TS}(h1:PS X st t)(h2:PSs X rest u):PSs X (st::rest) (tCut t u):=by
 intro pins s σ H D I h
 obtain⟨Pv,q1,q2⟩:=h
 refine wpAny_execs_cons (thn (h1 pins s σ H { D with nx:=Pv } I q1) fun f s1 q=>?_)
 cases f with
 | next=>
  obtain⟨σ',H',I',q⟩:=q
  exact h2 pins s1 σ' H' D I' (q2 σ' H' q)
 | ret v=>exact q
 | brk=>exact q
 | cont=>exact q

section
variable {σ:St}{H:Hp}{Q:VK}{R:Bool→Hp→Prop}{S:St→Hp→Prop}{L:List V→Hp→Prop}{O:Option Int→Hp→Prop}{D:Ends}{ta tb tc:TE}{t u:TT}{a b:TS}{x y v:V}{i j:Int}{c:Bool}{K:PySem.W.Frag}
theorem w_var {k:Nat}(h:σ[k]? = some (some v))(q:Q v H):tVar k σ H Q:=⟨v,h,q⟩
theorem w_c (q:Q v H):tC v σ H Q:=q
theorem w_op {r:R2}(q:ta σ H fun x H1=>tb σ H1 fun y H2=>r x y H2 Q):tOp r ta tb σ H Q:=q
theorem w_un {r:V→Hp→VK→Prop}(q:ta σ H fun x H1=>r x H1 Q):tUn r ta σ H Q:=q
theorem w_I0 {g:Int→Int→V}(q:Q (g i j) H):rI0 g (.int i) (.int j) H Q:=⟨i,j,rfl,rfl,q⟩
theorem w_I {C:Int→Int→Prop}{g:Int→Int→V}(h:C i j)(q:Q (g i j) H):rI C g (.int i) (.int j) H Q:=⟨i,j,rfl,rfl,h,q⟩
theorem w_U {g:Int→V}(q:Q (g i) H):rU g (.int i) H Q:=⟨i,rfl,q⟩
theorem w_eq (h:scal x y=true)(q:Q (.bl (decide (x=y))) H):rEq x y H Q:=⟨h,q⟩
theorem qUi {p:Addr}{xs:List V}(h:SqL K H p xs)(e:atI xs i=some v)(q:Q v H):rIxL K (.ref p) (.int i) H Q:=⟨p,xs,i,v,rfl,rfl,h,e,q⟩
theorem qUh {p:Addr}{xs:List V}(h:SqT K H p xs)(e:atI xs i=some v)(q:Q v H):rIxT K (.ref p) (.int i) H Q:=⟨p,xs,i,v,rfl,rfl,h,e,q⟩
theorem qRl (q:ta σ H fun x H'=>∃k,x=.bl k∧R k H'):tTest ta σ H R:=q
theorem w_B (q:ta σ H fun x H'=>∃k,x=.bl k∧R k H'):tB ta σ H R:=q
theorem w_bl {F:Bool→Prop}(q:F c):∃k,V.bl c=.bl k∧F k:=⟨c,rfl,q⟩
theorem w_not (q:t σ H fun c H1=>R (!c) H1):tNot t σ H R:=q
theorem w_and (q:t σ H fun c H1=>if c=true then u σ H1 R else R false H1):tAnd t u σ H R:=q
theorem w_or (q:t σ H fun c H1=>if c=true then R true H1 else u σ H1 R):tOr t u σ H R:=q
theorem qSa (q:ta σ H fun x H1=>∃c,x=.bl c∧if c=true then tb σ H1 Q else Q (.bl false) H1):tAndV ta tb σ H Q:=q
theorem qSq (q:ta σ H fun x H1=>∃c,x=.bl c∧Q (.bl (!c)) H1):tNotV ta σ H Q:=q
theorem w_if (q:t σ H fun c H1=>if c=true then ta σ H1 Q else tb σ H1 Q):tIf t ta tb σ H Q:=q
theorem qAi (q:D.nx σ H):tNext D σ H:=q
theorem qEb (q:a { D with nx:=b D } σ H):tSeq a b D σ H:=q
theorem qSj (q:ta σ H fun _ H1=>D.nx σ H1):tDrop ta D σ H:=q
theorem qUe (q:ta σ H D.rt):tRet ta D σ H:=q
theorem qUl (q:t σ H fun c H1=>if c=true then a D σ H1 else b D σ H1):tIfS t a b D σ H:=q
theorem qUo {g:TG}(q:ta σ H fun x H1=>g x σ H1 D.nx):tAsg ta g D σ H:=q
theorem qYm {k:Nat}(q:S (σ.set k (some v)) H):gName k v σ H S:=q
theorem qSz (q:S σ H):gNil [] σ H S:=⟨rfl,q⟩
theorem qOd {g:TG}{gs:TGs}{vs:List V}(q:g v σ H fun σ' H'=>gs vs σ' H' S):gCons g gs (v::vs) σ H S:=⟨v,vs,rfl,q⟩
theorem qSx {n:Nat}{gs:TGs}{p:Addr}{xs:List V}(h:SqT K H p xs)(e:xs.length=n)(q:gs xs σ H S):gTup K n gs (.ref p) σ H S:=⟨p,xs,rfl,h,e,q⟩
theorem qUf (q:L [] H):tNil σ H L:=q
theorem qSk {ts:TA}(q:ta σ H fun x H1=>ts σ H1 fun xs H2=>L (x::xs) H2):tCons ta ts σ H L:=q
theorem qUd {ts:TA}(q:ts σ H fun xs H1=>xs.length≤sizeLine∧∀p,H1 p=none→Q (.ref p) (upd H1 p (.tup xs))):tTup ts σ H Q:=q
theorem qUg {ts:TA}(q:ts σ H fun xs H1=>xs.length≤sizeLine∧∀p,H1 p=none→Q (.ref p) (upd H1 p (.lst xs))):tLst ts σ H Q:=q
theorem qSw {sp:Sp}{dvs:List V}{E:XK}{ts:TA}(q:ts σ H fun vs H1=>sp (vs++dvs) H1 Q E):tCall sp dvs E ts σ H Q:=q
theorem w_cb {r:List V→Hp→VK→Prop}{ts:TA}(q:ts σ H fun vs H1=>r vs H1 Q):tCB r ts σ H Q:=q
theorem w_bm {T:String}{r:V→List V→Hp→VK→Prop}{ts:TA}(q:ta σ H fun x H1=>tyV K T x H1∧ts σ H1 fun xs H2=>r x xs H2 Q):tBM K T r ta ts σ H Q:=q
theorem qIn (q:O none H):qEi σ H O:=q
theorem qRo (q:ta σ H fun x H1=>∃i,x=.int i∧O (some i) H1):tPart ta σ H O:=q
theorem qUn {F:Int→Prop}(q:F i):∃k,V.int i=.int k∧F k:=⟨i,rfl,q⟩
theorem w_sl {r:V→Option Int→Option Int→Hp→VK→Prop}{tl th:TO}(q:ta σ H fun x H1=>tl σ H1 fun l H2=>th σ H2 fun u H3=>r x l u H3 Q):tSl r ta tl th σ H Q:=q
theorem w_len {p:Addr}{xs:List V}(h:SqL K H p xs∨SqT K H p xs)(q:Q (.int xs.length) H):rLen K [.ref p] H Q:=⟨p,xs,rfl,h,q⟩
theorem qOc {W:It→Hp→Prop}(q:ta σ H fun x H1=>∃a,x=.ref a∧(∃xs,SqL K H1 a xs)∧W (Itl K a) H1):iList K ta σ H W:=q
theorem qRn {W:It→Hp→Prop}{ts:TA}(q:ts σ H fun vs H1=>∃j:Int,vs=[.int j]∧-(2 ^ 62)≤j∧j<2 ^ 62∧W (Itr 0 j.toNat) H1):iRng1 ts σ H W:=q
theorem qOe {p:Addr}{xs:List V}{F:Addr→Prop}(h:SqL K H p xs)(q:F p):∃a,V.ref p=.ref a∧(∃xs,SqL K H a xs)∧F a:=⟨p,rfl,⟨xs,h⟩,q⟩
theorem zF {A B:Prop}(h:c=true)(q:A):if c=true then A else B:=by rw[if_pos h];exact q
theorem zY {A B:Prop}(h:c=false)(q:B):if c=true then A else B:=by rw[h];exact iteF q
noncomputable def forK (g:TG)(tb:TS)(D:Ends)(σ:St):It→Hp→Prop:=fun J H1=>∃W:Nat→Nat→St→Hp→Prop,(∃m,W 0 m σ H1)∧∀i m σ H,W i m σ H→
 (J.stop i H∧D.nx σ H)∨(J.go i H∧∃N:St→Hp→Prop,(∀σ' H',N σ' H'→∃m',m'<m∧W (i+1) m' σ' H')∧∀x H',J.yld i H x H'→g x σ H' fun σ2 H2=>tb { D with nx:=N,ct:=N,bk:=D.nx } σ2 H2)
theorem qUm {wi:TI}{g:TG}(q:wi σ H (forK g a D σ)):tFor wi g a D σ H:=q
theorem qSv {k:Nat}{js:List Nat}{wi:TI}{g:TG}(q:wi σ H fun J H1=>rdC k js g t ta J σ H1 Q):tComp k js wi g t ta σ H Q:=q
theorem iteNT {A B:Prop}(q:B):if (!true)=true then A else B:=iteF q
theorem qTf {T:String}:PySem.W.kitOne K (.type T) (.type T)=some true:=by simp[PySem.W.kitOne]
end
theorem Same.tup {K:PySem.W.Frag}{H H':Hp}{a:Addr}{xs:List V}(e:Same H H')(h:SqT K H a xs):SqT K H' a xs:=by
 rcases h with(h | ⟨o,h⟩) | h
 ·exact .inl (.inl (e _ _ h))
 ·exact .inl (.inr ⟨o,e _ _ h⟩)
 ·exact .inr h

noncomputable def eqAll (xs ys:List V):Bool:=xs.length == ys.length && (List.range xs.length).all fun j=>eqV (xs.getD j .non) (ys.getD j .non)
noncomputable def rEqF (K:PySem.W.Frag)(neg:Bool):R2:=fun x y H Q=>∃a b xs ys,x=.ref a∧y=.ref b∧SqL K H a xs∧SqL K H b ys∧xs.all flatV=true∧ys.all flatV=true∧xs.length=ys.length∧Q (.bl (if neg then !eqAll xs ys else eqAll xs ys)) H
section
variable {X:Cx}{K:PySem.W.Frag}
theorem qPe (hu:X.A.units+64<cLine)(hK:X.K=K:=by rfl):OpR X (compareOp .Eq) (rEqF K false):=by
 subst hK
 intro pins s σ H x y v u Q I rx ry h
 obtain⟨a,b,xs,ys,rfl,rfl,ha,hb,fx,fy,hl,q⟩:=h
 cases rx;cases ry
 obtain⟨its,r1,p1,_⟩:=I.list ha
 obtain⟨its2,r2,p2,_⟩:=I.list hb
 have l1:=r1.length
 have l2:=r2.length
 have sz:its.toArray.size=its2.toArray.size:=by rw[List.size_toArray,List.size_toArray,← l1,← l2,hl]
 refine SeqAt.RcAt.lists (e:=fun j=>eqV (xs.getD j .non) (ys.getD j .non)) p1.isList p2.isList sz (by omega) (fun j h1 h2=>?_) _ _ _ _ ?_
 ·have h1':j<xs.length:=by rw[l1];simpa using h1
  have h2':j<ys.length:=by rw[← hl];exact h1'
  obtain⟨u1,e1,q1⟩:=r1.get (List.getElem?_eq_getElem h1')
  obtain⟨u2,e2,q2⟩:=r2.get (List.getElem?_eq_getElem h2')
  have g1:its.toArray[j]=u1:=by
   have:its[j]? = some its.toArray[j]:=by simp
   exact Option.some.inj (this.symm.trans e1)
  have g2:its2.toArray[j]=u2:=by
   have:its2[j]? = some its2.toArray[j]:=by simp
   exact Option.some.inj (this.symm.trans e2)
  have d1:xs.getD j .non=xs[j]:=by rw[List.getD_eq_getElem?_getD,List.getElem?_eq_getElem h1'];rfl
  have d2:ys.getD j .non=ys[j]:=by rw[List.getD_eq_getElem?_getD,List.getElem?_eq_getElem h2'];rfl
  rw[g1,g2]
  show SeqAt.EqAt _ _ _ _ (eqV (xs.getD j .non) (ys.getD j .non))
  rw[d1,d2]
  exact qOk q1 q2 (List.all_eq_true.mp fx _ (List.getElem_mem h1')) (List.all_eq_true.mp fy _ (List.getElem_mem h2'))
 ·have e:eqAll xs ys=(List.range its.toArray.size).all fun j=>eqV (xs.getD j .non) (ys.getD j .non):=by
   unfold eqAll
   rw[hl,beq_self_eq_true,Bool.true_and,List.size_toArray,← l1,hl]
  rw[← e]
  exact⟨.bl _,H,I,rfl,q⟩
end

structure Fd (K:PySem.W.Frag)(mg:Str→Option Value)(x:Str)(st:Stmt)(ps:List Str):Prop where
 ex:∃f fd,Fun K x x st f fd∧mg x=some (.ref f)∧PySem.W.keepIn K (.ref f)=true∧Binds K fd ps []
section
variable {P:Program}{w:World}{K:PySem.W.Frag}{mg:Str→Option Value}{base:Heap}{x:Str}{st:Stmt}{k:Nat}{N ps:List Str}{sp:Sp}
theorem Fd.ok (F:Fd K mg x st ps)(S:xM N ps (xB st))(len:∀vs H Q E,sp vs H Q E→vs.length=ps.length)
  (hbody:∀(f:Addr) (cdv:Value) (A:Around) (outer:List Env) (s:Shared) (H:Hp) (vs:List V) (Q:VK) (E:XK),Room k (A.deeper (envOfC x (xB st) s.heap.objs.size f cdv))→sp vs H Q E→
   ∃t,PSs (cxOf CX0 P w K mg base N x (xB st) f cdv A outer s H E).nox (xC st) t∧t { nx:=fun _ H'=>Q .non H',rt:=Q } (start N vs) H):Dn P w K mg base x (k+1) ps sp:=
 let ⟨f,fd,F,a,b,c⟩:=F.ex
 ⟨f,fd,F.ok S len (hbody f),a,b,c⟩
theorem Fd.never (F:Fd K mg x st ps)(no:∀vs H Q E,¬sp vs H Q E):Dn P w K mg base x k ps sp:=
 let ⟨f,fd,F,a,b,c⟩:=F.ex
 ⟨f,fd,⟨fun vs H Q E h=>absurd h (no vs H Q E),fun A outer s H args us vs Q E _ _ _ _ h=>absurd h (no vs H Q E)⟩,a,b,c⟩
end
end L2

namespace PySem
section
variable {prog:Program}{w:World}{κ:Type}[DecidableEq κ]{knd:KeyKind prog w κ}
theorem qBk {h:Heap}{a:Addr}{S S':κ→Bool}{n n':Nat}(x:h.SetOf knd a S n)(e:∀k,S k=S' k)(en:n=n'):h.SetOf knd a S' n':=by
 obtain rfl:S=S':=funext e
 subst en
 exact x
noncomputable def metBy (key:Nat→κ)(i:Nat)(x:κ):Bool:=(List.range i).any fun j=>decide (key j=x)
theorem qDk (key:Nat→κ)(i:Nat)(x:κ):metBy key (i+1) x=(metBy key i x || decide (x=key i)):=by
 unfold metBy
 rw[List.range_succ,List.any_append]
 congr 1
 simp only[List.any_cons,List.any_nil,Bool.or_false]
 exact decide_eq_decide.mpr ⟨Eq.symm,Eq.symm⟩
variable {A:Around}{R:Result→Shared→Prop}{I:Addr}{fp wr:List Addr}{G:Array GenState→Array GenState→Prop}{n:Nat}{P:Nat→Value→Prop}{St:Nat→Shared→Prop}
end
section
variable {prog:Program}{w:World}{κ:Type}[DecidableEq κ]{knd:KeyKind prog w κ}{A:Around}{E:Value→Shared→Prop}{s:Shared}
noncomputable abbrev setObj (led:Bool):Obj:={ cls:=.type "set",dict:=none,data:=.set #[] 0 (.fresh 0 0 led) }
end
end PySem

namespace L2
open PySem PySem.Spec PyProof.Rows

noncomputable def rCatN (K:PySem.W.Frag):R2:=fun x y H Q=>∃a b xs ys,x=.ref a∧y=.ref b∧SqT K H a xs∧SqT K H b ys∧ys≠[]∧xs.length+ys.length≤sizeLine∧
 (xs=[]→Q (.ref b) H)∧(xs≠[]→∀p,H p=none→Q (.ref p) (upd H p (.tup (xs++ys))))
section
variable {X:Cx}{K:PySem.W.Frag}
theorem qBd (hK:X.K=K:=by rfl):OpR X (binaryOp .Add) (rCatN K):=by
 subst hK
 intro pins s σ H x y v u Q I rx ry h
 obtain⟨a,b,xs,ys,rfl,rfl,ha,hb,hy,hz,q0,q1⟩:=h
 by_cases hx:xs=[]
 ·subst hx
  cases rx;cases ry
  obtain⟨i1,r1,⟨⟨c1,d1,t1,l1⟩,g1,k1,n1,e1⟩,_⟩:=I.tuple ha
  obtain⟨i2,r2,⟨⟨c2,d2,t2,l2⟩,g2,k2,n2,e2⟩,_⟩:=I.tuple hb
  cases r1
  simp only at k1 e1 k2 e2
  subst k1 e1 k2 e2
  exact concat_meets ⟨_,g1,rfl⟩ ⟨_,g2,rfl⟩ noFill_tuple_add seq_tuple_add PySem.F.slot_tuple_add PySem.F.entry_tuple_add (PySem.F.args_tuple_add_2 _ _) (tuple_addW0 a b _ _ n1 n2 d1 d2 l1 l2 (by simp)) ⟨g1,g2,⟨.ref b,H,I,rfl,q0 rfl⟩⟩
 ·exact qGz pins s σ H _ _ v u Q I rx ry ⟨a,b,xs,ys,rfl,rfl,ha,hb,hx,hz,fun z=>absurd z hy,fun _=>q1 hx⟩
end

noncomputable def SetN (P:Program)(w:World)(a:Addr)(n:Nat):HO:=.ext fun h=>∃S,h.SetOf (jA P w) a S n
noncomputable def rLenS (P:Program)(w:World):List V→Hp→VK→Prop:=fun xs H Q=>∃p n,xs=[.ref p]∧H p=some (SetN P w p n)∧n≤1000∧Q (.int n) H
theorem qUw:bootBuiltins "set" = some (.type "set"):=by decide +kernel
section
variable {X:Cx}{P:Program}{w:World}{K:PySem.W.Frag}
theorem qIb (hP:X.prog=P:=by rfl)(hw:X.w=w:=by rfl):CallR X (.builtin "len") (rLenS P w):=by
 subst hP hw
 intro pins s σ H xs us Q I r h
 obtain⟨p,n,rfl,hp,hn,q⟩:=h
 obtain⟨u,rfl,ru⟩:=vals1 r
 cases ru
 obtain⟨⟨S,o,es,ep,t,e,ex,ed,_,_,_,ef,en⟩,_⟩:=I.hok p _ hp
 subst en
 exact call_len_set e ex ed ef (by omega) ⟨.int _,H,I.tok _,⟨_,rfl⟩,q⟩
end

structure Gi (mg:Str→Option Value)(x:Str)(i:Int):Prop where
 ex:∃t,mg x=some (.int i t)
structure Gs (K:PySem.W.Frag)(mg:Str→Option Value)(x:Str)(ws:List Str):Prop where
 ex:∃p,mg x=some (.ref p)∧∀H,SqT K H p (ws.map V.str)
section
variable {X:Cx}{mg:Str→Option Value}{K:PySem.W.Frag}{x:Str}{i:Int}{ws:List Str}{pos:Pos}
theorem qPa (g:Gi mg x i)(hg:Gl X x:=by rfl)(hm:X.mg=mg:=by rfl)(hd:(x == ("__debug__" : Str))=false:=by decide):PE X (.Name x pos) (tC (.int i)):=by
 subst hm
 obtain⟨t,e⟩:=g.ex
 exact qWh hg e ⟨t,rfl⟩ hd
noncomputable def tGs (K:PySem.W.Frag)(ws:List Str):TE:=fun _ H Q=>∀p,SqT K H p (ws.map V.str)→Q (.ref p) H
theorem xQq (g:Gs K mg x ws)(hg:Gl X x:=by rfl)(hm:X.mg=mg:=by rfl)(hd:(x == ("__debug__" : Str))=false:=by decide):PE X (.Name x pos) (tGs K ws):=by
 subst hm
 obtain⟨p,e,sq⟩:=g.ex
 intro pins s σ H Q I h
 exact qWh (v:=.ref p) hg e rfl hd pins s σ H Q I (h p (sq H))
end
end L2

namespace L2
open PySem PySem.Spec PyProof.Rows
section
variable {X:Cx}{K:PySem.W.Frag}
end
section
variable {α:Type}
end
end L2

namespace L2
open PySem PySem.Spec PyProof.Rows
noncomputable def without (h:Heap)(S:List Addr):Heap:=⟨h.objs.mapIdx fun i o=>if i∈S then { o with data:=.freed } else o,h.life⟩
theorem kQ {h:Heap}{S:List Addr}{b:Addr}(hb:b∈S):(without h S).get? b=none:=by
 unfold without Heap.get?
 rw[Array.getElem?_mapIdx]
 cases e:h.objs[b]? with
 | none=>rfl
 | some o=>
  show(match some (if b∈S then { o with data:=.freed } else o) with | some ⟨_,_,.freed,_⟩=>none | o=>o)=none
  rw[if_pos hb]
theorem vI {h:Heap}{S:List Addr}{b:Addr}(hb:b∉S):(without h S).get? b=h.get? b:=by
 unfold without Heap.get?
 rw[Array.getElem?_mapIdx]
 cases e:h.objs[b]? with
 | none=>rfl
 | some o=>
  show(match some (if b∈S then { o with data:=.freed } else o) with | some ⟨_,_,.freed,_⟩=>none | o=>o)=_
  rw[if_neg hb]
  rfl
theorem wX (h:Heap)(S:List Addr):(without h S).StaysIn h:=fun b o e=>by
 by_cases hb:b∈S
 ·rw[kQ hb] at e;cases e
 ·rw[vI hb] at e;exact e
theorem kK {h base:Heap}{S:List Addr}{l:List Env}(hl:h.FunFrames base l)(hS:∀b∈frs l,b∈S):h.FunFrames (without h S) l:=by
 induction l with
 | nil=>trivial
 | cons env rest ih=>
  obtain⟨hk,⟨L,o,hf,_,ho,hd⟩,hr⟩:=hl
  have hm:∀b,env.frame=some b→b∈frs (env::rest):=fun b e=>by
   unfold frs
   rw[List.filterMap_cons,e]
   exact List.mem_cons_self
  refine⟨hk,⟨L,o,hf,kQ (hS _ (hm L hf)),ho,hd⟩,ih hr fun b hb=>hS b ?_⟩
  unfold frs at hb ⊢
  rw[List.filterMap_cons,hf]
  exact List.mem_cons_of_mem _ hb
noncomputable def Fly (h:Heap)(x T:Addr)(cls:Value):Prop:=
 ∃oe vs oT ts,h.get? x=some oe∧oe.cls=cls∧oe.data=.fields vs∧vs[1]? = some (.ref T)∧T≠x∧h.get? T=some oT∧oT.data=.fields ts∧ts[3]? = some .none
noncomputable def CX1 (P:Program)(w:World):CXT:=fun outer H s E e s'=>∃x T cls H',e=.ref x∧s'.os=s.os∧AllBare s'.gens∧Un (frs outer) [] H H' s.heap s'.heap∧HOk P w H' s'.heap∧
 s.heap.get? x=none∧s.heap.get? T=none∧H' x=none∧H' T=none∧Fly s'.heap x T cls∧E cls none H'
section
variable {M:Model}{A:Around}{E:Value→Shared→Prop}{s:Shared}
theorem qVv {h h':Heap}{l:List Env}{S:List Addr}{x:Addr}{cls:Value}(left:Heap.Left (without h S) l x cls h h')(hl:h.FunFrames (without h S) l):
  ∃T',Fly h' x T' cls∧T'∉frs l∧(T'∈S∨h.get? T'=none)∧(∀b o,b∉S→h.get? b=some o→h'.get? b=some o)∧∀b o,b∈frs l→h.get? b=some o→∃sl,h'.get? b=some { o with slots:=sl }:=by
 obtain⟨k1,k2,k3,k4⟩:=left
 obtain⟨oe',vs',T',oT',ts',f1,f2,f3,f4,f5,f6,f7,f8,f9⟩:=k3
 refine⟨T',⟨oe',vs',oT',ts',f1,f2,f3,f4,f6,f7,f8,f9⟩,fun hb=>?_,?_,fun b o hb e=>k1 b o (by rw[vI hb];exact e),fun b o hb e=>?_⟩
 ·obtain⟨_,o,ho,hd⟩:=k2.mem hb
  rw[f7] at ho
  cases ho
  exact hd _ f8
 ·by_cases hT:T'∈S
  ·exact .inl hT
  ·rw[vI hT] at f5
   exact .inr f5
 ·obtain⟨_,o',ho',hd⟩:=hl.mem hb
  rw[e] at ho'
  cases ho'
  exact k4 b o e hd
theorem qJe {base:Heap}{env:Env}{outer:List Env}{L x T:Addr}{cls:Value}{Q:Unit→Shared→Prop}(hfr:A.frames=some (env::outer))(hl:s.heap.FunFrames base (env::outer))(hf:env.frame=some L)(fl:Fly s.heap x T cls)
  (h:∀h' T',Fly h' x T' cls→T'∉frs (env::outer)→(T'=x∨T'=T∨s.heap.get? T'=none)→(∀b o,b∉frs (env::outer)→b≠x→b≠T→s.heap.get? b=some o→h'.get? b=some o)→
   (∀b o,b∈frs (env::outer)→s.heap.get? b=some o→∃sl,h'.get? b=some { o with slots:=sl })→Q () { s with heap:=h' }):
  wpAny M A (leaving env (.ref x)) Q E s:=by
 obtain⟨oe,vs,oT,ts,e1,e2,e3,e4,e5,e6,e7,e8⟩:=fl
 have S1:∀b∈frs (env::outer),b∈x::T::frs (env::outer):=fun b hb=>List.mem_cons_of_mem _ (List.mem_cons_of_mem _ hb)
 have hl':=kK hl S1
 refine wpAny_leaving_next (base:=without s.heap (x::T::frs (env::outer))) hfr hl' hf ⟨oe,vs,T,oT,ts,e1,e2,e3,e4,kQ (by simp),e5,e6,e7,e8⟩ (wX _ _) (kQ (by simp)) fun h' left=>?_
 obtain⟨T',fl',nT,wT,k,ks⟩:=qVv left hl'
 refine h h' T' fl' nT ?_ (fun b o n1 n2 n3 e=>k b o (by simp[n1,n2,n3]) e) ks
 rcases wT with z | z
 ·simp only[List.mem_cons] at z
  rcases z with z | z | z
  ·exact .inl z
  ·exact .inr (.inl z)
  ·exact absurd z nT
 ·exact .inr (.inr z)
theorem qAj {base:Heap}{env:Env}{outer:List Env}{L x:Addr}{oe:Obj}{vs:Array Value}{Q:Unit→Shared→Prop}(hfr:A.frames=some (env::outer))(hl:s.heap.FunFrames base (env::outer))(hf:env.frame=some L)
  (e1:s.heap.get? x=some oe) (e3:oe.data=.fields vs) (e4:vs[1]? = some .none)
  (h:∀h' T',Fly h' x T' oe.cls→T'∉frs (env::outer)→(T'=x∨s.heap.get? T'=none)→(∀b o,b∉frs (env::outer)→b≠x→s.heap.get? b=some o→h'.get? b=some o)→
   (∀b o,b∈frs (env::outer)→s.heap.get? b=some o→∃sl,h'.get? b=some { o with slots:=sl })→Q () { s with heap:=h' }):
  wpAny M A (leaving env (.ref x)) Q E s:=by
 have S1:∀b∈frs (env::outer),b∈x::frs (env::outer):=fun b hb=>List.mem_cons_of_mem _ hb
 have hl':=kK hl S1
 refine wpAny_leaving_first (base:=without s.heap (x::frs (env::outer))) hfr hl' hf e1 (wX _ _) (kQ (by simp)) e3 e4 fun h' left=>?_
 obtain⟨T',fl',nT,wT,k,ks⟩:=qVv left hl'
 refine h h' T' fl' nT ?_ (fun b o n1 n2 e=>k b o (by simp[n1,n2]) e) ks
 rcases wT with z | z
 ·rcases List.mem_cons.mp z with z | z
  ·exact .inl z
  ·exact absurd z nT
 ·exact .inr z
end
end L2

namespace L2
open PySem PySem.Spec PyProof.Rows
theorem ObjOk.there {P:Program}{w:World}{H:Hp}{h:Heap}{a:Addr}{o:HO}(x:ObjOk P w H h a o):∃u,h.get? a=some u:=by
 cases o with
 | lst xs=>obtain⟨_,_,_,_,e⟩:=x;exact⟨_,e⟩
 | tup xs=>obtain⟨_,_,_,_,e,_⟩:=x;exact⟨_,e⟩
 | dK kvs=>obtain⟨_,_,_,_,o,_,_,e,_⟩:=x;exact⟨_,e⟩
 | dT kvs=>obtain⟨_,_,_,_,o,_,_,e,_⟩:=x;exact⟨_,e⟩
 | set S n=>obtain⟨o,_,_,_,e,_⟩:=x;exact⟨_,e⟩
 | ins C dx fs=>obtain⟨_,_,_,e,_⟩:=x;exact⟨_,e⟩
 | own y=>obtain⟨_,e⟩:=x;exact⟨_,e⟩
 | xd fs=>obtain⟨_,⟨_,_,_,e,_⟩,_⟩:=x;exact⟨_,e⟩
 | rng lo hi=>obtain⟨_,_,_,e⟩:=x;exact⟨_,e⟩
 | frz ob u=>obtain⟨e,_⟩:=x;exact⟨_,e⟩
 | tbl ps=>exact⟨_,(show h.get? a=some _ from x)⟩
 | met f y=>exact⟨_,(show h.get? a=some _ from x)⟩
 | ext φ=>obtain⟨_,⟨_,e⟩,_⟩:=x;exact⟨_,e⟩
theorem HOk.gone {P:Program}{w:World}{H:Hp}{h:Heap}{a:Addr}(x:HOk P w H h)(e:h.get? a=none):H a=none:=by
 cases q:H a with
 | none=>rfl
 | some o=>
  obtain⟨u,r⟩:=(x a o q).there
  rw[e] at r
  cases r
section
variable {P:Program}{w:World}{K:PySem.W.Frag}{mg:Str→Option Value}{base:Heap}{N:List Str}{qual:Str}{scope:Scope}{f:Addr}{cd:Value}{A:Around}{outer:List Env}{s₀:Shared}{H₀:Hp}{E:XK}
theorem qGn {pins:List (Addr×Obj)}{σ:St}{H':Hp}{s':Shared}{x T T':Addr}{cls:Value}{h':Heap}(J:Inv (cxOf (CX1 P w) P w K mg base N qual scope f cd A outer s₀ H₀ E) pins σ H' s')
  (nx:s₀.heap.get? x=none) (nT:s₀.heap.get? T=none) (hx:H' x=none) (hT:H' T=none) (q:E cls none H') (fl':Fly h' x T' cls)
  (wT:T'=x∨T'=T∨s'.heap.get? T'=none)
  (k:∀b o,b∉frs (envOfC qual scope s₀.heap.objs.size f cd::outer)→b≠x→b≠T→s'.heap.get? b=some o→h'.get? b=some o)
  (ks:∀b o,b∈frs (envOfC qual scope s₀.heap.objs.size f cd::outer)→s'.heap.get? b=some o→∃sl,h'.get? b=some { o with slots:=sl }):CX1 P w outer H₀ s₀ E (.ref x) { s' with heap:=h' }:=by
 have B:Un (frs outer) [] H₀ H' s₀.heap s'.heap:=J.base
 have mem:∀b o,s₀.heap.get? b=some o→b∉frs outer→b∉frs (envOfC qual scope s₀.heap.objs.size f cd::outer):=fun b o e hb z=>by
  rcases List.mem_cons.mp (J.stkSub b z) with y | y
  ·exact absurd y (Nat.ne_of_lt (Heap.lt_size e))
  ·exact hb y
 have neX:∀b o,s₀.heap.get? b=some o→b≠x:=fun b o e z=>by rw[z,nx] at e;cases e
 have neT:∀b o,s₀.heap.get? b=some o→b≠T:=fun b o e z=>by rw[z,nT] at e;cases e
 have gone:s'.heap.get? T'=none→s₀.heap.get? T'=none:=fun e=>by
  cases c:s₀.heap.get? T' with
  | none=>rfl
  | some o=>
   obtain⟨o',r⟩:=B.there T' o c (by simp)
   rw[e] at r
   cases r
 refine⟨x,T',cls,H',rfl,J.os,J.bare,⟨fun b o e n hb hx=>?_,fun b o e n hb hx=>?_,B.free,fun b o e hx=>?_,B.tups,B.frzs,B.tbls⟩,fun a o e=>?_,nx,?_,hx,?_,fl',q⟩
 ·exact k b o (mem b o e hb) (neX b o e) (neT b o e) (B.keep b o e n hb hx)
 ·obtain⟨sl,r⟩:=B.slot b o e n hb hx
  obtain⟨sl',r'⟩:=ks b _ (by
   unfold frs at hb ⊢
   rw[List.filterMap_cons]
   split
   ·exact hb
   ·exact List.mem_cons_of_mem _ hb) r
  exact⟨sl',r'⟩
 ·obtain⟨o',r⟩:=B.there b o e hx
  by_cases hb:b∈frs (envOfC qual scope s₀.heap.objs.size f cd::outer)
  ·obtain⟨sl,r'⟩:=ks b _ hb r
   exact⟨_,r'⟩
  ·exact⟨o',k b o' hb (neX b o e) (neT b o e) r⟩
 ·refine(J.hok a o e).stay (fun b u hb r=>?_) (fun _ z=>z) fun _ _ z=>z
  have tr:H' b≠none:=by
   rcases hb with z | z
   ·rw[z,e];exact fun z=>nomatch z
   ·rw[z];exact fun z=>nomatch z
  exact k b u (fun z=>tr (J.stkFree b z)) (fun z=>tr (by rw[z];exact hx)) (fun z=>tr (by rw[z];exact hT)) r
 ·rcases wT with z | z | z
  ·rw[z];exact nx
  ·rw[z];exact nT
  ·exact gone z
 ·rcases wT with z | z | z
  ·rw[z];exact hx
  ·rw[z];exact hT
  ·exact J.hok.gone z
theorem pass1:Passes (CX1 P w) (cxOf (CX1 P w) P w K mg base N qual scope f cd A outer s₀ H₀ E) E:=by
 intro pins σ H s e s' I ⟨x,T,cls,H',he,os,bare,un,hok,gx,gT,hx,hT,fl,q⟩
 subst he
 obtain⟨hh,g,d,t,os'⟩:=s'
 obtain rfl:os'=s.os:=os
 have J:=I.call (h':=hh) (g':=g) (d':=d) (t':=t) (ch:=[]) un hok bare (fun b z=>absurd z (by simp))
 have B:Un (frs outer) [] H₀ H s₀.heap s.heap:=I.base
 have gone:∀b,s.heap.get? b=none→s₀.heap.get? b=none:=fun b e=>by
  cases c:s₀.heap.get? b with
  | none=>rfl
  | some o=>
   obtain⟨o',r⟩:=B.there b o c (by simp)
   rw[e] at r
   cases r
 show wpAny _ _ (leaving _ (.ref x)) _ _ _
 refine qJe J.ok.frames J.stack rfl fl fun h' T' fl' nT wT k ks=>?_
 exact qGn J (gone x gx) (gone T gT) hx hT q fl' wT k ks
noncomputable def Throws (X:Cx)(E:XK):Prop:=∀(pins:List (Addr×Obj)) (σ:St) (H:Hp) (s:Shared) (x:Addr) (cls:Value) (us:List Value) (h':Heap),Inv X pins σ H s→Heap.MadeExcOf s.heap h' x cls us→E cls none H→X.xe (.ref x) { s with heap:=h' }
theorem throws1:Throws (cxOf (CX1 P w) P w K mg base N qual scope f cd A outer s₀ H₀ E) E:=by
 intro pins σ H s x cls us h1 I md q
 have J:=I.un (t':=s.toks) (Un.kept md.keeps) (I.hok.kept md.keeps)
 have B:Un (frs outer) [] H₀ H s₀.heap s.heap:=I.base
 have nx:s₀.heap.get? x=none:=by
  cases c:s₀.heap.get? x with
  | none=>rfl
  | some o=>
   obtain⟨o',r⟩:=B.there x o c (by simp)
   rw[md.new] at r
   cases r
 have hx:H x=none:=I.hok.gone md.new
 obtain⟨t,ht,_,_⟩:=md.there
 show wpAny _ _ (leaving _ (.ref x)) _ _ _
 refine qAj J.ok.frames J.stack rfl ht rfl rfl fun h' T' fl' nT wT k ks=>?_
 exact qGn J nx nx hx hx q fl' (wT.elim .inl fun z=>.inr (.inr z)) (fun b o z1 z2 _ z3=>k b o z1 z2 z3) ks
end
section
variable {X:Cx}{x:Str}{C:Addr}{B newId initId:String}{bm:List Value}{np cpos pos:Pos}{e₀:Expr}{rest:List Expr}{t:TA}{E:XK}
noncomputable def tThrow (C:Addr)(t:TA)(E:XK):TS:=fun _ σ H=>t σ H fun vs H1=>vs.length≤sizeLine∧E (.ref C) none H1
theorem qMd (O:OwnCls x C bm newId X.mg X.base)(FB:ExcBaseFacts B newId initId bm)(hg:Gl X x)(hc:X.calm=true)(hth:Throws X E)(ha:PA X (e₀::rest) t)(hdb:(x == ("__debug__" : Str))=false:=by decide)
  (he:starEach (e₀::rest) X.env=(false,eval e₀ X.env)::starEach rest X.env:=by rfl) (hpl:(backTo cpos (starEach rest X.env)).any (·.1)=false:=by rfl):
  PS X (.Raise (some (.Call (.Name x np) (e₀::rest) [] cpos)) none pos) (tThrow C t E):=by
 intro pins s σ H D I h
 obtain⟨tl,N,nm,q,bs,hd',sn,su,ab,cl,dd,k0,k1,k2,k3,k5,mN,hC,hN,hni,T⟩:=O.obj
 have pl:(backTo cpos (starEach (e₀::rest) X.env)).any (·.1)=false:=by
  rw[he]
  show(false || (backTo cpos (starEach rest X.env)).any (·.1))=false
  rw[hpl]
  rfl
 refine@wpAny_Raise_call_subT _ _ _ _ _ _ nm q C N bs tl bm hd' sn su ab cl dd k0 k1 k2 k3 k5 _ _ _ FB _ _ _ _ _ _ _ (T.hasType FB.hasBase) (I.ok.hd hc) pl hni (qZj I hg O.bound ⟨rfl,?_⟩ hdb)
 have h2:=ha cpos pins s σ H _ I h
 rw[he] at h2 ⊢
 exact Calls.evalArgs_plain (thn h2 fun us s2 ⟨vs,H1,I1,r,z,q⟩=>⟨rfl,by rw[← r.length];exact z,I1.bk _ _ hC,hN.keeps I1.bk,T.keeps I1.bk,fun h' e md=>hth pins σ H1 s2 e _ _ h' I1 md q⟩)
end
section
variable {X:Cx}{pos:Pos}{e:Expr}{te:TE}
noncomputable def tFmt (te:TE):TE:=fun σ H Q=>te σ H fun v H1=>∃y,v=.str y∧y.length≤sizeLine∧Q (.str y) H1
theorem qSn (he:PE X e te):PE X (.FormattedValue e (-1) none pos) (tFmt te):=by
 intro pins s σ H Q I h
 refine wpAny_FormattedValue_plain (thn (he pins s σ H _ I h) fun u s1 ⟨v,H1,I1,r,y,ev,hy,q⟩=>?_)
 subst ev
 obtain⟨t,rfl⟩:=r
 exact wpAny_formatField_str ⟨.str y,H1,I1,⟨t,rfl⟩,q⟩ ⟨.str y,H1,I1.tok _,⟨_,rfl⟩,q⟩ hy
noncomputable def tFmtR (te:TE):TE:=fun σ H Q=>te σ H fun v H1=>∃y,v=.str y∧(reprText y).length≤sizeLine∧Q (.str (reprText y)) H1
theorem qXf (he:PE X e te):PE X (.FormattedValue e 114 none pos) (tFmtR te):=by
 intro pins s σ H Q I h
 refine wpAny_FormattedValue_repr (thn (he pins s σ H _ I h) fun u s1 ⟨v,H1,I1,r,y,ev,hy,q⟩=>?_)
 subst ev
 obtain⟨t,rfl⟩:=r
 refine wpAny_pyReprObj_gives (T := "str") rfl PySem.F.slot_str_repr PySem.F.entry_str_repr (PySem.F.args_str_repr_1 _) (gives_str_repr y t) ?_ rfl hy
 exact wpAny_formatField_str ⟨.str (reprText y),H1,I1.tok _,⟨_,rfl⟩,q⟩ ⟨.str (reprText y),H1,(I1.tok _).tok _,⟨_,rfl⟩,q⟩ hy
noncomputable def tJoin:List TE→Str→TE
 | [],acc=>fun _ H Q=>acc.length≤sizeLine∧Q (.str acc) H
 | t::ts,acc=>fun σ H Q=>t σ H fun v H1=>∃y,v=.str y∧(acc++y).length≤sizeLine∧tJoin ts (acc++y) σ H1 Q
theorem qNz {es:List Expr}{ts:List TE}(h:Paired (PE X) es ts):∀{acc:Str} {pins:List (Addr×Obj)} {s:Shared} {σ:St} {H:Hp} {Q:VK},Inv X pins σ H s→tJoin ts acc σ H Q→
  Joins (model X.prog X.w) X.A X.xe (evalEach es X.env) acc (fun out s1=>out.length≤sizeLine∧EP X pins σ Q (.str out s1.toks) { s1 with toks:=s1.toks+1 }) s:=by
 induction h with
 | nil=>exact fun{acc _ _ _ _ _} I q=>⟨q.1,.str acc,_,I.tok _,⟨_,rfl⟩,q.2⟩
 | cons h1 _ ih=>
  intro acc pins s σ H Q I q
  refine thn (h1 pins s σ H _ I q) fun u s1 ⟨v,H1,I1,r,y,ev,hy,q1⟩=>?_
  subst ev
  obtain⟨t,rfl⟩:=r
  exact⟨y,t,rfl,hy,ih I1 q1⟩
theorem kZ {v1 v2:Expr}{vs:List Expr}{ts:List TE}(h:Paired (PE X) (v1::v2::vs) ts):PE X (.JoinedStr (v1::v2::vs) pos) (tJoin ts Str.empty):=by
 intro pins s σ H Q I q
 exact wpAny_JoinedStr (qNz h I q)
end
section
variable {P:Program}{w:World}{K:PySem.W.Frag}{mg:Str→Option Value}{base:Heap}{qual x:Str}{st:Stmt}{f:Addr}{fd:FuncData}{N ps:List Str}{k:Nat}{sp:Sp}
theorem Fun.ok1 (F:Fun K x qual st f fd)(S:xM N ps (xB st))(len:∀vs H Q E,sp vs H Q E→vs.length=ps.length)
  (hb:∀(cdv:Value) (A:Around) (outer:List Env) (s:Shared) (H:Hp) (vs:List V) (Q:VK) (E:XK),Room k (A.deeper (envOfC qual (xB st) s.heap.objs.size f cdv))→sp vs H Q E→
   ∃t,PSs (cxOf (CX1 P w) P w K mg base N qual (xB st) f cdv A outer s H E) (xC st) t∧t { nx:=fun _ H'=>Q .non H',rt:=Q } (start N vs) H):FnOk P w K mg base (CX1 P w) (k+1) f fd ps sp:=by
 obtain⟨oc,od,kV,doc,pm,an,cdv,ct,osl,rfl,lk,hcd⟩:=F.ex
 exact qUq lk hcd S len fun A outer s H vs Q E hr hsp=>hb cdv A outer s H vs Q E hr hsp
end
end L2

namespace L2
open PySem PySem.Spec PyProof.Rows
section
variable {X:Cx}{pins:List (Addr×Obj)}{σ:St}{H H':Hp}{s:Shared}{h':Heap}
theorem Inv.hop {S:List Addr}(I:Inv X pins σ H s)(hS:∀b∈S,X.s₀.heap.get? b=none∧b≠X.env.locals∧(∀x c,X.env.cells.lookup x=some c→c≠b)∧(∀p∈X.pn++pins,p.1≠b)∧H b=none)
  (k:∀b o,b∉frs X.stack→b∉S→s.heap.get? b=some o→h'.get? b=some o) (ks:∀b o,b∈frs X.stack→b∉S→s.heap.get? b=some o→∃sl,h'.get? b=some { o with slots:=sl })
  (same:∀b,b∉S→H' b=H b) (hok:HOk X.prog X.w H' h'):Inv X pins σ H' { s with heap:=h' }:=by
 have any:∀b o,b∉S→s.heap.get? b=some o→∃sl,h'.get? b=some { o with slots:=sl }:=fun b o hb e=>by
  by_cases z:b∈frs X.stack
  ·exact ks b o z hb e
  ·exact⟨o.slots,k b o z hb e⟩
 have nS:∀b o,X.s₀.heap.get? b=some o→b∉S:=fun b o e z=>by rw[(hS b z).1] at e;cases e
 have tr:∀b u,H b=some u→b∉S:=fun b u e z=>by rw[(hS b z).2.2.2.2] at e;cases e
 have nL:X.env.locals∉S:=fun z=>(hS _ z).2.1 rfl
 have nC:∀x c,X.env.cells.lookup x=some c→c∉S:=fun x c e z=>(hS c z).2.2.1 x c e rfl
 have nP:∀p∈X.pn++pins,p.1∉S:=fun p hp z=>(hS _ z).2.2.2.1 p hp rfl
 have out:∀b,b∉X.fs→b≠X.env.locals→b∉frs X.stack:=fun b h1 h2 z=>(List.mem_cons.mp (I.stkSub b z)).elim h2 h1
 have isC:∀x c,X.env.cells.lookup x=some c→∀v,s.heap.IsCell c v→h'.IsCell c v:=fun x c e v ⟨o,ho,hd⟩=>by
  obtain⟨sl,q⟩:=any c o (nC x c e) ho
  exact⟨_,q,hd⟩
 have B:=I.base
 constructor
 ·exact I.ok
 ·exact I.os
 ·exact I.bare
 ·constructor
  ·intro b o e n hb hx
   exact k b o (out b hb (Nat.ne_of_lt (Nat.lt_of_lt_of_le (Heap.lt_size e) I.ok.above))) (nS b o e) (B.keep b o e n hb hx)
  ·intro b o e n hb hx
   obtain⟨sl,e1⟩:=B.slot b o e n hb hx
   obtain⟨sl',e2⟩:=any b _ (nS b o e) e1
   exact⟨sl',e2⟩
  ·intro b o e n hx
   rw[same b (nS b o e)]
   exact B.free b o e n hx
  ·intro b o e hx
   obtain⟨o',e1⟩:=B.there b o e hx
   obtain⟨sl,e2⟩:=any b o' (nS b o e) e1
   exact⟨_,e2⟩
  ·intro b xs e
   have e1:=B.tups b xs e
   rw[same b (tr b _ e1)]
   exact e1
  ·intro b o u e
   have e1:=B.frzs b o u e
   rw[same b (tr b _ e1)]
   exact e1
  ·intro b ps e
   obtain⟨m,e1⟩:=B.tbls b ps e
   exact⟨m,by rw[same b (tr b _ e1)];exact e1⟩
 ·obtain⟨m,⟨o,es,ep,ho,r⟩,hl⟩:=I.loc
  obtain⟨sl,e⟩:=any _ o nL ho
  refine⟨m,⟨_,es,ep,e,r⟩,fun i x v e1 e2 e3=>?_⟩
  obtain⟨u,rv,l⟩:=hl i x v e1 e2 e3
  refine⟨u,rv,l.imp id fun⟨kd,c,ec,z⟩=>⟨kd,c,ec,isC x c ec _ z⟩⟩
 ·intro x c e
  obtain⟨v,z⟩:=I.cell x c e
  exact⟨v,isC x c e v z⟩
 ·rw[same _ nL]
  exact I.free
 ·intro x c e
  rw[same _ (nC x c e)]
  exact I.freeC x c e
 ·intro p hp
  obtain⟨e,n,ne,nf,d⟩:=I.pin p hp
  exact⟨k p.1 p.2 (out _ nf ne) (nP p hp) e,by rw[same _ (nP p hp)];exact n,ne,nf,d⟩
 ·exact hok
 ·exact I.len
noncomputable def IsExc (x T:Addr)(cls:Value)(h:Heap):Prop:=∃o vs,h.get? x=some o∧o.cls=cls∧o.data=.fields vs∧vs[1]? = some (.ref T)
noncomputable def IsEnt (T:Addr)(h:Heap):Prop:=∃o ts,h.get? T=some o∧o.data=.fields ts∧ts[3]? = some .none
noncomputable abbrev held (H:Hp)(x T:Addr)(cls:Value):Hp:=upd (upd H T (.ext (IsEnt T))) x (.ext (IsExc x T cls))
noncomputable def XP (X:Cx)(pins:List (Addr×Obj))(Ex:St→Value→Hp→Prop)(e:Value)(s':Shared):Prop:=
 ∃σ1 H1 s1,Inv X pins σ1 H1 s1∧CX1 X.prog X.w X.stack H1 s1 (fun c _ H'=>Ex σ1 c H') e s'
theorem XP.caught {Ex:St→Value→Hp→Prop}{e:Value}{Q:Unit→Shared→Prop}{E:Value→Shared→Prop}{outer:List Env}(hex:X.ex=[])(hst:X.stack=X.env::outer)(hf:X.env.frame=some X.env.locals)(h:XP X pins Ex e s)
  (hq:∀x T cls σ1 H1 h',e=.ref x→H1 x=none→H1 T=none→T≠x→Ex σ1 cls H1→Inv X pins σ1 (held H1 x T cls) { s with heap:=h' }→Q () { s with heap:=h' }):
  wpAny (model X.prog X.w) X.A (leaving X.env e) Q E s:=by
 obtain⟨σ1,H1,s1,I,x,T,cls,H',he,os,bare,un,hok,gx,gT,hx,hT,fl,q⟩:=h
 subst he
 obtain⟨hh,g,d,t,os'⟩:=s
 obtain rfl:os'=s1.os:=os
 have J:=I.call (h':=hh) (g':=g) (d':=d) (t':=t) (ch:=[]) un hok bare (fun b z=>absurd z (by simp))
 have gone:∀b,s1.heap.get? b=none→X.s₀.heap.get? b=none:=fun b e=>by
  cases c:X.s₀.heap.get? b with
  | none=>rfl
  | some o=>
   obtain⟨o',r⟩:=I.base.there b o c (by rw[hex];simp)
   rw[e] at r
   cases r
 have ours:∀b,s1.heap.get? b=none→H' b=none→X.s₀.heap.get? b=none∧b≠X.env.locals∧(∀x c,X.env.cells.lookup x=some c→c≠b)∧(∀p∈X.pn++pins,p.1≠b)∧H' b=none:=fun b e n=>by
  refine⟨gone b e,fun z=>?_,fun y c ec z=>?_,fun p hp z=>?_,n⟩
  ·obtain⟨m,⟨o,_,_,ho,_⟩,_⟩:=I.loc
   rw[← z,e] at ho
   cases ho
  ·obtain⟨v,o,ho,_⟩:=I.cell y c ec
   rw[z,e] at ho
   cases ho
  ·have ho:=(I.pin p hp).1
   rw[z,e] at ho
   cases ho
 have fr:X.A.frames=some (X.env::outer):=by rw[← hst];exact I.ok.frames
 have stk:=J.stack
 rw[hst] at stk
 refine qJe fr stk hf fl fun h2 T' fl' nT wT k ks=>?_
 rw[← hst] at k ks
 have nfr:∀b,s1.heap.get? b=none→b∉frs X.stack:=fun b e z=>by
  obtain⟨_,o,ho,_⟩:=I.stack.mem z
  rw[e] at ho
  cases ho
 have T1:s1.heap.get? T'=none:=by
  rcases wT with z | z | z
  ·rw[z];exact gx
  ·rw[z];exact gT
  ·cases c:s1.heap.get? T' with
   | none=>rfl
   | some o=>
    obtain⟨o',r⟩:=un.there T' o c (by simp)
    rw[show hh.get? T'=none from z] at r
    cases r
 have T2:H' T'=none:=by
  rcases wT with z | z | z
  ·rw[z];exact hx
  ·rw[z];exact hT
  ·exact hok.gone z
 obtain⟨oe,vs,oT,ts,f1,f2,f3,f4,f5,f6,f7,f8⟩:=fl'
 refine hq x T' cls σ1 H' h2 rfl hx T2 f5 q (J.hop (S:=[x,T,T']) (fun b hb=>?_) (fun b o n1 n2 e=>k b o n1 (fun z=>n2 (by simp[z])) (fun z=>n2 (by simp[z])) e) (fun b o n1 _ e=>ks b o n1 e)
  (fun b hb=>by show upd (upd H' T' _) x _ b=_;rw[qA fun z=>hb (by simp[z]),qA fun z=>hb (by simp[z])]) fun a o e=>?_)
 ·simp only[List.mem_cons,List.mem_nil_iff,or_false] at hb
  rcases hb with z | z | z
  ·rw[z];exact ours x gx hx
  ·rw[z];exact ours T gT hT
  ·rw[z];exact ours T' T1 T2
 ·replace e:upd (upd H' T' (.ext (IsEnt T'))) x (.ext (IsExc x T' cls)) a=some o:=e
  show ObjOk X.prog X.w (upd (upd H' T' _) x _) h2 a o
  by_cases ha:a=x
  ·subst ha
   rw[qW] at e
   cases e
   exact⟨⟨oe,vs,f1,f2,f3,f4⟩,⟨oe,f1⟩,fun h1 h2 ⟨o,ws,e1,e2⟩ z=>⟨o,ws,z o e1,e2⟩⟩
  ·rw[qA ha] at e
   by_cases hb:a=T'
   ·subst hb
    rw[qW] at e
    cases e
    exact⟨⟨oT,ts,f6,f7,f8⟩,⟨oT,f6⟩,fun h1 h2 ⟨o,ws,e1,e2⟩ z=>⟨o,ws,z o e1,e2⟩⟩
   ·rw[qA hb] at e
    refine(hok a o e).stay (fun b u hb r=>?_) (fun b z=>?_) fun b xs z=>?_
    ·have tr:H' b≠none:=by
      rcases hb with z | z
      ·rw[z,e];exact fun z=>nomatch z
      ·rw[z];exact fun z=>nomatch z
     exact k b u (fun z=>tr (J.stkFree b z)) (fun z=>tr (by rw[z];exact hx)) (fun z=>tr (by rw[z];exact hT)) r
    ·rw[qA (qB z hx),qA (qB z T2)];exact z
    ·rw[qA (qB z hx),qA (qB z T2)];exact z
end
section
variable {M:Model}{A:Around}{E:Value→Shared→Prop}{s:Shared}{env:Env}
theorem qMq {body orelse:Sem Flow}{h1:ExceptHandler}{hs:List ExceptHandler}{Q:Flow→Shared→Prop}
  (h:wpAny M A body (fun f s1=>match f with | .next=>wpAny M A orelse Q E s1 | f=>Q f s1) (fun e s1=>wpAny M A (leaving env e) (fun _ s2=>wpAny M A (handleBy e env (h1::hs)) Q E s2) E s1) s):
  wpAny M A (tryStmt false body (h1::hs) orelse [] env) Q E s:=by
 unfold tryStmt
 simp
 refine wpAny_bind (wpAny_attempt (wpAny_mono h (fun f s1 h2=>?_) fun e s1 h2=>?_))
 ·cases f <;> first | exact h2 | exact wpAny_pure h2
 ·have h3:=wpAny_bind (f:=fun _=>handleBy e env (h1::hs)) h2
  unfold leaving at h3
  simp only[bind_assoc] at h3
  exact h3
end
noncomputable abbrev XE:=St→Value→Hp→Prop
noncomputable def PXE (X:Cx)(e:Expr)(t:XE→TE):Prop:=∀(pins:List (Addr×Obj)) (s:Shared) (σ:St) (H:Hp) (Q:VK) (Ex:XE),Inv X pins σ H s→t Ex σ H Q→wpAny (model X.prog X.w) X.A (eval e X.env) (EP X pins σ Q) (XP X pins Ex) s
noncomputable def PX (X:Cx)(st:Stmt)(t:XE→TS):Prop:=∀(pins:List (Addr×Obj)) (s:Shared) (σ:St) (H:Hp) (D:Ends) (Ex:XE),Inv X pins σ H s→t Ex D σ H→wpAny (model X.prog X.w) X.A (exec st X.env) (SP X pins D) (XP X pins Ex) s
noncomputable def PXs (X:Cx)(st:List Stmt)(t:XE→TS):Prop:=∀(pins:List (Addr×Obj)) (s:Shared) (σ:St) (H:Hp) (D:Ends) (Ex:XE),Inv X pins σ H s→t Ex D σ H→wpAny (model X.prog X.w) X.A (execs st X.env) (SP X pins D) (XP X pins Ex) s
section
variable {X:Cx}{k:Nat}{f:Addr}{fd:FuncData}{ps:List Str}{sp:Sp}{dvs:List V}{ds:List Value}{x:Str}{p pos pos':Pos}{e:Expr}{es:List Expr}{t:TA}
theorem PA.nox (h:PA X.nox es t){E:Value→Shared→Prop}{pos:Pos}{pins:List (Addr×Obj)}{s:Shared}{σ:St}{H:Hp}{Q:List V→Hp→Prop}(I:Inv X pins σ H s)(hw:t σ H Q):wpAny (model X.prog X.w) X.A (spliced (backTo pos (starEach es X.env))) (AP X pins σ Q) E s:=
 wpAny_mono (h pos pins s σ H Q (I.wish _) hw) (fun _ _ ⟨vs,H',I',r,q⟩=>⟨vs,H',I'.unwish,r,q⟩) fun _ _ z=>False.elim z
theorem qOl {pins:List (Addr×Obj)}{σ:St}{H:Hp}{s:Shared}{Q:VK}{us:List Value}{vs:List V}{Ex:XE}(F:FnOk X.prog X.w X.K X.mg X.base (CX1 X.prog X.w) k f fd ps sp)(hr:Room k X.A)(hb:Binds X.K fd ps ds)(hd:Vals dvs ds)
  (I:Inv X pins σ H s) (r:Vals vs us) (h:sp (vs++dvs) H Q (fun c _ H'=>Ex σ c H')):wpAny (model X.prog X.w) X.A (call (.ref f) us) (EP X pins σ Q) (XP X pins Ex) s:=by
 have r2:=r.append hd
 have hl:=r2.length.symm.trans (F.len _ _ _ _ h)
 refine wpAny_call (codeAny_mono (F.run _ _ _ _ _ _ _ Q _ hr I.env0 (hb s us I.kIn hl) r2 h) fun a s' hq=>?_)
 match a,hq with
 | .error _,hq=>exact⟨σ,H,s,I,hq⟩
 | .ok (.ret _),hq=>exact I.after hq
noncomputable def xCall (sp:Sp)(dvs:List V)(t:TA):XE→TE:=fun Ex σ H Q=>t σ H fun vs H1=>sp (vs++dvs) H1 Q (fun c _ H'=>Ex σ c H')
theorem qMb (F:FnOk X.prog X.w X.K X.mg X.base (CX1 X.prog X.w) k f fd ps sp)(hr:Room k X.A)(hg:Gl X x)(hm:X.mg x=some (.ref f))(hk:PySem.W.keepIn X.K (.ref f)=true)(hb:Binds X.K fd ps ds)(hd:Vals dvs ds)
  (ha:PA X.nox (e::es) t) (hdb:(x == ("__debug__" : Str))=false:=by decide) (he:starEach (e::es) X.env=(false,eval e X.env)::starEach es X.env:=by rfl) (hpl:(backTo pos (starEach es X.env)).any (·.1)=false:=by rfl):
  PXE X (.Call (.Name x p) (e::es) [] pos) (xCall sp dvs t):=by
 intro pins s σ H Q Ex I h
 refine wpAny_Call_Name_kw (qZj I hg hm (Q:=_) ?_ hdb)
 exact PySem.W.callWith_K (h₀:=X.base) I.ok.mod.kin hk (thn (ha.nox I h) fun us s1 ⟨vs,H1,I1,r,q⟩=>⟨I1.kIn,qOl F hr hb hd I1 r q⟩) he hpl
noncomputable def xDrop (te:XE→TE):XE→TS:=fun Ex D σ H=>te Ex σ H fun _ H1=>D.nx σ H1
theorem qPx {te:XE→TE}(he:PXE X e te)(hs:swapsWith e none pos.line X.env=pure false:=by rfl):PX X (.Expr e pos) (xDrop te):=fun pins s σ H D Ex I h=>
 wpAny_Expr_any (thn (he pins s σ H _ Ex I h) fun v s1 ⟨x,H1,I1,r1,q1⟩=>⟨σ,H1,I1,q1⟩) I.quiet hs
theorem qPq {st:Stmt}{t:XE→TS}(h1:PX X st t):PXs X [st] t:=by
 intro pins s σ H D Ex I h
 refine wpAny_execs_cons (thn (h1 pins s σ H D Ex I h) fun f s1 q=>?_)
 cases f with
 | next=>exact wpAny_execs_nil q
 | _=>exact q
end
end L2

namespace L2
open PySem PySem.Spec PyProof.Rows
noncomputable def ExcAt (h:Heap)(C:Addr)(bm:List Value):Prop:=bm.contains (.type "BaseException")=true∧∃nm q N bs hd sn su ab cl dd k0 k1 k2 k3 k5 nid,h.get? C=some (excClassObj nm q C N bs bm hd sn su ab cl dd k0 k1 k2 k3 k5 nid)
theorem ExcAt.keeps {h h':Heap}{C:Addr}{bm:List Value}(x:ExcAt h C bm)(k:∀b o,h.get? b=some o→h'.get? b=some o):ExcAt h' C bm:=
 ⟨x.1,let ⟨nm,q,N,bs,hd,sn,su,ab,cl,dd,k0,k1,k2,k3,k5,nid,e⟩:=x.2;⟨nm,q,N,bs,hd,sn,su,ab,cl,dd,k0,k1,k2,k3,k5,nid,k _ _ e⟩⟩
section
variable {M:Model}{A:Around}{E:Value→Shared→Prop}
theorem qWo {s:Shared}{e C C0:Addr}{bm bm0:List Value}{oe:Obj}{Q:Bool→Shared→Prop}(x:ExcAt s.heap C bm)(y:ExcAt s.heap C0 bm0)(he:s.heap.get? e=some oe)(hc:oe.cls=.ref C)(hq:Q ((Value.ref C::bm).contains (.ref C0)) s):
  wpAny M A (excMatches (.ref e) (.ref C0)) Q E s:=by
 obtain⟨b1,nm,q,N,bs,hd,sn,su,ab,cl,dd,k0,k1,k2,k3,k5,nid,hC⟩:=x
 obtain⟨b2,nm',q',N',bs',hd',sn',su',ab',cl',dd',k0',k1',k2',k3',k5',nid',hD⟩:=y
 obtain⟨h,g,d,t,os⟩:=s
 have hcB:(Value.ref C0::bm0).contains (.type "BaseException")=true:=by rw[List.contains_cons,b2,Bool.or_true]
 have f:=tc_notTuple
 unfold excMatches
 generalize hb:(Value.ref C::bm).contains (.ref C0)=b at hq
 repeat (first | (with_reducible refine wpAny_loadPart_at he ?_;rw[hc]) | with_reducible refine wpAny_loadPart_at hD ?_ | (with_reducible refine wpAny_isSubtype_exc hD ?_;rw[hcB]) | (with_reducible refine wpAny_isSubtype_exc hC ?_;rw[hb]) | wp_step)
 cases b with
 | true=>wp_walk;exact hq
 | false=>wp_walk;exact hq
end
section
variable {X:Cx}{pins:List (Addr×Obj)}{σ:St}{H:Hp}{s:Shared}{h':Heap}{n:Str}{i:Nat}
theorem Inv.lost {m':Str→Option Value}(I:Inv X pins σ H s)(hN:X.N.Nodup)(hi:X.N[i]? = some n)(hl:∀m,s.heap.Ns X.env.locals m→h'.Ns X.env.locals (fun y=>if y=n then m' y else m y))(hs:Heap.SameBut X.env.locals s.heap h'):Inv X pins (σ.set i none) H { s with heap:=h' }:=by
 have at':∀b o,b≠X.env.locals→s.heap.get? b=some o→h'.get? b=some o:=fun b o hb e=>(hs.2 b hb).trans e
 have ne:∀b o,X.s₀.heap.get? b=some o→b≠X.env.locals:=fun b o e=>Nat.ne_of_lt (Nat.lt_of_lt_of_le (Heap.lt_size e) I.ok.above)
 have isC:∀x c,X.env.cells.lookup x=some c→∀v,s.heap.IsCell c v→h'.IsCell c v:=fun x c e v ⟨o,ho,hd⟩=>⟨o,at' c o (I.cne x c e) ho,hd⟩
 obtain⟨m,hn,hlk⟩:=id I.loc
 have B:=I.base
 constructor
 ·exact I.ok
 ·exact I.os
 ·exact I.bare
 ·constructor
  ·exact fun b o e n hb hx=>at' b o (ne b o e) (B.keep b o e n hb hx)
  ·intro b o e n hb hx
   obtain⟨sl,e1⟩:=B.slot b o e n hb hx
   exact⟨sl,at' b _ (ne b o e) e1⟩
  ·exact B.free
  ·intro b o e hx
   obtain⟨o',e1⟩:=B.there b o e hx
   exact⟨o',at' b _ (ne b o e) e1⟩
  ·exact B.tups
  ·exact B.frzs
  ·exact B.tbls
 ·refine⟨_,hl m hn,fun j y v e1 e2 e3=>?_⟩
  have hj:j≠i:=fun z=>by
   subst z
   rw[List.getElem?_set] at e2
   simp at e2
  rw[List.getElem?_set_ne (Ne.symm hj)] at e2
  obtain⟨u,r,q⟩:=hlk j y v e1 e2 e3
  have hy:y≠n:=fun z=>hj (qYc hN e1 (z▸hi))
  refine⟨u,r,q.imp (fun⟨a,b⟩=>⟨a,(if_neg hy).trans b⟩) fun⟨kd,c,ec,z⟩=>⟨kd,c,ec,isC y c ec _ z⟩⟩
 ·intro x c e
  obtain⟨v,z⟩:=I.cell x c e
  exact⟨v,isC x c e v z⟩
 ·exact I.free
 ·exact I.freeC
 ·intro p hp
  obtain⟨e,nn,nl,nf,d⟩:=I.pin p hp
  exact⟨at' _ _ nl e,nn,nl,nf,d⟩
 ·intro b o e
  refine(I.hok b o e).stay (fun c u hc q=>at' c u (fun z=>?_) q) (fun _ q=>q) fun _ _ q=>q
  have hf:=I.free
  rw[← z] at hf
  rcases hc with y | y
  ·rw[← y,hf] at e;cases e
  ·rw[hf] at y;cases y
 ·simpa using I.len
theorem wW {M:Model}{A:Around}{E:Value→Shared→Prop}{pos:Pos}{Q:Unit→Shared→Prop}(I:Inv X pins σ H s)(hN:X.N.Nodup)(hi:X.N[i]? = some n)(hk:X.env.scope.names.lookup n=some .local)
  (h:∀s',Inv X pins (σ.set i none) H s'→Q () s'):wpAny M A (do bindName X.env n .none;unbindBehindTheSuite X.env n pos) Q E s:=by
 have hlt:i<σ.length:=I.len▸(List.getElem?_eq_some_iff.mp hi).1
 refine wpAny_bind (wpAny_bindName (qQg (v:=.non) I hN hi (.inl hk) rfl (fun s1 I1=>?_) (.inr hk)))
 unfold unbindBehindTheSuite
 refine wpAny_onRaise ?_
 obtain⟨m,hn,hlk⟩:=id I1.loc
 obtain⟨u,_,q⟩:=hlk i n .non hi (by rw[List.getElem?_set_self hlt]) (.inl hk)
 have hv:m n=some u:=by
  rcases q with q | ⟨q,_⟩
  ·exact q.2
  ·have q':X.env.scope.names.lookup n=some .cell∨X.env.scope.names.lookup n=some .free:=q
   rw[hk] at q'
   rcases q' with q' | q' <;> cases q'
 refine wpAny_unbindName_local hk hn hv (by simp[I.ok.kind]) fun h2 w hn2 hs2=>?_
 have J:=I1.lost (h':=h2) (m':=fun _=>w) hN hi (fun m2 hm2=>?_) hs2
 ·rw[List.set_set] at J
  exact h _ J
 ·have:m2=m:=by
   obtain⟨o,es,ep,ho,hd,_,z⟩:=hm2
   obtain⟨o',es',ep',ho',hd',_,z'⟩:=hn
   rw[ho] at ho';cases ho'
   rw[hd] at hd';cases hd'
   exact funext fun y=>(z y).symm.trans (z' y)
  rw[this]
  exact hn2
end
noncomputable abbrev Cx.row (X:Cx)(e:Value):Cx:={ X with A:=X.A.mark (some e),calm:=false,xe:=fun _ _=>False }
section
variable {X:Cx}{pins:List (Addr×Obj)}{σ:St}{H:Hp}{s:Shared}{e:Value}
theorem Inv.row (I:Inv X pins σ H s)(e:Value):Inv (X.row e) pins σ H s:=by
 have ok:(X.row e).Ok:=by
  have o:=I.ok
  exact⟨o.mod,o.kind,o.glob,o.blt,o.above,o.inj,o.has,o.cab,(fun z=>nomatch (show false=true from z)),o.frames,o.stk,o.exf,o.bs,o.bsz,o.noex,o.exfs,o.funs,o.frf⟩
 exact⟨ok,I.os,I.bare,I.base,I.loc,I.cell,I.free,I.freeC,I.pin,I.hok,I.len⟩
theorem Inv.unrow (I:Inv (X.row e) pins σ H s)(o:X.Ok):Inv X pins σ H s:=⟨o,I.os,I.bare,I.base,I.loc,I.cell,I.free,I.freeC,I.pin,I.hok,I.len⟩
noncomputable def Ends.drop (D:Ends)(i:Nat):Ends:={ nx:=fun σ H=>D.nx (σ.set i none) H,rt:=D.rt,bk:=fun σ H=>D.bk (σ.set i none) H,ct:=fun σ H=>D.ct (σ.set i none) H }
theorem qDb {M:Model}{A:Around}{E:Value→Shared→Prop}{Q:Unit→Shared→Prop}{x T:Addr}{cls:Value}(I:Inv X pins σ H s)(hx:H x=some (.ext (IsExc x T cls)))(hT:H T=some (.ext (IsEnt T)))
  (h:∀s',Inv X pins σ H s'→Q () s'):wpAny M A (setFlight (.ref x) none) Q E s:=by
 obtain⟨⟨oe,vs,f1,f2,f3,f4⟩,_⟩:=I.hok x _ hx
 obtain⟨⟨oT,ts,g1,g2,g3⟩,_⟩:=I.hok T _ hT
 have hsz:3<ts.size:=by
  obtain⟨z,_⟩:=Array.getElem?_eq_some_iff.mp g3
  exact z
 have mf:Obj.mapFields (·.setIfInBounds 3 .none) oT={ oT with data:=.fields (ts.setIfInBounds 3 .none) }:=by
  obtain⟨oc,od,da,sl⟩:=oT
  obtain rfl:da=_:=g2
  rfl
 have up:(s.heap.update T (Obj.mapFields (·.setIfInBounds 3 .none))).get? T=some { oT with data:=.fields (ts.setIfInBounds 3 .none) }:=by
  rw[Heap.get?_update_self _ g1 (by rw[mf];rfl),mf]
 refine wpAny_setFlight_none f1 f3 f4 g1 g2 hsz (h _ ?_)
 have J:=I.write (x:=T) (e:=T) (o:=.ext (IsEnt T)) (t':=s.toks) (h':=s.heap.update T (Obj.mapFields (·.setIfInBounds 3 .none))) (by rw[hT];trivial) (.inl rfl) ?_ ?_ ?_
 ·have:upd H T (.ext (IsEnt T))=H:=by
   funext b
   by_cases hb:b=T
   ·subst hb;rw[qW];exact hT.symm
   ·exact qA hb
  rw[this] at J
  exact J
 ·exact fun b u hb e=>by rw[Heap.get?_update_other _ _ (Ne.symm hb)];exact e
 ·exact⟨_,up⟩
 ·exact⟨⟨_,_,up,rfl,by rw[Array.getElem?_setIfInBounds];simp[hsz]⟩,⟨_,up⟩,fun h1 h2 ⟨o,ws,e1,e2⟩ z=>⟨o,ws,z o e1,e2⟩⟩
theorem qSg {D:Ends}{x T C C0:Addr}{bm bm0:List Value}{cn n:Str}{np pos:Pos}{i:Nat}{b0:Stmt}{suite:List Stmt}{rest:List ExceptHandler}{ts:TS}(I:Inv X pins σ H s)(hx:H x=some (.ext (IsExc x T (.ref C))))(hT:H T=some (.ext (IsEnt T)))
  (hN:X.N.Nodup) (hi:X.N[i]? = some n) (hk:X.env.scope.names.lookup n=some .local) (hg:Gl X cn) (hm:X.mg cn=some (.ref C0)) (c1:ExcAt X.base C bm) (c2:ExcAt X.base C0 bm0) (hit:(Value.ref C::bm).contains (.ref C0)=true)
  (hs:PSs (X.row (.ref x)) (b0::suite) ts) (q:ts (D.drop i) (σ.set i (some (.ref x))) H) (hdb:(cn == ("__debug__" : Str))=false:=by decide):
  wpAny (model X.prog X.w) X.A (handleBy (.ref x) X.env (.ExceptHandler (some (.Name cn np)) (some n) (b0::suite) pos::rest)) (SP X pins D) X.xe s:=by
 refine wpAny_handleBy_cons (codeAny_handlers_test ?_) (by intro z;cases z)
 have IR:=I.row (.ref x)
 obtain⟨⟨oe,vs,f1,f2,f3,f4⟩,_⟩:=I.hok x _ hx
 refine qZj (X:=X.row (.ref x)) IR hg hm (qWo (c1.keeps I.bk) (c2.keeps I.bk) f1 f2 ?_) hdb
 rw[hit]
 refine codeAny_handlers_suite_as (qDb IR hx hT fun s1 I1=>qQg (X:=X.row (.ref x)) (v:=.ref x) I1 hN hi (.inl hk) rfl (fun s2 I2=>?_) (.inr hk))
 refine wpAny_mono (hs pins s2 _ H (D.drop i) I2 q) (fun f s3 h3=>?_) fun _ _ z=>False.elim z
 cases f with
 | next=>
  obtain⟨σ',H',J,z⟩:=h3
  exact wW (J.unrow I.ok) hN hi hk fun s4 J4=>⟨_,H',J4,z⟩
 | brk=>
  obtain⟨σ',H',J,z⟩:=h3
  exact wW (J.unrow I.ok) hN hi hk fun s4 J4=>⟨_,H',J4,z⟩
 | cont=>
  obtain⟨σ',H',J,z⟩:=h3
  exact wW (J.unrow I.ok) hN hi hk fun s4 J4=>⟨_,H',J4,z⟩
 | ret u=>
  obtain⟨v,σ',H',J,r,z⟩:=h3
  exact wW (J.unrow I.ok) hN hi hk fun s4 J4=>⟨v,_,H',J4,r,z⟩
end
end L2

namespace L2
open PySem PySem.Spec PySem.W
section
variable {prog:Program}{w:World}{A:Around}{E:Value→Shared→Prop}{h:Heap}{g:Array GenState}{d:Drawn}{t:Nat}{os:OsState}{a C:Addr}{o:Obj}{bm:List Value}
theorem qIg {R:Result→Shared→Prop}(hx:h.get? a=some o)(hc:o.cls=.ref C)(hC:ExcAt h C bm)(ob:bm.contains (.type "object")=true)(hq:R (.ok (.ret (.ref C))) ⟨h,g,d,t,os⟩):
  codeAny (model prog w) A (.call (.builtin "getset_descriptor.__get__") ⟨[.builtin "object.__class__",.ref a,.ref C],[]⟩) R ⟨h,g,d,t,os⟩:=by
 obtain⟨b1,nm,q,N,bs,hd,sn,su,ab,cl,dd,k0,k1,k2,k3,k5,nid,eC⟩:=hC
 have t5:(⟨h,g,d,t,os⟩:Shared).TypeIs (.builtin "object.__class__") "getset_descriptor" := F.typeOf_object_class
 have cB:(Value.ref C::bm).contains (.type (".".intercalate ("object.__class__".cutAt '.').dropLast))=true:=by rw[F.owner_object_class,List.contains_cons,ob];rfl
 refine codeAny_call_builtin F.slot_gs_get.plain F.entry_gs_get (F.slot_gs_get.check _ _ _ _ _ _ _ _ t5 (F.args_gs_get _ _ _) ?_)
 repeat (any_goals (first | assumption | (with_reducible refine wpAny_loadPart_at hx ?_;rw[hc]) | (with_reducible refine wpAny_isSubtype_exc eC ?_;rw[cB]) | wp_step))
 refine⟨Code.quiet_builtin _ (by decide +kernel),?_⟩
 refine codeAny_builtin F.entry_object_class ?_
 repeat (any_goals (first | assumption | (with_reducible refine wpAny_loadPart_at hx ?_;rw[hc]) | wp_step))
theorem qCb {tk:Tok}{Q:Fin→Shared→Prop}(hx:h.get? a=some o)(hc:o.cls=.ref C)(hC:ExcAt h C bm)(ob:bm.contains (.type "object")=true)(l3:Looks (model prog w) h (typeLookup (.ref C) "__class__") (some (.builtin "object.__class__")))(hq:Q (.done (.ret (.ref C))) ⟨h,g,d,t,os⟩):
  wpAny (model prog w) A
   (Builtin.«object.__getattribute__» ⟨[.ref a,.str "__class__" tk],[]⟩) Q E ⟨h,g,d,t,os⟩:=by
 have t5:(⟨h,g,d,t,os⟩:Shared).TypeIs (.builtin "object.__class__") "getset_descriptor" := F.typeOf_object_class
 have ft:=F.typeOf_object_class
 have fg:=F.slot_gs_get.lookup
 have fs:=F.slot_gs_set.lookup
 repeat (any_goals (first | assumption | (with_reducible refine wpAny_loadPart_at hx ?_;rw[hc]) | with_reducible refine l3.at ?_ | wp_step))
 refine qIg hx hc hC ob ?_
 repeat any_goals (first | assumption | wp_step)
theorem qCc {M:Model}{nv:Value}{Q:Unit→Shared→Prop}(hx:h.get? a=some o)(hc:o.cls=.ref C)(hC:ExcAt h C bm)(hq:Q () ⟨h,g,d,t,os⟩):wpAny M A (checkBuiltinCall "BaseException.__getattribute__" ⟨[.ref a,nv],[]⟩) Q E ⟨h,g,d,t,os⟩:=by
 have e1:builtinKind "BaseException.__getattribute__" = some .slot:=by decide +kernel
 have e2:splitId "BaseException.__getattribute__" = some ("BaseException","__getattribute__"):=by decide +kernel
 obtain⟨b1,nm,q,N,bs,hd,sn,su,ab,cl,dd,k0,k1,k2,k3,k5,nid,eC⟩:=hC
 have cB:(Value.ref C::bm).contains (.type "BaseException")=true:=by rw[List.contains_cons,b1];rfl
 have e3:=F.args_bexc_ga (.ref a) nv
 simp only[checkBuiltinCall,e1,e2]
 refine wpAny_bind ?_
 unfold isInstance
 repeat (first | (with_reducible refine wpAny_loadPart_at hx ?_;rw[hc]) | (with_reducible refine wpAny_isSubtype_exc eC ?_;rw[cB]) | wp_step)
 exact hq
theorem qEv {tk:Tok}{R:Result→Shared→Prop}(hx:h.get? a=some o)(hc:o.cls=.ref C)(hC:ExcAt h C bm)(ob:bm.contains (.type "object")=true)(l3:Looks (model prog w) h (typeLookup (.ref C) "__class__") (some (.builtin "object.__class__")))(hq:R (.ok (.ret (.ref C))) ⟨h,g,d,t,os⟩):
  codeAny (model prog w) A (.call (.builtin "BaseException.__getattribute__") ⟨[.ref a,.str "__class__" tk],[]⟩) R ⟨h,g,d,t,os⟩:=
 codeAny_call_builtin PySem.F.attrBase_ValueError.ga.plain F.entry_bexc_ga (qCc hx hc hC (qCb hx hc hC ob l3 hq))
theorem qOa {tk:Tok}{Q:Value→Shared→Prop}(hx:h.get? a=some o)(hc:o.cls=.ref C)(hC:ExcAt h C bm)(ob:bm.contains (.type "object")=true)(l1:Looks (model prog w) h (typeLookup (.ref C) "__getattribute__") (some (.builtin "BaseException.__getattribute__")))
  (l2:Looks (model prog w) h (typeLookup (.ref C) "__getattr__") none) (l3:Looks (model prog w) h (typeLookup (.ref C) "__class__") (some (.builtin "object.__class__"))) (hq:Q (.ref C) ⟨h,g,d,t,os⟩):
  wpAny (model prog w) A (getAttrBy (.ref a) (.str "__class__" tk) false) Q E ⟨h,g,d,t,os⟩:=by
 have f3:=PySem.F.attrBase_ValueError.ga.bind (.ref a)
 have h2:(Value.builtin "BaseException.__getattribute__" == Value.builtin "object.__getattribute__")=false:=by decide +kernel
 have h1:(onTheHeap (Value.ref C) && Value.builtin "BaseException.__getattribute__" == Value.builtin "object.__getattribute__")=false:=by rw[h2];rfl
 have h0:(false && onTheHeap (Value.builtin "BaseException.__getattribute__"))=false:=rfl
 repeat (any_goals (first | assumption | (with_reducible refine wpAny_loadPart_at hx ?_;rw[hc]) | with_reducible refine l1.at ?_ | with_reducible refine l2.at ?_ | wp_step))
 refine qEv hx hc hC ob l3 ?_
 repeat any_goals (first | assumption | wp_step)
theorem qEw {Q:Option Value→Shared→Prop}(hx:h.get? a=some o)(hc:o.cls=.ref C)(hC:ExcAt h C bm)(ob:bm.contains (.type "object")=true)(l1:Looks (model prog w) h (typeLookup (.ref C) "__getattribute__") (some (.builtin "BaseException.__getattribute__")))
  (l2:Looks (model prog w) h (typeLookup (.ref C) "__getattr__") none) (l3:Looks (model prog w) h (typeLookup (.ref C) "__class__") (some (.builtin "object.__class__"))) (hq:Q (some (.ref C)) ⟨h,g,d,t+1,os⟩):
  wpAny (model prog w) A (getAttr? (.ref a) "__class__") Q E ⟨h,g,d,t,os⟩:=by
 unfold getAttr? getAttrBy?
 repeat (any_goals (first | assumption | with_reducible apply qOa hx hc hC ob l1 l2 l3 | wp_step))
end
end L2
namespace L2
open PySem PySem.Spec PySem.W
noncomputable def ExcIn (x C:Addr)(h:Heap):Prop:=∃o,h.get? x=some o∧o.cls=.ref C
theorem qBl {K:Frag}{x C:Addr}{bm:List Value}(hC:∀h,K.In h→ExcAt h C bm)(ob:bm.contains (.type "object")=true)(l1:findIn K (.ref C) "__getattribute__" = some (some (.builtin "BaseException.__getattribute__")))
  (l2:findIn K (.ref C) "__getattr__" = some none) (l3:findIn K (.ref C) "__class__" = some (some (.builtin "object.__class__"))):KitX K (.ref x) (.ref C) (ExcIn x C) where
 ty:=fun _ _ _ ⟨o,h1,h2⟩=>h2▸(Looks.ld h1).andThen .now
 it:=fun _ h X _=>by
  obtain⟨_,nm,q,N,bs,hd,sn,su,ab,cl,dd,k0,k1,k2,k3,k5,nid,eC⟩:=hC h X
  intro A' Q' E' s' k q
  unfold isType loadHead
  exact wpAny_bind (wpAny_loadPart (k _ _ eC) (wpAny_pure q))
 ne:=fun h tp _ _ _ _ X htp=>by
  obtain⟨_,nm,q,N,bs,hd,sn,su,ab,cl,dd,k0,k1,k2,k3,k5,nid,eC⟩:=hC h X
  refine Bool.eq_false_iff.mpr fun z=>?_
  have e:C=tp:=Value.ref.inj (beq_iff_eq.mp z)
  rw[← e,eC] at htp
  have z2:=congrArg (fun o=>Option.map Obj.data o) htp
  cases z2
 ca:=fun{_ _ _ _ _ s} X ⟨o,h1,h2⟩ k=>by
  obtain⟨h,g,d,t,os⟩:=s
  exact qEw h1 h2 (hC h X) ob (looks_findIn X l1) (looks_findIn X l2) (looks_findIn X l3) k
structure Asks (K:Frag)(C:Addr)(bm:List Value):Prop where
 at':∀h,K.In h→ExcAt h C bm
 ob:bm.contains (.type "object")=true
 l1:findIn K (.ref C) "__getattribute__" = some (some (.builtin "BaseException.__getattribute__"))
 l2:findIn K (.ref C) "__getattr__" = some none
 l3:findIn K (.ref C) "__class__" = some (some (.builtin "object.__class__"))
section
variable {X:Cx}
theorem qId:CallR X (.builtin "isinstance") (fun xs H Q=>∃x T C bm D b,xs=[.ref x,.ref D]∧H x=some (.ext (IsExc x T (.ref C)))∧Asks X.K C bm∧kitOne X.K (.ref C) (.ref D)=some b∧Q (.bl b) H):=by
 intro pins s σ H xs us Q I r h
 obtain⟨x,T,C,bm,D,b,rfl,hx,ak,e,q⟩:=h
 obtain⟨u,v,rfl,ru,rv⟩:=vals2 r
 cases ru
 cases rv
 obtain⟨⟨o,vs,h1,h2,_⟩,_⟩:=I.hok x _ hx
 exact kia_one (qBl ak.at' ak.ob ak.l1 ak.l2 ak.l3) I.kIn ⟨o,h1,h2⟩ e (fun z=>nomatch z) fun tk=>⟨.bl b,H,I.tok _,rfl,q⟩
theorem qIc:CallR X (.builtin "isinstance") (fun xs H Q=>∃x T C bm D b,xs=[.ref x,.ty D]∧H x=some (.ext (IsExc x T (.ref C)))∧Asks X.K C bm∧kitOne X.K (.ref C) (.type D)=some b∧Q (.bl b) H):=by
 intro pins s σ H xs us Q I r h
 obtain⟨x,T,C,bm,D,b,rfl,hx,ak,e,q⟩:=h
 obtain⟨u,v,rfl,ru,rv⟩:=vals2 r
 cases ru
 cases rv
 obtain⟨⟨o,vs,h1,h2,_⟩,_⟩:=I.hok x _ hx
 exact kia_one (qBl ak.at' ak.ob ak.l1 ak.l2 ak.l3) I.kIn ⟨o,h1,h2⟩ e (fun z=>nomatch z) fun tk=>⟨.bl b,H,I.tok _,rfl,q⟩
end
end L2

namespace L2
open PySem PySem.Spec PySem.W PyProof.Rows
noncomputable abbrev bmV:List Value:=[.type "ValueError",.type "Exception",.type "BaseException",.type "object"]
noncomputable def jI (es:List DictEntry):Bool:=es.all fun e=>match e.key with | .str _ _=>true | _=>false
structure Ref (K:Frag)(mg:Str→Option Value)(x:Str)(C:Addr)(bm:List Value):Prop where
 bd:mg x=some (.ref C)
 own:∀h,K.In h→OwnCls x C bmV "ValueError.__new__" mg h
 asks:Asks K C bm
 tail:∀h,K.In h→OwnTail h bmV (.ref C::bm)
theorem vE {K:Frag}{h:Heap}{mg:Str→Option Value}{x:Str}{C N:Addr}{nm q:Str}{bs bm:List Value}{hd:Bool}{sn:List Str}{su:List Value}{ab:Bool}{cl:Option Bool}{dd nd:Option Addr}{k0 k1 k2 k3 k5:Option Value}{nc:Value}{es:Array DictEntry}{ne:Nat}{ns:Array (Option Value)}
  (X:K.In h) (G:h.Ns mainGlobals mg) (t:∀h,K.In h→OwnTail h bmV bm) (a:nsIn K mainGlobals x=some (some (.ref C))) (l:K.lookup C=some (excClassObj nm q C N bs bm hd sn su ab cl dd k0 k1 k2 k3 k5 "ValueError.__new__"))
  (lN:K.lookup N=some ⟨nc,nd,.dict es ne,ns⟩) (ok:jI es.toList=true) (ni:nsIn K N "__init__" = some none)
  (l1:findIn K (.ref C) "__getattribute__" = some (some (.builtin "BaseException.__getattribute__"))) (l2:findIn K (.ref C) "__getattr__" = some none) (l3:findIn K (.ref C) "__class__" = some (some (.builtin "object.__class__"))):Ref K mg x C bm:=by
 have ok':nsOkIn K N=true:=by
  unfold nsOkIn
  rw[lN]
  show es.all _=true
  rw[← Array.all_toList]
  exact ok
 refine⟨mg_of X G a,fun base Y=>?_,⟨fun base Y=>⟨?_,?_⟩,?_,l1,l2,l3⟩,fun base Y=>?_⟩
 ·exact⟨mg_of X G a,bm,N,nm,q,bs,hd,sn,su,ab,cl,dd,k0,k1,k2,k3,k5,_,Y _ _ l,.of_isNs (isNs_of_in Y ok'),nsMap_none_of_in Y ok' ni,t base Y⟩
 ·exact(t base Y).hasType rfl
 ·exact⟨nm,q,N,bs,hd,sn,su,ab,cl,dd,k0,k1,k2,k3,k5,_,Y _ _ l⟩
 ·exact(t h X).hasType rfl
 ·exact .own (Y _ _ l) (.of_isNs (isNs_of_in Y ok')) (nsMap_none_of_in Y ok' ni) (t base Y)
end L2

namespace L2
open PySem PySem.Spec PySem.W PyProof.Rows
structure Dx (P:Program)(w:World)(K:Frag)(mg:Str→Option Value)(base:Heap)(x:Str)(k:Nat)(ps:List Str)(sp:Sp):Prop where
 ex:∃f fd,FnOk P w K mg base (CX1 P w) k f fd ps sp∧mg x=some (.ref f)∧keepIn K (.ref f)=true∧Binds K fd ps []
section
variable {P:Program}{w:World}{K:Frag}{mg:Str→Option Value}{base:Heap}{x:Str}{st:Stmt}{j k:Nat}{N ps:List Str}{sp sp':Sp}
theorem Fd.okx (F:Fd K mg x st ps)(S:xM N ps (xB st))(len:∀vs H Q E,sp vs H Q E→vs.length=ps.length)
  (hbody:∀(f:Addr) (cdv:Value) (A:Around) (outer:List Env) (s:Shared) (H:Hp) (vs:List V) (Q:VK) (E:XK),Room k (A.deeper (envOfC x (xB st) s.heap.objs.size f cdv))→sp vs H Q E→
   ∃t,PSs (cxOf (CX1 P w) P w K mg base N x (xB st) f cdv A outer s H E) (xC st) t∧t { nx:=fun _ H'=>Q .non H',rt:=Q } (start N vs) H):Dx P w K mg base x (k+1) ps sp:=
 let ⟨f,fd,F,a,b,c⟩:=F.ex
 ⟨f,fd,F.ok1 S len (hbody f),a,b,c⟩
end
section
variable {P:Program}{w:World}{K:Frag}{mg:Str→Option Value}{base:Heap}{N:List Str}{qual:Str}{scope:Scope}{f:Addr}{cd:Value}{A:Around}{outer:List Env}{s₀:Shared}{H₀:Hp}{E:XK}{j k:Nat}{ps:List Str}{sp:Sp}{x:Str}{p pos:Pos}{e:Expr}{es:List Expr}{t:TA}
theorem qE (D:Dx P w K mg base x j ps sp)(hr:Room k (cxOf (CX1 P w) P w K mg base N qual scope f cd A outer s₀ H₀ E).A)(ha:PA (cxOf (CX1 P w) P w K mg base N qual scope f cd A outer s₀ H₀ E) (e::es) t)(hjk:j≤k:=by first | decide | omega)
  (hg:Gl (cxOf (CX1 P w) P w K mg base N qual scope f cd A outer s₀ H₀ E) x:=by rfl)
  (hdb:(x == ("__debug__" : Str))=false:=by decide) (he:starEach (e::es) (cxOf (CX1 P w) P w K mg base N qual scope f cd A outer s₀ H₀ E).env=(false,eval e (cxOf (CX1 P w) P w K mg base N qual scope f cd A outer s₀ H₀ E).env)::starEach es (cxOf (CX1 P w) P w K mg base N qual scope f cd A outer s₀ H₀ E).env:=by rfl)
  (hpl:(backTo pos (starEach es (cxOf (CX1 P w) P w K mg base N qual scope f cd A outer s₀ H₀ E).env)).any (·.1)=false:=by rfl):
  PE (cxOf (CX1 P w) P w K mg base N qual scope f cd A outer s₀ H₀ E) (.Call (.Name x p) (e::es) [] pos) (tCall sp [] E t):=by
 obtain⟨f',fd,F,a,b,c⟩:=D.ex
 exact zI (F.mono hjk) hr hg a b c .nil pass1 ha hdb he hpl
theorem yP {C:Addr}{np cpos:Pos}(O:OwnCls x C bmV "ValueError.__new__" mg base)(ha:PA (cxOf (CX1 P w) P w K mg base N qual scope f cd A outer s₀ H₀ E) (e::es) t)(hg:Gl (cxOf (CX1 P w) P w K mg base N qual scope f cd A outer s₀ H₀ E) x:=by rfl)
  (hdb:(x == ("__debug__" : Str))=false:=by decide) (he:starEach (e::es) (cxOf (CX1 P w) P w K mg base N qual scope f cd A outer s₀ H₀ E).env=(false,eval e (cxOf (CX1 P w) P w K mg base N qual scope f cd A outer s₀ H₀ E).env)::starEach es (cxOf (CX1 P w) P w K mg base N qual scope f cd A outer s₀ H₀ E).env:=by rfl)
  (hpl:(backTo cpos (starEach es (cxOf (CX1 P w) P w K mg base N qual scope f cd A outer s₀ H₀ E).env)).any (·.1)=false:=by rfl) (hc:(cxOf (CX1 P w) P w K mg base N qual scope f cd A outer s₀ H₀ E).calm=true:=by rfl):
  PS (cxOf (CX1 P w) P w K mg base N qual scope f cd A outer s₀ H₀ E) (.Raise (some (.Call (.Name x np) (e::es) [] cpos)) none pos) (tThrow C t E):=
 qMd O PySem.F.excBase_ValueError hg hc throws1 ha hdb he hpl
end
section
variable {X:Cx}{pos:Pos}{e:Expr}{te:TE}
end
section
variable {X:Cx}{P:Program}{w:World}{K:Frag}{mg:Str→Option Value}{base:Heap}{j k:Nat}{ps:List Str}{sp:Sp}{x:Str}{p pos:Pos}{e:Expr}{es:List Expr}{t:TA}
theorem qFa (D:Dx P w K mg base x j ps sp)(hr:Room k X.A)(ha:PA X.nox (e::es) t)(hjk:j≤k:=by first | decide | omega)(hg:Gl X x:=by rfl)
  (h1:X.prog=P:=by rfl) (h2:X.w=w:=by rfl) (h3:X.K=K:=by rfl) (h4:X.mg=mg:=by rfl) (h5:X.base=base:=by rfl)
  (hdb:(x == ("__debug__" : Str))=false:=by decide) (he:starEach (e::es) X.env=(false,eval e X.env)::starEach es X.env:=by rfl) (hpl:(backTo pos (starEach es X.env)).any (·.1)=false:=by rfl):
  PXE X (.Call (.Name x p) (e::es) [] pos) (xCall sp [] t):=by
 subst h1 h2 h3 h4 h5
 obtain⟨f,fd,F,a,b,c⟩:=D.ex
 exact qMb (F.mono hjk) hr hg a b c .nil ha hdb he hpl
end
theorem wK {X:Cx}{K:Frag}{mg:Str→Option Value}{x:Str}{C:Addr}{bm:List Value}{pos:Pos}(R:Ref K mg x C bm)(hg:Gl X x:=by rfl)(hm:X.mg=mg:=by rfl)(hd:(x == ("__debug__" : Str))=false:=by decide):PE X (.Name x pos) (tC (.ref C)):=by
 subst hm
 exact qWh (v:=.ref C) hg R.bd rfl hd
noncomputable def rIsiE (K:Frag):List V→Hp→VK→Prop:=fun xs H Q=>∃x T C bm D b,xs=[.ref x,.ref D]∧H x=some (.ext (IsExc x T (.ref C)))∧Asks K C bm∧kitOne K (.ref C) (.ref D)=some b∧Q (.bl b) H
noncomputable def rIsiT (K:Frag):List V→Hp→VK→Prop:=fun xs H Q=>∃x T C bm D b,xs=[.ref x,.ty D]∧H x=some (.ext (IsExc x T (.ref C)))∧Asks K C bm∧kitOne K (.ref C) (.type D)=some b∧Q (.bl b) H
section
variable {X:Cx}{K:Frag}
theorem qEz (hK:X.K=K:=by rfl):CallR X (.builtin "isinstance") (rIsiE K):=by subst hK;exact qId
theorem qEx (hK:X.K=K:=by rfl):CallR X (.builtin "isinstance") (rIsiT K):=by subst hK;exact qIc
theorem qRb {D:Ends}{i:Nat}{σ:St}{H:Hp}(h:D.nx (σ.set i none) H):(D.drop i).nx σ H:=h
end
theorem qYh:bootBuiltins "ValueError" = some (.type "ValueError"):=by decide +kernel
end L2

namespace L2
open PySem PySem.Spec PyProof.Rows
section
variable {M:Model}{A:Around}{E:Value→Shared→Prop}{s:Shared}
end
end L2

namespace L2
open PySem PySem.Spec PyProof.Rows
section
variable {P:Program}{w:World}{K:PySem.W.Frag}{mg:Str→Option Value}{base:Heap}{N0:List Str}{qual:Str}{sc:Scope}{f:Addr}{cd:Value}{A:Around}{outer:List Env}{s₀:Shared}{H₀:Hp}{E1:XK}{scope:Scope}{cl:List (Str×Addr)}{N:List Str}
end
section
variable {P:Program}{w:World}{K:PySem.W.Frag}{mg:Str→Option Value}{base:Heap}{N0:List Str}{qual:Str}{sc:Scope}{f:Addr}{cd:Value}{A:Around}{outer:List Env}{s₀:Shared}{H₀:Hp}
variable {X:Cx}{elt tg iter:Expr}{ifs:List Expr}{scope:Scope}{cpos:Pos}{N:List Str}{k:Nat}{js:List Nat}{cl:List (Str×Addr)}{g:TG}{tt:TT}{te:TE}
end
section
variable {Y:Cx}{E:XK}{P:Program}{w:World}{K:PySem.W.Frag}{mg:Str→Option Value}{base:Heap}{j k:Nat}{ps:List Str}{sp:Sp}{x:Str}{p pos:Pos}{e:Expr}{es:List Expr}{t:TA}
end
end L2

namespace L2
open PySem PySem.Spec PyProof.Rows
section
variable {M:Model}{A:Around}{E:Value→Shared→Prop}
theorem qHd {s:Shared}{C0:Addr}{bm0:List Value}{Q:Bool→Shared→Prop}(y:ExcAt s.heap C0 bm0)(hq:Q true s):wpAny M A (isExcClass (.ref C0)) Q E s:=by
 obtain⟨b2,nm',q',N',bs',hd',sn',su',ab',cl',dd',k0',k1',k2',k3',k5',nid',hD⟩:=y
 obtain⟨h,g,d,t,os⟩:=s
 have hcB:(Value.ref C0::bm0).contains (.type "BaseException")=true:=by rw[List.contains_cons,b2,Bool.or_true]
 unfold isExcClass
 repeat (first | with_reducible refine wpAny_loadPart_at hD ?_ | (with_reducible refine wpAny_isSubtype_exc hD ?_;rw[hcB]) | wp_step)
 exact hq
theorem qRw {s:Shared}{C:Addr}{bm:List Value}{v:Value}{Q:Bool→Shared→Prop}(x:ExcAt s.heap C bm)(hq:Q ((Value.ref C::bm).contains v) s):wpAny M A (isSubtype (.ref C) v) Q E s:=by
 obtain⟨b1,nm,q,N,bs,hd,sn,su,ab,cl,dd,k0,k1,k2,k3,k5,nid,hC⟩:=x
 obtain⟨h,g,d,t,os⟩:=s
 exact wpAny_isSubtype_exc hC hq
theorem qBh {β:Type}{b:β}{f:Value→β→Sem (ForInStep β)}{s:Shared}{R:β→Shared→Prop}:∀{vs:List Value},(∀c∈vs,∀R:ForInStep β→Shared→Prop,R (.yield b) s→wpAny M A (f c b) R E s)→R b s→wpAny M A (forIn vs b f) R E s:=by
 intro vs
 induction vs with
 | nil=>intro _ h;rw[List.forIn_nil];exact wpAny_pure h
 | cons c vs ih=>
  intro h hR
  rw[List.forIn_cons]
  exact wpAny_bind (h c List.mem_cons_self _ (ih (fun d hd=>h d (List.mem_cons_of_mem _ hd)) hR))
theorem qVj {s:Shared}{e p C:Addr}{bm:List Value}{cs:List Addr}{oe:Obj}{Q:Bool→Shared→Prop}(x:ExcAt s.heap C bm)(ys:∀D∈cs,∃bm',ExcAt s.heap D bm')(ht:IsTup s.heap p (cs.map Value.ref).toArray)(he:s.heap.get? e=some oe)(hc:oe.cls=.ref C)
  (no:∀D∈cs,(Value.ref C::bm).contains (.ref D)=false) (hq:Q false s):wpAny M A (excMatches (.ref e) (.ref p)) Q E s:=by
 obtain⟨o,ho,hcl,n,hd⟩:=ht
 unfold excMatches
 refine wpAny_bind (wpAny_isInstance ⟨o,ho,hcl⟩ isSubtype_tuple_tuple ?_)
 dsimp only
 rw[if_pos rfl]
 refine wpAny_bind (wpAny_seqItems ho hd ?_)
 dsimp only[Option.getD_some,Option.getD]
 refine wpAny_bind (wpAny_pure ?_)
 refine wpAny_bind (qBh (fun c hc R hR=>?_) ?_)
 ·obtain⟨D,hD,rfl⟩:=List.mem_map.mp hc
  obtain⟨bm',y⟩:=ys D hD
  refine wpAny_bind (qHd y ?_)
  rw[if_neg (by decide)]
  exact wpAny_pure hR
 refine wpAny_bind (wpAny_typeOf_ref he ?_)
 rw[hc]
 refine wpAny_bind (qBh (fun c hc R hR=>?_) ?_)
 ·obtain⟨D,hD,rfl⟩:=List.mem_map.mp hc
  refine wpAny_bind (qRw x ?_)
  rw[no D hD,if_neg (by decide)]
  exact wpAny_pure hR
 exact wpAny_pure hq
end
section
variable {X:Cx}{pins:List (Addr×Obj)}{σ:St}{H:Hp}{s:Shared}
noncomputable def xRow2 (base:Heap)(C0:Addr)(i:Nat)(cs:List Addr)(ts:TS)(D:Ends):XE:=fun σ1 cls H1=>∃C bm,cls=.ref C∧ExcAt base C bm∧(∀D∈cs,(Value.ref C::bm).contains (.ref D)=false)∧(Value.ref C::bm).contains (.ref C0)=true∧
 ∀x T p,H1 x=none→H1 T=none→T≠x→held H1 x T (.ref C) p=none→ts (D.drop i) (σ1.set i (some (.ref x))) (upd (held H1 x T (.ref C)) p (.tup (cs.map V.ref)))
noncomputable def tTry2 (base:Heap)(C0:Addr)(i:Nat)(cs:List Addr)(tb:XE→TS)(ts:TS):TS:=fun D σ H=>tb (xRow2 base C0 i cs ts D) D σ H
noncomputable def tRefs (cs:List Addr):TE:=fun _ H Q=>∀p,H p=none→Q (.ref p) (upd H p (.tup (cs.map V.ref)))
theorem qPz {outer:List Env}{body suite suite1:List Stmt}{b0 b1:Stmt}{tup:Expr}{cs:List Addr}{C0:Addr}{bm0:List Value}{cn n:Str}{np hpos hpos1 pos:Pos}{i:Nat}{tb:XE→TS}{ts:TS}(hex:X.ex=[])(hst:X.stack=X.env::outer)(hf:X.env.frame=some X.env.locals)
  (hN:X.N.Nodup) (hi:X.N[i]? = some n) (hk:X.env.scope.names.lookup n=some .local) (hg:Gl X cn) (hm:X.mg cn=some (.ref C0)) (c2:ExcAt X.base C0 bm0) (ys:∀D∈cs,∃bm',ExcAt X.base D bm') (ht:∀x,PE (X.row (.ref x)) tup (tRefs cs)) (hb:PXs X body tb) (hs:∀x,PSs (X.row (.ref x)) (b0::suite) ts) (hdb:(cn == ("__debug__" : Str))=false:=by decide):
  PS X (.Try body [.ExceptHandler (some tup) none (b1::suite1) hpos1,.ExceptHandler (some (.Name cn np)) (some n) (b0::suite) hpos] [] [] pos) (tTry2 X.base C0 i cs tb ts):=by
 intro pins s σ H D I h
 rw[arm_exec_Try]
 refine wpAny_bind (wpAny_standAt (qMq (wpAny_mono (hb pins s σ H D _ I h) (fun f s1 q=>?_) fun e s1 q=>?_)))
 ·cases f with
  | next=>exact wpAny_execs_nil q
  | _=>exact q
 ·refine q.caught hex hst hf fun x T cls σ1 H1 h' ee hx hT ne ⟨C,bm,ec,c1,no,hit,q1⟩ J=>?_
  subst ee ec
  have JR:=J.row (.ref x)
  refine wpAny_handleBy_cons (codeAny_handlers_test ?_) (by intro z;cases z)
  refine wpAny_mono (ht x pins _ σ1 _ (fun v H2=>∃p,v=.ref p∧held H1 x T (.ref C) p=none∧H2=upd (held H1 x T (.ref C)) p (.tup (cs.map V.ref))) JR fun p hp=>⟨p,rfl,hp,rfl⟩) (fun v s2 ⟨y,H2,I2,r2,p,ey,hp,e2⟩=>?_) fun _ _ z=>False.elim z
  subst ey e2
  cases r2
  have ex:upd (held H1 x T (.ref C)) p (.tup (cs.map V.ref)) x=some (.ext (IsExc x T (.ref C))):=by
   have e0:held H1 x T (.ref C) x=some (.ext (IsExc x T (.ref C))):=qW
   rw[qA (qB e0 hp)];exact e0
  have eT:upd (held H1 x T (.ref C)) p (.tup (cs.map V.ref)) T=some (.ext (IsEnt T)):=by
   have e0:held H1 x T (.ref C) T=some (.ext (IsEnt T)):=(qA ne).trans (qW ..)
   rw[qA (qB e0 hp)];exact e0
  obtain⟨⟨oe,vs,f1,f2,f3,f4⟩,_⟩:=I2.hok x _ ex
  obtain⟨_,its,rv,tx⟩:=I2.hok p _ (qW (H:=held H1 x T (.ref C)) (a:=p) (o:=.tup (cs.map V.ref)))
  have ei:its=cs.map Value.ref:=by
   have:∀(l:List Addr) (us:List Value),Vals (l.map V.ref) us→us=l.map Value.ref:=by
    intro l
    induction l with
    | nil=>intro us z;cases z;rfl
    | cons a l ih=>
     intro us z
     cases z with
     | cons r t=>cases r;rw[ih _ t];rfl
   exact this cs its rv
  rw[ei] at tx
  refine qVj (c1.keeps I2.bk) (fun D hD=>let ⟨b,y⟩:=ys D hD;⟨b,y.keeps I2.bk⟩) tx.tup f1 f2 no ?_
  exact qSg (I2.unrow J.ok) ex eT hN hi hk hg hm c1 c2 hit (hs x) (q1 x T p hx hT ne hp) hdb
end
end L2

namespace L2
open PySem PySem.Spec PyProof.Rows
section
variable {X:Cx}
noncomputable def rSlS:V→Option Int→Option Int→Hp→VK→Prop:=fun x lo hi H Q=>∃z:Str,x=.str z∧z.length≤1000000∧Q (.str (Txt.slice z lo hi)) H
theorem qBb {v:Value}{o:Option Int}(h:IsPart v o):∃p:Option (Int×Tok),v=partValue p∧p.map (·.1)=o:=by
 cases h with
 | none=>exact⟨none,rfl,rfl⟩
 | int i t=>exact⟨some (i,t),rfl,rfl⟩
theorem qKc:SlR X rSlS:=by
 intro pins s σ H x v vl vu lo hi sl Q I rx hs pl pu h
 obtain⟨z,rfl,hz,q⟩:=h
 obtain⟨t,rfl⟩:=rx
 obtain⟨l,rfl,rfl⟩:=qBb pl
 obtain⟨u,rfl,rfl⟩:=qBb pu
 have sz:sizeLine=16777216:=sizeLine_eq
 refine⟨"str",_,F.slot_str_getitem.lookup,typeIs_str _ _ _,wpAny_getItem_str_slice (l:=l) (u:=u) (st:=none) hs rfl ?_⟩
 exact post_val_or_str ⟨Nat.le_trans (Txt.slice_le z _ _) (by omega),fun t' k=>⟨.str _,H,I.tok _,⟨_,rfl⟩,q⟩⟩
end
end L2

namespace L2
open PySem PySem.Spec PyProof.Rows
section
variable {X:Cx}{tg:Expr}
end
section
variable {k:Nat}{js:List Nat}{g:TG}{tt:TT}{te:TE}{σ:St}{H1:Hp}{Q:VK}
end
end L2
namespace HT
open PySem PySem.Spec PyProof.Rows
section
variable {prog:Program}{w:World}{A:Around}{E:Value→Shared→Prop}{s:Shared}
end
end HT
namespace L2
open PySem PySem.Spec PyProof.Rows
end L2

namespace L2
open PySem PySem.Spec PyProof.Rows
theorem qIj (a b:Str):(a++b).cps.toList=a.cps.toList++b.cps.toList:=by
 show(a.cps++b.cps).toList=_
 rw[Array.toList_append]
end L2

namespace L2
open PySem PySem.Spec PyProof.Rows
theorem Dx.calm {P:Program}{w:World}{K:PySem.W.Frag}{mg:Str→Option Value}{base:Heap}{x:Str}{k:Nat}{ps:List Str}{sp:Sp}(D:Dx P w K mg base x k ps sp):Dn P w K mg base x k ps (fun vs H Q _=>sp vs H Q fun _ _ _=>False):=by
 obtain⟨f,fd,F,a,b,c⟩:=D.ex
 refine⟨f,fd,⟨fun vs H Q E h=>F.len vs H Q _ h,fun A outer s H args us vs Q E hr e hb r h=>?_⟩,a,b,c⟩
 refine codeAny_mono (F.run A outer s H args us vs Q _ hr e hb r h) fun a s' hq=>?_
 match a,hq with
 | .error _,hq=>obtain⟨_,_,_,_,_,_,_,_,_,_,_,_,_,_,z⟩:=hq;exact z.elim
 | .ok (.ret _),hq=>exact hq
theorem PE.wk {X:Cx}{e:Expr}{t t':TE}(h:PE X e t)(k:∀σ H Q,t' σ H Q→t σ H Q):PE X e t':=fun pins s σ H Q I q=>h pins s σ H Q I (k σ H Q q)
end L2

namespace PySem
section
variable {prog:Program}{w:World}{κ:Type}[DecidableEq κ]{knd:KeyKind prog w κ}
noncomputable def cntBy (key:Nat→κ):Nat→Nat
 | 0=>0
 | i+1=>if metBy key i (key i)=true then cntBy key i else cntBy key i+1
theorem qXx (key:Nat→κ):∀i,cntBy key i≤i
 | 0=>Nat.le_refl _
 | i+1=>by
  have:=qXx key i
  unfold cntBy
  split <;> omega
theorem qCj (key:Nat→κ):∀i,cntBy key i=i↔∀a b,a<b→b<i→key a≠key b
 | 0=>⟨fun _ a b _ h=>absurd h (Nat.not_lt_zero _),fun _=>rfl⟩
 | i+1=>by
  have l:=qXx key i
  have ih:=qCj key i
  have m:metBy key i (key i)=true↔∃j,j<i∧key j=key i:=by
   unfold metBy
   rw[List.any_eq_true]
   exact⟨fun⟨j,hj,e⟩=>⟨j,List.mem_range.mp hj,of_decide_eq_true e⟩,fun⟨j,hj,e⟩=>⟨j,List.mem_range.mpr hj,decide_eq_true e⟩⟩
  unfold cntBy
  by_cases h:metBy key i (key i)=true
  ·rw[if_pos h]
   obtain⟨j,hj,e⟩:=m.mp h
   exact⟨fun z=>by omega,fun z=>absurd e (z j i hj (Nat.lt_succ_self _))⟩
  ·rw[if_neg h]
   constructor
   ·intro z a b ab bi e
    rcases Nat.lt_or_ge b i with lt | ge
    ·exact ih.mp (by omega) a b ab lt e
    ·obtain rfl:b=i:=by omega
     exact h (m.mpr ⟨a,ab,e⟩)
   ·intro z
    have:=ih.mpr fun a b ab bi=>z a b ab (by omega)
    omega
variable {A:Around}{R:Result→Shared→Prop}{I:Addr}{fp wr:List Addr}{G:Array GenState→Array GenState→Prop}{n:Nat}{P:Nat→Value→Prop}{St:Nat→Shared→Prop}
theorem qFk (W:WalksS prog w A.in1 I fp wr G n P St)(T:Addr)(hT:T∉fp)(key:Nat→κ)(hkey:∀i v,P i v→knd.is (key i) v=true∧v.scannable=true)(hb:n+1<scanBound):
  ∀(k i:Nat) (s:Shared),n - i=k→i≤n→St i s→s.heap.SetOf knd T (metBy key i) (cntBy key i)→(∀s',Moved (T::wr) G s s'→s'.heap.SetOf knd T (metBy key n) (cntBy key n)→R (.ok (.ret .none)) s')→
   codeAny (model prog w) A (.builtin "set.update.loop" ⟨[.ref T,.ref I],[]⟩) R s:=by
 have hTw:T∉wr:=fun z=>hT (W.sub _ z)
 have up:∀b∈wr,b∈T::wr:=fun b z=>List.mem_cons_of_mem _ z
 have carry:∀{s s':Shared} {S:κ→Bool} {m:Nat},Moved wr G s s'→s.heap.SetOf knd T S m→s'.heap.SetOf knd T S m:=fun mv ⟨o,es,ep,t,e,r⟩=>⟨o,es,ep,t,mv.heap T _ hTw e,r⟩
 intro k
 induction k with
 | zero=>
  intro i s hk hi st hS hR
  obtain rfl:i=n:=by omega
  refine codeAny_builtin PyProof.Rows.F.entry_set_update_loop ?_
  rw[Around.under_plainId PyProof.Rows.F.plain_set_update_loop _]
  refine wpAny_bind (m:=pyNext (.ref I)) (W.done s _ _ st fun s' mv=>?_)
  exact wpAny_pure (hR s' (mv.mono up) (carry mv hS))
 | succ k ih=>
  intro i s hk hi st hS hR
  have lt:i<n:=by omega
  refine codeAny_builtin PyProof.Rows.F.entry_set_update_loop ?_
  rw[Around.under_plainId PyProof.Rows.F.plain_set_update_loop _]
  refine wpAny_bind (m:=pyNext (.ref I)) (W.item i s _ _ lt st fun v s' hP st' mv=>?_)
  obtain⟨hv,sc⟩:=hkey i v hP
  have hS1:=carry mv hS
  refine wpAny_bind (m:=holding [v] (setAdd T v)) (wpAny_holding ?_)
  unfold setAdd
  refine wpAny_holding (wpAny_bind (knd.pyHash (k:=key i) hv ?_))
  refine wpAny_setAddHashed_of (knd:=knd) (s:={ s' with toks:=s'.toks+1 }) hv sc hS1 (by have:=qXx key i;omega) fun h' sb hS2=>?_
  have hS3:h'.SetOf knd T (metBy key (i+1)) (cntBy key (i+1)):=by
   refine qBk hS2 (fun x=>(qDk key i x).symm) ?_
   rw[cntBy]
  refine wpAny_pure ⟨plainId_quiet PyProof.Rows.F.plain_set_update_loop _,ih (i+1) _ (by omega) lt (W.frame _ s' _ _ st' (Nat.le_succ _) fun b hb' o e=>?_) hS3 fun s'' mv2 hS4=>?_⟩
  ·rw[sb.2 b (fun z=>hT (z▸hb'))];exact e
  ·refine hR s'' (Moved.trans W.gtrans ((mv.mono up).then_heap (Nat.le_succ _) fun b o hb' e=>?_) mv2) hS4
   rw[sb.2 b (fun z=>hb' (z▸List.mem_cons_self))];exact e
end
section
variable {prog:Program}{w:World}{κ:Type}[DecidableEq κ]{knd:KeyKind prog w κ}{A:Around}{E:Value→Shared→Prop}{s:Shared}
theorem qZn {l:Addr}{items:Array Value}{key:Nat→κ}{Q:Value→Shared→Prop}(hh:A.handled=none)(hl:s.heap.IsList l items)(hkey:∀(i:Nat) v,items[i]? = some v→knd.is (key i) v=true∧v.scannable=true)
  (hb:items.size+1<scanBound)
  (fin:∀(h':Heap) (tk:Nat),h'.SetOf knd s.heap.objs.size (metBy key items.size) (cntBy key items.size)→(∀b o,s.heap.get? b=some o→h'.get? b=some o)→Q (.ref s.heap.objs.size) { s with heap:=h',toks:=tk }):
  wpAny (model prog w) A (call (.type "set") [.ref l]) Q E s:=by
 obtain⟨c0,tl0,m0⟩:=F.called_set.mro
 have m1:=F.called_set.made
 have m2:=F.called_set.sub
 refine wpAny_call (codeAny_of_tree ?_)
 show wpAny _ _ (callAny (.type "set") _) _ _ _
 refine wpAny_pure ⟨Code.quiet_builtin _ (by decide +kernel),codeAny_builtin F.entry_type_call ?_⟩
 rw[Around.under_plain (weight_type_call_type "set" [.ref l] []) rfl]
 have m3:=F.called_set.notType
 have m4:=F.called_set.canCreate
 have m5:=F.typeCall_set_1 (.ref l)
 repeat (any_goals (first | assumption | wp_step))
 refine codeAny_mono (code_set_new_1 (.ref l) (E:=E) (Q₁:=fun obj s₁=>∃led:Bool,obj=.ref s.heap.objs.size∧s₁={ s with heap:=s.heap.push (setObj led) }) fun led=>⟨led,rfl,rfl⟩) fun r s₁ hr=>?_
 cases r with
 | error e=>exact hr
 | ok fl=>
 cases fl with
 | ret obj=>
  obtain⟨led,rfl,rfl⟩:=hr
  have at0:(s.heap.push (setObj led)).get? s.heap.objs.size=some (setObj led):=Heap.get?_push_size _ rfl
  have ty0:Shared.TypeIs { s with heap:=s.heap.push (setObj led) } (.ref s.heap.objs.size) "set" := ⟨_,at0,rfl⟩
  have m6:=F.called_set.init.lookup
  have m7:=F.called_set.init.bind (.ref s.heap.objs.size)
  repeat (any_goals (first | assumption | wp_step))
  refine codeAny_mono (codeAny_call_builtin (R:=wants (fun r s₂=>r=.none∧∃h' tk,s₂={ s with heap:=h',toks:=tk }∧h'.SetOf knd s.heap.objs.size (metBy key items.size) (cntBy key items.size)∧(∀b o,s.heap.get? b=some o→h'.get? b=some o)) E)
   F.called_set.init.plain F.entry_set_init (check_set_init_1 ty0 ?_)) fun r₂ s₂ hr₂=>?_
  ·obtain⟨⟨oc,od,oda,osl⟩,g,kc,nl,kd⟩:=hl
   simp only at kc kd
   subst kc kd
   have g1:(s.heap.push (setObj led)).get? l=some { cls:=.type "list",dict:=od,data:=.seq items nl,slots:=osl }:=Heap.get?_push_of_some _ g
   have n1:=F.sub_list_set
   have n2:=F.sub_list_frozenset
   have n3:(Value.type "list" == Value.type "dict")=false:=by decide
   have l1:(s.heap.push (setObj led)).IsList l items:=⟨_,g1,rfl,nl,rfl⟩
   unfold Builtin.«set.__init__» noKeywords Builtin.Frozenset.updateFrom
   generalize hPI:pyIter=PI
   wp_walk
   subst hPI
   refine wpAny_pyIter_list l1 (wpAny_bind (wpAny_runValue ?_))
   have lt:l<s.heap.objs.size:=Heap.lt_size g
   have sz:(s.heap.push (setObj led)).objs.size=s.heap.objs.size+1:=Heap.size_push _ _
   have ne1:l≠(s.heap.push (setObj led)).objs.size:=by rw[sz];exact Nat.ne_of_lt (Nat.lt_succ_of_lt lt)
   have out:s.heap.objs.size∉[(s.heap.push (setObj led)).objs.size,l]:=by
    rw[sz]
    intro z
    simp only[List.mem_cons,List.not_mem_nil,or_false] at z
    rcases z with z | z
    ·exact absurd z (Nat.ne_of_lt (Nat.lt_succ_self _))
    ·exact absurd z (Nat.ne_of_gt lt)
   refine qFk ((Walks.list (by simp[hh]) _ l ne1 items).toS) s.heap.objs.size out key hkey hb (items.size - 0) 0 _ (by omega) (Nat.zero_le _) ⟨⟨_,Heap.get?_push_size _ rfl,rfl,rfl⟩,(l1.push _)⟩ ?start ?done
   case start=>
    refine qBk ((PyProof.Rows.setObjOf_fresh (knd:=knd) led).setOf (Heap.get?_push_of_some _ at0) (by unfold scanBound;omega)) (fun _=>rfl) rfl
   case done=>
    intro s' mv hS'
    obtain⟨h',g',d',tk',os'⟩:=s'
    obtain rfl:g'=s.gens:=mv.gens
    obtain rfl:d'=s.drawn:=mv.drawn
    obtain rfl:os'=s.os:=mv.os
    refine wpAny_pure ?_
    refine wpAny_pure ⟨rfl,h',tk',rfl,hS',fun b o e=>?_⟩
    have lb:=Heap.lt_size e
    refine mv.heap b o (fun z=>?_) (Heap.get?_push_of_some _ (Heap.get?_push_of_some _ e))
    simp only[List.mem_cons,List.not_mem_nil,or_false] at z
    rcases z with z | z
    ·exact absurd z (Nat.ne_of_lt lb)
    ·exact absurd z (by rw[sz];exact Nat.ne_of_lt (Nat.lt_succ_of_lt lb))
  ·cases r₂ with
   | error e=>exact hr₂
   | ok fl₂=>
   cases fl₂ with
   | ret r=>
    obtain⟨rfl,h',tk,rfl,hS',keep⟩:=hr₂
    repeat (any_goals (first | assumption | wp_step))
    exact fin _ _ hS' keep
   | _=>exact hr₂.elim
 | _=>exact hr.elim
end
end PySem

namespace L2
open PySem PySem.Spec PyProof.Rows
noncomputable def qOm (P:Program)(w:World)(K:PySem.W.Frag):List V→Hp→VK→Prop:=fun xs H Q=>∃(l:Addr) (ws:List Str),xs=[.ref l]∧SqL K H l (ws.map V.str)∧ws.length≤1000∧∀p n,H p=none→n≤ws.length→(n=ws.length↔ws.Nodup)→Q (.ref p) (upd H p (SetN P w p n))
section
variable {X:Cx}{P:Program}{w:World}{K:PySem.W.Frag}
theorem qIw (hc:X.calm=true)(hP:X.prog=P:=by rfl)(hw:X.w=w:=by rfl)(hK:X.K=K:=by rfl):CallR X (.type "set") (qOm P w K):=by
 subst hK hP hw
 intro pins s σ H xs us Q I r h
 obtain⟨l,ws,rfl,hl,hz,q⟩:=h
 obtain⟨u,rfl,ru⟩:=vals1 r
 cases ru
 obtain⟨its,r1,p1,_⟩:=I.list hl
 have len:=r1.length
 rw[List.length_map] at len
 have l1:its.toArray.size=ws.length:=by simp[len]
 have sc:scanBound=4096:=rfl
 refine qZn (knd:=jA X.prog X.w) (key:=fun i=>Sum.inr (ws.getD i "")) (I.ok.hd hc) p1.isList (fun i v e=>?_) (by omega) fun h' tk hS keep=>?_
 ·have hi:i<ws.length:=by
   have:=(Array.getElem?_eq_some_iff.mp e).1
   omega
  have e0:(ws.map V.str)[i]? = some (.str ws[i]):=by rw[List.getElem?_map,List.getElem?_eq_getElem hi];rfl
  obtain⟨u,e1,q1⟩:=r1.get e0
  have:its.toArray[i]? = some u:=by simpa using e1
  rw[this] at e
  cases e
  obtain⟨t,rfl⟩:=q1
  have d:ws.getD i "" = ws[i]:=by rw[List.getD_eq_getElem?_getD,List.getElem?_eq_getElem hi];rfl
  rw[d]
  exact⟨kM _ _ _ t,rfl⟩
 ·rw[l1] at hS
  have hn:=qCj (fun i=>(Sum.inr (ws.getD i ""):Int ⊕ Str)) ws.length
  have hle:=qXx (fun i=>(Sum.inr (ws.getD i ""):Int ⊕ Str)) ws.length
  generalize cntBy (fun i=>(Sum.inr (ws.getD i ""):Int ⊕ Str)) ws.length=n at hS hn hle
  refine⟨.ref s.heap.objs.size,_,I.laid (t':=tk) (o:=SetN X.prog X.w s.heap.objs.size n) keep (Nat.le_refl _) ⟨⟨_,hS⟩,?_,?_⟩,rfl,q _ _ (I.hok.fresh (Nat.le_refl _)) hle ?_⟩
  ·obtain⟨o,_,_,_,e,_⟩:=hS
   exact⟨o,e⟩
  ·rintro h1 h2 ⟨S,o,es,ep,t,e,r⟩ k
   exact⟨S,o,es,ep,t,k o e,r⟩
  ·rw[hn,List.Nodup,List.pairwise_iff_getElem]
   constructor
   ·intro z a b ha hb ab e
    refine z a b ab hb (congrArg Sum.inr ?_)
    rw[List.getD_eq_getElem?_getD,List.getD_eq_getElem?_getD,List.getElem?_eq_getElem ha,List.getElem?_eq_getElem hb,e]
   ·intro z a b ab hb e
    have ha:a<ws.length:=by omega
    have e':=Sum.inr.inj e
    rw[List.getD_eq_getElem?_getD,List.getD_eq_getElem?_getD,List.getElem?_eq_getElem ha,List.getElem?_eq_getElem hb] at e'
    exact z a b ha hb ab e'
end
end L2

namespace L2
open PySem PySem.Spec PyProof.Rows
section
variable {prog:Program}{w:World}{A:Around}{E:Value→Shared→Prop}
theorem qVd {it l:Addr}{items:Array Value}(hne:l≠it):∀(n i:Nat) (s:Shared) (Q:List Value→Shared→Prop),s.heap.IsListIter it l i→s.heap.IsList l items→i+n≤items.size→
  (∀h',h'.IsListIter it l (i+n)→Heap.SameBut it s.heap h'→Q ((items.toList.drop i).take n) { s with heap:=h' })→wpAny (model prog w) A (draw (.ref it) n) Q E s
 | 0,i,s,Q,hit,_,_,hQ=>by
  show wpAny _ _ (pure []) Q E s
  exact wpAny_pure (by simpa using hQ s.heap hit (Heap.SameBut.refl ..))
 | n+1,i,s,Q,hit,hl,hle,hQ=>by
  have lt:i<items.size:=by omega
  show wpAny _ _ (pyNext (.ref it) >>= _) Q E s
  refine wpAny_bind (wpAny_pyNext_list_item hit hl (x:=items[i]) (by simp[lt]) fun h1 hit1 s1=>?_)
  refine wpAny_bind (wpAny_holding (qVd hne n (i+1) _ _ hit1 (items:=items) (let ⟨o,ho,r⟩:=hl;⟨o,(s1.2 l hne).trans ho,r⟩) (by omega) fun h2 hit2 s2=>wpAny_pure ?_))
  have hd:items.toList.drop i=items[i]::items.toList.drop (i+1):=by simp[List.drop_eq_getElem_cons,lt]
  have:=hQ h2 (by rw[show i+(n+1)=i+1+n by omega];exact hit2) (s1.trans s2)
  rw[hd,List.take_succ_cons] at this
  exact this
theorem qWk {s:Shared}{l:Addr}{items:Array Value}{Q:List Value→Shared→Prop}(hh:A.handled=none)(hl:s.heap.IsList l items)
  (hQ:∀h',Heap.ExtBut s.heap.objs.size s.heap h'→Q items.toList { s with heap:=h' }):wpAny (model prog w) A (unpackItems (.ref l) items.size none) Q E s:=by
 have hlt:l≠s.heap.objs.size:=by obtain⟨o,ho,_⟩:=hl;exact Nat.ne_of_lt (Heap.lt_size ho)
 unfold unpackItems
 refine wpAny_bind ?_
 ·unfold notIterableAtAll
  refine wpAny_bind (wpAny_specialOf hl.typeIs slot_list_iter.lookup ?_)
  refine wpAny_pure ?_
  simp only[Bool.false_eq_true,if_false]
  refine wpAny_bind (wpAny_holding (wpAny_pyIter_list hl ?_))
  refine wpAny_bind (wpAny_holding (qVd hlt items.size 0 _ _ ⟨_,Heap.get?_push_size _ rfl,rfl,rfl⟩ (hl.push _) (by omega) fun h1 hit1 s1=>?_))
  have all:List.take items.size (List.drop 0 items.toList)=items.toList:=by
   rw[List.drop_zero];exact List.take_of_length_le (by simp)
  rw[all]
  rw[if_neg (by simp)]
  have hl1:h1.IsList l items:=let ⟨o,ho,r⟩:=hl.push { cls:=.type "list_iterator",data:=.fields #[.ref l,.int 0 0] };⟨o,(s1.2 l hlt).trans ho,r⟩
  refine wpAny_bind (wpAny_holding (wpAny_pyNext_list_end hh hit1 hl1 (by simp) fun h2 e2=>?_))
  simp only[Option.isSome_none,Bool.false_eq_true,if_false]
  exact wpAny_pure (hQ h2 fun b o hb e=>e2 b o hb (s1.extBut b o hb (Heap.get?_push_of_some _ e)))
end
noncomputable def gLst (K:PySem.W.Frag)(n:Nat)(t:TGs):TG:=fun v σ H Q=>∃a xs,v=.ref a∧SqL K H a xs∧xs.length=n∧t xs σ H Q
section
variable {X:Cx}{K:PySem.W.Frag}{pos:Pos}
theorem qPv {es:List Expr}{k:Nat}{t:TGs}{n:Nat}(hc:X.calm=true)(h:PGs X es t)
  (hn:(assignEach es X.env).length=n:=by rfl) (hst:(assignEach es X.env).findIdx? (·.1)=none:=by rfl) (hK:X.K=K:=by rfl):PG X (.Tuple es k pos) (gLst K n t):=by
 subst hK
 intro pins s σ H v u Q I r hw
 obtain⟨a,xs,e1,hq,hl,hw⟩:=hw
 subst e1
 cases r
 obtain⟨its,rv,ht,hz⟩:=I.list hq
 have len:=rv.length
 rw[assign_Tuple]
 refine wpAny_bind (wpAny_standAt ?_)
 unfold unpack
 rw[hst,show(assignEach es X.env).length=its.toArray.size by simp[hn,← hl,len]]
 refine wpAny_bind (wpAny_holding (qWk (I.ok.hd hc) ht.isList fun h' hx=>?_))
 have I1:Inv X pins σ H { s with heap:=h' }:=I.kept (t':=s.toks) fun b o e=>hx b o (Nat.ne_of_lt (Heap.lt_size e)) e
 exact h pins _ σ H xs _ Q I1 (by simpa using rv) hw
end
end L2

namespace L2
open PySem PySem.Spec PyProof.Rows
noncomputable def rNeT (K:PySem.W.Frag):R2:=fun x y H Q=>∃n a b xs ys,n≤60∧x=.ref a∧y=.ref b∧SqT K H a xs∧SqT K H b ys∧xs.length=ys.length∧(∀(j:Nat) x y,xs[j]? = some x→ys[j]? = some y→DEq K H n x y)∧Q (.bl false) H
theorem qGq {X:Cx}{K:PySem.W.Frag}(hu:X.A.units+64<cLine)(hK:X.K=K:=by rfl):OpR X (compareOp .NotEq) (rNeT K):=by
 subst hK
 intro pins s σ H x y v u Q I rx ry h
 obtain⟨n,a,b,xs,ys,hn,rfl,rfl,ha,hb,hl,hd,q⟩:=h
 cases rx;cases ry
 obtain⟨its,r1,p1,_⟩:=I.tuple ha
 obtain⟨its2,r2,p2,_⟩:=I.tuple hb
 have sz:its.toArray.size=its2.toArray.size:=by rw[List.size_toArray,List.size_toArray,← r1.length,← r2.length,hl]
 refine SeqAt.RcNeAt.tuples (e:=fun _=>true) p1 p2 (by omega) (qZv I r1 r2 hl hd (by show X.A.units+1+n<cLine;omega)) _ _ _ _ ?_
 rw[wM,sz,Bool.true_and,beq_self_eq_true]
 exact⟨.bl false,H,I,rfl,q⟩
end L2

local macro_rules | `(tactic| wtm_at "zh")=>`(tactic| first | assumption | exact L2.qW | (refine L2.qV (by assumption) _ _ _ ?_;wtm_at "zh") | (refine(show L2.Same _ _ by assumption) _ _ ?_;wtm_at "zh"))
local macro_rules | `(tactic| wtm_at "zs")=>`(tactic| first | assumption | exact L2.SqT.of (by wtm_at "zh") | exact L2.SqL.of (by wtm_at "zh") | (refine L2.Same.seq (by assumption) ?_;wtm_at "zs"))
local macro_rules | `(tactic| wtm_at "zo")=>`(tactic| first | exact Or.inl rfl | exact Or.inr rfl)
local macro_rules | `(tactic| wtm_at "zat")=>`(tactic| first | rfl | assumption | exact L2.qZg _ _ | exact FP.qCa (by assumption) | exact L2.jR (by assumption))
local macro_rules | `(tactic| wtm_at "zw")=>`(tactic| repeat first
 | (with_reducible first | apply L2.qEb | apply L2.qUo | apply L2.w_c | apply L2.qYm | apply L2.w_op | apply L2.w_un | apply L2.w_I0 | apply L2.w_U | apply L2.qRl | apply L2.w_B | apply L2.w_bl | apply L2.qUn | apply L2.w_not | apply L2.w_and | apply L2.w_or | apply L2.qSa | apply L2.qSq | apply L2.w_if | apply L2.qUl | apply L2.qSj | apply L2.qUe | apply L2.qAi | apply L2.qSk | apply L2.qUf | apply L2.qSw | apply L2.w_cb | apply L2.qUd | apply L2.qUg | apply L2.w_bm | apply L2.w_sl | apply L2.qIn | apply L2.qRo | apply L2.qSz | apply L2.qOd | apply L2.qOc | apply L2.qRn)
 | ((with_reducible show L2.tVar _ _ _ _);refine L2.w_var rfl ?_)
 | ((with_reducible show L2.rEq _ _ _ _);refine L2.w_eq rfl ?_)
 | ((with_reducible show L2.rNe _ _ _ _);refine L2.w_ne rfl ?_)
 | ((with_reducible show L2.rIxT _ _ _ _ _);refine L2.qUh (by wtm_at "zs") (by wtm_at "zat") ?_)
 | ((with_reducible show L2.rIxL _ _ _ _ _);refine L2.qUi (by wtm_at "zs") (by wtm_at "zat") ?_)
 | ((with_reducible show L2.gTup _ _ _ _ _ _ _);refine L2.qSx (by wtm_at "zs") rfl ?_)
 | ((with_reducible show L2.rLen _ _ _ _);refine L2.w_len (by first | exact .inl (by wtm_at "zs") | exact .inr (by wtm_at "zs")) ?_)
 | apply L2.zF (FP.jZ _)
 | refine L2.zY (FP.xW (by assumption)) ?_
 | refine L2.zY (FP.xW (by decide +kernel)) ?_
 | (with_reducible first | apply L2.iteT | apply L2.iteF | apply L2.iteNT))
local macro_rules | `(tactic| wtm_at "zf")=>`(tactic| wtm_at "zw";(with_reducible first | apply L2.qUm | apply L2.qSv);wtm_at "zw")
set_option tactic.hygienic false
namespace FP
open PySem L2
structure Bl (mg:Str→Option Value):Prop where
 len':mg "len" = none
 range':mg "range" = none
 min':mg "min" = none
 isinstance':mg "isinstance" = none
 list':mg "list" = none
 reversed':mg "reversed" = none
 tuple':mg "tuple" = none
 int':mg "int" = none
 bool':mg "bool" = none
 dict':mg "dict" = none
 zip':mg "zip" = none
structure FunE (K:PySem.W.Frag)(mg:Str→Option Value)(x:Str)(f:Addr)(fd:FuncData)(ps:List Str):Prop where
 mg:mg x=some (.ref f)
 kp:PySem.W.keepIn K (.ref f)=true
 bd:Binds K fd ps []
section
seal L2.PE L2.PA L2.PS L2.PSs
variable {P:Program}{w:World}{K:PySem.W.Frag}{mg:Str→Option Value}{base:Heap}

theorem qTd {n:Int}{B:Nat}(h0:0≤n)(h:n<(B:Int)):n.natAbs<B:=by omega
theorem big (n:Int)(h0:0≤n)(h:n<10 ^ 200):n.natAbs<2 ^ 1000:=qTd h0 (Int.lt_of_lt_of_le h (by decide +kernel))
theorem qJw {a b c d:Int}(ha:0≤a)(hb:0≤b)(h1:a≤c)(h2:b≤d):0≤a * b∧a * b≤c * d:=
 ⟨Int.mul_nonneg ha hb,Int.mul_le_mul h1 h2 hb (Int.le_trans ha h1)⟩

theorem qFm {t u:TT}{σ:St}{H:Hp}{b1 b2:Bool}(h1:∀K:Bool→Hp→Prop,K b1 H→t σ H K)(h2:∀K:Bool→Hp→Prop,K b2 H→u σ H K):∀K:Bool→Hp→Prop,K (b1 || b2) H→tOr t u σ H K:=fun K h=>by
 refine h1 _ ?_
 cases b1 with
 | true=>rw[if_pos rfl];rw[Bool.true_or] at h;exact h
 | false=>rw[if_neg Bool.false_ne_true];rw[Bool.false_or] at h;exact h2 _ h

theorem qXb:xM ["deck","many","taken"] ["deck","many"] (xB (top 38)):=⟨rfl,rfl,rfl,by decide +kernel,rfl,by decide +kernel,by decide +kernel⟩
noncomputable def spTake:Sp:=fun vs H Q _=>∃(dk:Addr) (m de:Int),vs=[.ref dk,.int m]∧H dk=some (.lst [.int de])∧0<m∧m.natAbs<2 ^ 1000∧∀x d':Int,0≤x→x<m→Q (.int x) (upd H dk (.lst [.int d']))
theorem qPg {f:Addr}{fd:FuncData}(F:Fun K "_law_take" "_law_take" (top 38) f fd):FnOk P w K mg base CX0 1 f fd ["deck","many"] spTake:=by
 refine F.ok qXb (fun vs H Q E h=>?_) (fun cdv A outer s H vs Q E hr h=>?_)
 ·obtain⟨dk,m,de,rfl,_⟩:=h
  rfl
 obtain⟨dk,m,de,rfl,hd,h0,h1,q⟩:=h
 refine⟨_,(qZ (qN (i:=2) qXb.nd rfl (by wtm_at "zo") (xX xT (xH (qU (K:=K)) (pv 0) qF (fun _ _=>rfl)) (pv 1)))
  (qZ (qP (xX xO (xH (qU (K:=K)) (pv 0) qF (fun _ _=>rfl)) (pv 1)) (qSl (pv 0) qF qMw))
  (qJ (qO (pv 2))))),?_⟩
 refine⟨_,rfl,dk,_,0,.int de,rfl,rfl,SqL.of hd,rfl,_,rfl,de,m,rfl,rfl,h0,?_⟩
 refine⟨_,rfl,dk,_,0,.int de,rfl,rfl,SqL.of hd,rfl,_,rfl,de,m,rfl,rfl,⟨h0,h1⟩,?_⟩
 refine⟨_,rfl,dk,[.int de],0,0,rfl,rfl,hd,rfl,?_⟩
 exact⟨_,rfl,q _ _ (Int.emod_nonneg _ (by omega)) (Int.emod_lt_of_pos _ h0)⟩

theorem qZi:xM ["script","k"] ["script","k"] (xB (top 34)):=⟨rfl,rfl,rfl,by decide +kernel,rfl,by decide +kernel,by decide +kernel⟩
noncomputable def spCell (K:PySem.W.Frag):Sp:=fun vs H Q _=>∃(a:Addr) (ns:List Int) (k:Int),vs=[.ref a,.int k]∧SqL K H a (ns.map V.int)∧0≤k∧∀c:Int,Q (.int c) H
theorem qPl {f:Addr}{fd:FuncData}(F:Fun K "_law_cell_at" "_law_cell_at" (top 34) f fd)(B:Bl mg):FnOk P w K mg base CX0 1 f fd ["script","k"] (spCell K):=by
 refine F.ok qZi (fun vs H Q E h=>?_) (fun cdv A outer s H vs Q E hr h=>?_)
 ·obtain⟨a,ns,k,rfl,_⟩:=h
  rfl
 obtain⟨a,ns,k,rfl,hS,h0,q⟩:=h
 refine⟨_,(qZ (zK (qS qQf (pv 1) (xJ (xR (K:=K)) rfl B.len' zH (qQ (pv 0) qX)) (xE _)) (qJ (qO (xH (qU (K:=K)) (pv 0) (pv 1) (fun _ _=>rfl)))) qY)
  (qJ (qO qF))),?_⟩
 refine⟨_,rfl,_,rfl,a,_,rfl,.inl hS,_,_,rfl,rfl,_,rfl,?_⟩
 refine ite2 (fun c=>?_) (fun c=>?_)
 ·have c':k<(((ns.map V.int).length:Nat):Int):=of_decide_eq_true c
  rw[List.length_map] at c'
  have hk:k.toNat<ns.length:=by omega
  have e:k=((k.toNat:Nat):Int):=by omega
  have z:atI (ns.map V.int) ((k.toNat:Nat):Int)=some (.int ns[k.toNat]):=jR (by rw[List.getElem?_map,List.getElem?_eq_getElem hk] <;> rfl)
  rw[← e] at z
  exact⟨_,rfl,_,rfl,a,_,k,_,rfl,rfl,hS,z,q _⟩
 ·exact q 0

theorem vT:xM ["cell","k","number"] ["cell","k"] (xB (top 35)):=⟨rfl,rfl,rfl,by decide +kernel,rfl,by decide +kernel,by decide +kernel⟩
noncomputable def spStir:Sp:=fun vs H Q _=>∃c k:Int,vs=[.int c,.int k]∧0≤k∧k≤1000∧∀x:Int,0≤x→x<10 ^ 61→Q (.int x) H
theorem stir1 {c k:Int}(h0:0≤k)(h1:k≤1000):0≤c % 10 ^ 40 * 48271+3 ^ 60 * (k+1) * (k+1)+k∧c % 10 ^ 40 * 48271+3 ^ 60 * (k+1) * (k+1)+k<10 ^ 46:=by
 have a1:0≤c % 10 ^ 40:=Int.emod_nonneg _ (by decide +kernel)
 have a2:c % 10 ^ 40<10 ^ 40:=Int.emod_lt_of_pos _ (by decide +kernel)
 have b1:=qJw (a:=3 ^ 60) (b:=k+1) (c:=3 ^ 60) (d:=1001) (by decide +kernel) (by omega) (Int.le_refl _) (by omega)
 have b2:=qJw (a:=3 ^ 60 * (k+1)) (b:=k+1) (c:=3 ^ 60 * 1001) (d:=1001) b1.1 (by omega) b1.2 (by omega)
 have e1:(3:Int) ^ 60 * 1001 * 1001≤10 ^ 40:=by decide +kernel
 have e2:(10:Int) ^ 40 * 48271+10 ^ 40+1000<10 ^ 46:=by decide +kernel
 generalize c % 10 ^ 40=a at *
 generalize 3 ^ 60 * (k+1) * (k+1)=b at *
 have m:a * 48271≤10 ^ 40 * 48271:=Int.mul_le_mul_of_nonneg_right (Int.le_of_lt a2) (by decide)
 have n0:0≤a * 48271:=Int.mul_nonneg a1 (by decide)
 generalize a * 48271=z at *
 generalize (10:Int) ^ 40 * 48271=y at *
 generalize (3:Int) ^ 60 * 1001 * 1001=x at *
 generalize (10:Int) ^ 40=u at *
 generalize (10:Int) ^ 46=v at *
 omega
theorem stir2 {n:Int}(h0:0≤n)(h1:n<10 ^ 46):0≤n * n+69621 * n∧n * n+69621 * n<10 ^ 93:=by
 have b:=qJw h0 h0 (Int.le_of_lt h1) (Int.le_of_lt h1)
 have b2:=qJw (a:=69621) (b:=n) (c:=69621) (d:=10 ^ 46) (by decide) h0 (Int.le_refl _) (Int.le_of_lt h1)
 have e:(10:Int) ^ 46 * 10 ^ 46+69621 * 10 ^ 46<10 ^ 93:=by decide +kernel
 generalize n * n=x at *
 generalize 69621 * n=y at *
 generalize (10:Int) ^ 46 * 10 ^ 46=u at *
 generalize 69621 * (10:Int) ^ 46=v at *
 generalize (10:Int) ^ 93=z at *
 omega
theorem lt200 {n:Int}{k:Nat}(h:n<10 ^ k)(hk:(10:Int) ^ k≤10 ^ 200:=by decide +kernel):n<10 ^ 200:=Int.lt_of_lt_of_le h hk
theorem qPh {f:Addr}{fd:FuncData}(F:Fun K "_law_stir" "_law_stir" (top 35) f fd):FnOk P w K mg base CX0 1 f fd ["cell","k"] spStir:=by
 refine F.ok vT (fun vs H Q E h=>?_) (fun cdv A outer s H vs Q E hr h=>?_)
 ·obtain⟨c,k,rfl,_⟩:=h
  rfl
 obtain⟨c,k,rfl,h0,h1,q⟩:=h
 have a1:0≤c % 10 ^ 40:=Int.emod_nonneg _ (by decide +kernel)
 have a2:c % 10 ^ 40<10 ^ 40:=Int.emod_lt_of_pos _ (by decide +kernel)
 have b1:=qJw (a:=3 ^ 60) (b:=k+1) (c:=3 ^ 60) (d:=1001) (by decide +kernel) (by omega) (Int.le_refl _) (by omega)
 have s1:=stir1 (c:=c) h0 h1
 have s2:=stir2 s1.1 s1.2
 have pw:∀i j:Int,0≤j→j≤1000→i.natAbs<2 ^ 64→CPow i j:=fun i j x y z=>⟨x,by omega,z⟩
 refine⟨_,(qZ (qN (i:=2) vT.nd rfl (by wtm_at "zo") (xX zB (xX zB (xX yV (xX xT (pv 0) (xX yB qF qF)) qF) (xX yV (xX yV (xX yB qF qF) (xX zB (pv 1) qF)) (xX zB (pv 1) qF))) (pv 1)))
  (qZ (qN (i:=2) vT.nd rfl (by wtm_at "zo") (xX zB (xX yV (pv 2) (pv 2)) (xX yV qF (pv 2))))
  (qJ (qO (xX xO (xX xT (xX yV (pv 2) (pv 2)) (xX zB (xX yB qF qF) qF)) qF))))),?_⟩
 refine⟨_,rfl,10,40,rfl,rfl,pw 10 40 (by decide) (by decide) (by decide),c,_,rfl,rfl,(by decide +kernel:(0:Int)<10 ^ 40),_,_,rfl,rfl,
  ⟨big _ a1 (lt200 a2),by decide +kernel⟩,3,60,rfl,rfl,pw 3 60 (by decide) (by decide) (by decide),_,rfl,_,_,rfl,rfl,_,_,rfl,rfl,
  ⟨by decide +kernel,big _ (by omega) (Int.lt_of_le_of_lt (b:=1001) (by omega) (by decide +kernel))⟩,_,rfl,_,_,rfl,rfl,_,_,rfl,rfl,
  ⟨big _ b1.1 (Int.lt_of_le_of_lt b1.2 (by decide +kernel)),big _ (by omega) (Int.lt_of_le_of_lt (b:=1001) (by omega) (by decide +kernel))⟩,_,_,rfl,rfl,_,rfl,_,_,rfl,rfl,?_⟩
 obtain⟨n,hn⟩:∃n,n=c % 10 ^ 40 * 48271+3 ^ 60 * (k+1) * (k+1)+k:=⟨_,rfl⟩
 rw[← hn] at s1 s2
 refine⟨_,rfl,_,rfl,n,n,(by subst hn;rfl),(by subst hn;rfl),⟨big _ s1.1 (lt200 s1.2),big _ s1.1 (lt200 s1.2)⟩,_,rfl,69621,n,rfl,(by subst hn;rfl),⟨by decide +kernel,big _ s1.1 (lt200 s1.2)⟩,_,_,rfl,rfl,?_⟩
 obtain⟨m,hm⟩:∃m,m=n * n+69621 * n:=⟨_,rfl⟩
 rw[← hm] at s2
 refine⟨_,rfl,_,rfl,m,m,(by subst hm;rfl),(by subst hm;rfl),⟨big _ s2.1 (lt200 s2.2),big _ s2.1 (lt200 s2.2)⟩,10,61,rfl,rfl,pw 10 61 (by decide) (by decide) (by decide),_,7,rfl,rfl,m * m,10 ^ 61+7,rfl,rfl,(show(0:Int)<10 ^ 61+7 by decide +kernel),_,8,rfl,rfl,⟨by decide,by decide +kernel⟩,?_⟩
 have r1:0≤m * m % (10 ^ 61+7):=Int.emod_nonneg _ (by decide +kernel)
 have r2:m * m % (10 ^ 61+7)<10 ^ 61+7:=Int.emod_lt_of_pos _ (by decide +kernel)
 have e:(10:Int) ^ 61≥100:=by decide +kernel
 refine q _ ?_ ?_
 ·generalize m * m % (10 ^ 61+7)=z at r1
  omega
 ·generalize m * m % (10 ^ 61+7)=z at r1 r2 ⊢
  generalize (10:Int) ^ 61=y at *
  omega

theorem qWd:xM ["cell"] ["cell"] (xB (top 37)):=⟨rfl,rfl,rfl,by decide +kernel,rfl,by decide +kernel,by decide +kernel⟩
noncomputable def spDeck:Sp:=fun vs H Q _=>∃c:Int,vs=[.int c]∧∀(r:Addr) (d:Int),H r=none→Q (.ref r) (upd H r (.lst [.int d]))
theorem qPi {f g:Addr}{fd gd:FuncData}(F:Fun K "_law_deck" "_law_deck" (top 37) f fd)(G_law_stir:FnOk P w K mg base CX0 1 g gd ["cell","k"] spStir)(E_law_stir:FunE K mg "_law_stir" g gd ["cell","k"]):
  FnOk P w K mg base CX0 2 f fd ["cell"] spDeck:=by
 refine F.ok qWd (fun vs H Q E h=>?_) (fun cdv A outer s H vs Q E hr h=>?_)
 ·obtain⟨c,rfl,_⟩:=h
  rfl
 obtain⟨c,rfl,q⟩:=h
 have pw:∀i j:Int,0≤j→j≤1000→i.natAbs<2 ^ 64→CPow i j:=fun i j x y z=>⟨x,by omega,z⟩
 have t60:((10:Int) ^ (60:Int).toNat).natAbs<2 ^ 1000:=by decide +kernel
 refine⟨_,(qZ (zK (qS qTv (pv 0) (xX yB qF qF) (xE _)) (qJ (qO (xI (qQ (xX kY (pv 0) (xX yB qF qF)) qX)))) qY)
  (qJ (qO (xI (qQ (xX zB (xX yV (xX zB (xX yV (zI G_law_stir hr rfl E_law_stir.mg E_law_stir.kp E_law_stir.bd .nil pass0 (qQ (pv 0) (qQ qF qX))) (xX yB qF qF)) (zI G_law_stir hr rfl E_law_stir.mg E_law_stir.kp E_law_stir.bd .nil pass0 (qQ (pv 0) (qQ qF qX)))) (xX yB qF qF)) (zI G_law_stir hr rfl E_law_stir.mg E_law_stir.kp E_law_stir.bd .nil pass0 (qQ (pv 0) (qQ qF qX)))) qX))))),?_⟩
 refine⟨_,rfl,10,18,rfl,rfl,pw 10 18 (by decide) (by decide) (by decide),_,_,rfl,rfl,_,rfl,?_⟩
 refine ite2 (fun c=>?_) (fun c=>?_)
 ·exact⟨_,rfl,10,18,rfl,rfl,pw 10 18 (by decide) (by decide) (by decide),_,_,rfl,rfl,(by show 1≤sizeLine;decide),fun r hr'=>q r _ hr'⟩
 ·refine⟨_,rfl,_,1,rfl,by decide,by decide,fun x hx0 hx1=>?_⟩
  have e1:x.natAbs<2 ^ 1000:=big _ hx0 (lt200 hx1)
  refine⟨10,60,rfl,rfl,pw 10 60 (by decide) (by decide) (by decide),_,_,rfl,rfl,⟨e1,t60⟩,_,rfl,_,2,rfl,by decide,by decide,fun y hy0 hy1=>?_⟩
  refine⟨_,_,rfl,rfl,10,60,rfl,rfl,pw 10 60 (by decide) (by decide) (by decide),_,_,rfl,rfl,⟨?_,t60⟩,_,rfl,_,3,rfl,by decide,by decide,fun z hz0 hz1=>?_⟩
  ·have b:=qJw (a:=x) (b:=10 ^ 60) (c:=10 ^ 61) (d:=10 ^ 60) hx0 (by decide +kernel) (Int.le_of_lt hx1) (Int.le_refl _)
   have e:(10:Int) ^ 61 * 10 ^ 60+10 ^ 61<10 ^ 200:=by decide +kernel
   refine big _ ?_ ?_
   ·show 0≤x * 10 ^ 60+y
    generalize x * 10 ^ 60=u at *
    omega
   ·show x * 10 ^ 60+y<10 ^ 200
    generalize x * 10 ^ 60=u at *
    generalize (10:Int) ^ 61 * 10 ^ 60=v at *
    generalize (10:Int) ^ 61=v2 at *
    generalize (10:Int) ^ 200=v3 at *
    omega
  ·exact⟨_,_,rfl,rfl,(by show 1≤sizeLine;decide),fun r hr'=>q r _ hr'⟩

theorem yJ:xM ["cell","sizes","found","rest","k"] ["cell","sizes"] (xB (top 36)):=⟨rfl,rfl,rfl,by decide +kernel,rfl,by decide +kernel,by decide +kernel⟩
noncomputable def Below (xs szs:List Int):Prop:=∀(i:Nat) (x z:Int),xs[i]? = some x→szs[i]? = some z→0≤x∧x<z
noncomputable def qYj:Sp:=fun vs H Q _=>∃(c:Int) (a:Addr) (szs:List Int),vs=[.int c,.ref a]∧H a=some (.lst (intsV szs))∧szs.length≤100∧(∀z∈szs,0<z∧z<2 ^ 300)∧
 ∀(r:Addr) (xs:List Int),H r=none→xs.length=szs.length→Below xs szs→Q (.ref r) (upd H r (.lst (intsV xs)))
theorem qEj {xs szs:List Int}{x z:Int}(h:Below xs szs)(hz:szs[xs.length]? = some z)(h0:0≤x)(h1:x<z):Below (xs++[x]) szs:=fun i y u e1 e2=>by
 by_cases hi:i<xs.length
 ·rw[List.getElem?_append_left hi] at e1
  exact h i y u e1 e2
 ·by_cases he:i=xs.length
  ·subst he
   rw[List.getElem?_append_right (Nat.le_refl _),Nat.sub_self] at e1
   have e1:some x=some y:=e1
   cases e1
   rw[hz] at e2
   cases e2
   exact⟨h0,h1⟩
  ·rw[List.getElem?_append_right (by omega)] at e1
   have:i - xs.length=(i - xs.length - 1)+1:=by omega
   rw[this] at e1
   simp at e1
theorem qCa {ns:List Int}{k:Nat}{z:Int}(h:ns[k]? = some z):atI (intsV ns) (k:Int)=some (.int z):=jR (by rw[List.getElem?_map,h];rfl)
theorem qMm {f g:Addr}{fd gd:FuncData}(F:Fun K "_law_drawn" "_law_drawn" (top 36) f fd)(B:Bl mg)(G_law_stir:FnOk P w K mg base CX0 1 g gd ["cell","k"] spStir)(E_law_stir:FunE K mg "_law_stir" g gd ["cell","k"]):
  FnOk P w K mg base CX0 2 f fd ["cell","sizes"] qYj:=by
 refine F.ok yJ (fun vs H Q E h=>?_) (fun cdv A outer s H vs Q E hr h=>?_)
 ·obtain⟨c,a,szs,rfl,_⟩:=h
  rfl
 obtain⟨c,a,szs,rfl,ha,hl,hz,q⟩:=h
 have pw:∀i j:Int,0≤j→j≤1000→i.natAbs<2 ^ 64→CPow i j:=fun i j x y z=>⟨x,by omega,z⟩
 have hlen:(intsV szs).length=szs.length:=List.length_map _
 refine⟨_,(qZ (qN (i:=2) yJ.nd rfl (by wtm_at "zo") (xI qX))
  (qZ (qN (i:=3) yJ.nd rfl (by wtm_at "zo") (xX kY (pv 0) (xX yB qF qF)))
  (qZ (jE PassesOwn.never rfl (jF rfl B.range' (qQ (xJ (xR (K:=K)) rfl B.len' zH (qQ (pv 1) qX)) qX)) (qH (i:=4) yJ.nd rfl (by wtm_at "zo")) (qJ (zK (qS qTv (pv 0) (xX yB qF qF) (xE _)) (qZ (qR (kJ (K:=K) PySem.F.plainAttrs_list PySem.F.slot_list_append PySem.F.type_list_append zU (pv 2) (qQ (xX xT (pv 3) (xH (qU (K:=K)) (pv 1) (pv 4) (fun _ _=>rfl))) qX)))
  (qJ (qN (i:=3) yJ.nd rfl (by wtm_at "zo") (xX xO (pv 3) (xH (qU (K:=K)) (pv 1) (pv 4) (fun _ _=>rfl)))))) (qJ (qR (kJ (K:=K) PySem.F.plainAttrs_list PySem.F.slot_list_append PySem.F.type_list_append zU (pv 2) (qQ (xX xT (zI G_law_stir hr rfl E_law_stir.mg E_law_stir.kp E_law_stir.bd .nil pass0 (qQ (pv 0) (qQ (pv 4) qX))) (xH (qU (K:=K)) (pv 1) (pv 4) (fun _ _=>rfl))) qX)))))))
  (qJ (qO (pv 2)))))),?_⟩
 refine⟨(by show 0≤sizeLine;decide),fun r hr'=>?_⟩
 have har:a≠r:=qB ha hr'
 refine⟨_,rfl,10,18,rfl,rfl,pw 10 18 (by decide) (by decide) (by decide),_,_,rfl,rfl,?_⟩
 have e1:upd H r (.lst []) a=some (.lst (intsV szs)):=by rw[qA har];exact ha
 refine⟨_,rfl,a,_,rfl,.inl (SqL.of e1),_,rfl,by omega,by omega,?_⟩
 refine qVa (fun i σ' H'=>∃(xs:List Int) (re:Int) (z:Option V),σ'=[some (.int c),some (.ref a),some (.ref r),some (.int re),z]∧H'=upd H r (.lst (intsV xs))∧xs.length=i∧Below xs szs)
  ⟨[],_,none,rfl,rfl,rfl,fun i x z e=>by simp at e⟩ ?_ ?_
 ·rintro i σ' H' hi ⟨xs,re,zz,rfl,rfl,hxi,hb⟩
  have hi:i<szs.length:=by
   have:(((intsV szs).length:Nat):Int).toNat=szs.length:=by rw[hlen];omega
   rw[this] at hi
   exact hi
  subst hxi
  obtain⟨z,ez⟩:∃z,szs[xs.length]? = some z:=⟨_,List.getElem?_eq_getElem hi⟩
  have hz':=hz z (List.mem_of_getElem? ez)
  have hz1:z.natAbs<2 ^ 1000:=big _ (by omega) (Int.lt_trans hz'.2 (by decide +kernel))
  have e0:(0:Int)+(xs.length:Int)=(xs.length:Int):=Int.zero_add _
  have ea:upd H r (.lst (intsV xs)) a=some (.lst (intsV szs)):=by rw[qA har];exact ha
  have at0:atI (intsV szs) (0+(xs.length:Int))=some (.int z):=by rw[e0];exact qCa ez
  have fin:∀x:Int,0≤x→x<z→∀re':Int,∃(ys:List Int) (re:Int) (zz:Option V),[some (V.int c),some (.ref a),some (.ref r),some (.int re'),some (.int (0+(xs.length:Int)))]=[some (V.int c),some (.ref a),some (.ref r),some (.int re),zz]∧
    upd (upd H r (.lst (intsV xs))) r (.lst (intsV xs++[.int x]))=upd H r (.lst (intsV ys))∧ys.length=xs.length+1∧Below ys szs:=fun x h0 h1 re'=>
   ⟨xs++[x],re',_,rfl,by rw[qEc,wS],by simp,qEj hb ez h0 h1⟩
  have hsz:(intsV xs).length<sizeLine:=by rw[yY];exact small (by omega)
  refine⟨_,rfl,10,18,rfl,rfl,pw 10 18 (by decide) (by decide) (by decide),_,_,rfl,rfl,_,rfl,?_⟩
  refine ite2 (fun _=>?_) (fun _=>?_)
  ·refine⟨_,rfl,.inl ⟨rfl,_,SqL.of qW⟩,_,rfl,_,rfl,_,rfl,a,_,_,_,rfl,rfl,SqL.of ea,at0,_,_,rfl,rfl,hz'.1,r,_,_,rfl,rfl,qW,hsz,?_⟩
   have ea2:upd (upd H r (.lst (intsV xs))) r (.lst (intsV xs++[.int (re % z)])) a=some (.lst (intsV szs)):=by rw[qA har,qA har];exact ha
   refine⟨_,rfl,_,rfl,_,rfl,a,_,_,_,rfl,rfl,SqL.of ea2,at0,_,_,rfl,rfl,⟨hz'.1,hz1⟩,?_⟩
   exact fin _ (Int.emod_nonneg _ (by omega)) (Int.emod_lt_of_pos _ hz'.1) _
  ·refine⟨_,rfl,.inl ⟨rfl,_,SqL.of qW⟩,_,rfl,_,rfl,c,0+(xs.length:Int),rfl,by omega,by omega,fun x hx0 hx1=>?_⟩
   refine⟨_,rfl,_,rfl,a,_,_,_,rfl,rfl,SqL.of ea,at0,_,_,rfl,rfl,hz'.1,r,_,_,rfl,rfl,qW,hsz,?_⟩
   exact fin _ (Int.emod_nonneg _ (by omega)) (Int.emod_lt_of_pos _ hz'.1) _
 ·rintro σ' H' ⟨xs,re,zz,rfl,rfl,hxi,hb⟩
  have:(((intsV szs).length:Nat):Int).toNat=szs.length:=by rw[hlen];omega
  rw[this] at hxi
  exact⟨_,rfl,q r xs hr' hxi hb⟩
theorem jB {K:PySem.W.Frag}{a:Addr}{xs:List V}{g:TG}{tb:TS}{D:Ends}{σ:St}{H:Hp}(Pv:Nat→St→Hp→Prop)(h0:Pv 0 σ H)(hl:∀i σ H,i≤xs.length→Pv i σ H→SqL K H a xs)
  (hs:∀(N:St→Hp→Prop) (rt:VK) (bk:St→Hp→Prop) i x σ H,xs[i]? = some x→Pv i σ H→(∀σ H,Pv (i+1) σ H→N σ H)→g x σ H fun σ2 H2=>tb ⟨N,rt,bk,N⟩ σ2 H2) (hd:∀σ H,Pv xs.length σ H→D.nx σ H):
  ∃W:Nat→Nat→St→Hp→Prop,(∃m,W 0 m σ H)∧∀i m σ H,W i m σ H→
   ((Itl K a).stop i H∧D.nx σ H)∨((Itl K a).go i H∧∃N:St→Hp→Prop,(∀σ' H',N σ' H'→∃m',m'<m∧W (i+1) m' σ' H')∧∀x H',(Itl K a).yld i H x H'→g x σ H' fun σ2 H2=>tb { D with nx:=N,ct:=N,bk:=D.nx } σ2 H2):=
 qYe Pv h0 hl (fun i x σ H e p=>hs _ _ _ i x σ H e p fun _ _ z=>z) hd
theorem yG {lo:Int}{n:Nat}{g:TG}{tb:TS}{D:Ends}{σ:St}{H:Hp}(Pv:Nat→St→Hp→Prop)(h0:Pv 0 σ H)
  (hs:∀(N:St→Hp→Prop) (rt:VK) (bk:St→Hp→Prop) i σ H,i<n→Pv i σ H→(∀σ H,Pv (i+1) σ H→N σ H)→g (.int (lo+i)) σ H fun σ2 H2=>tb ⟨N,rt,bk,N⟩ σ2 H2) (hd:∀σ H,Pv n σ H→D.nx σ H):
  ∃W:Nat→Nat→St→Hp→Prop,(∃m,W 0 m σ H)∧∀i m σ H,W i m σ H→
   ((Itr lo n).stop i H∧D.nx σ H)∨((Itr lo n).go i H∧∃N:St→Hp→Prop,(∀σ' H',N σ' H'→∃m',m'<m∧W (i+1) m' σ' H')∧∀x H',(Itr lo n).yld i H x H'→g x σ H' fun σ2 H2=>tb { D with nx:=N,ct:=N,bk:=D.nx } σ2 H2):=
 qVa Pv h0 (fun i σ H e p=>hs _ _ _ i σ H e p fun _ _ z=>z) hd

theorem zA:xM ["number","many","letters","pad","size","at","first","found","k","sign"] ["number","many"] (xB (top 39)):=⟨rfl,rfl,rfl,by decide +kernel,rfl,by decide +kernel,by decide +kernel⟩
noncomputable def abc:List Nat:=("abcdefghijklmnopqrstuvwxyz" : Str).cps.toList
noncomputable def letter (i:Int):Nat:=abc.getD i.toNat 0
theorem qRg:abc.length=26:=by decide +kernel
theorem qRh:∀i j:Fin 26,abc.getD i.val 0=abc.getD j.val 0→i=j:=by decide +kernel
theorem qDw {i j:Int}(i0:0≤i)(i1:i<26)(j0:0≤j)(j1:j<26)(h:letter i=letter j):i=j:=by
 have:=qRh ⟨i.toNat,by omega⟩ ⟨j.toNat,by omega⟩ h
 have:=congrArg Fin.val this
 have:i.toNat=j.toNat:=this
 omega
theorem qJd {i:Int}(h0:0≤i)(h1:i<26):atI ("abcdefghijklmnopqrstuvwxyz" : Str).cps.toList i=some (letter i):=by
 have e:i=((i.toNat:Nat):Int):=by omega
 have hk:i.toNat<abc.length:=by rw[qRg];omega
 have z:atI abc ((i.toNat:Nat):Int)=some (letter i):=jR (by unfold letter;rw[List.getD_eq_getElem?_getD,List.getElem?_eq_getElem hk];rfl)
 rw[← e] at z
 exact z
noncomputable def wordOf (c:Nat)(a r:Int)(k:Nat):Str:=Txt.mul ⟨#[c]⟩ a++⟨#[k]⟩++Txt.mul ⟨#[c]⟩ r
theorem qJg (c:Nat):∀(k:Nat) (acc:Array Nat),((List.replicate k #[c]).foldl (·++·) acc).toList=acc.toList++List.replicate k c
 | 0,acc=>by simp
 | k+1,acc=>by
  rw[List.replicate_succ,List.foldl_cons,qJg c k,Array.toList_append,List.append_assoc,List.replicate_succ]
  rfl
theorem qKo (c:Nat)(n:Int):(Txt.mul ⟨#[c]⟩ n).cps.toList=List.replicate n.toNat c:=by
 unfold Txt.mul
 split
 ·have:n.toNat=0:=by omega
  rw[this];rfl
 ·split
  ·rename_i h1 h2
   have h3:(n == 1)=true:=by
    rw[Bool.or_eq_true] at h2
    rcases h2 with h | h
    ·exact h
    ·exact absurd (show((1:Nat) == 0)=true from h) (by decide)
   have:n=1:=eq_of_beq h3
   subst this;rfl
  ·rw[qJg];rfl
theorem vW (c:Nat)(a r:Int)(k:Nat):(wordOf c a r k).cps.toList=List.replicate a.toNat c++k::List.replicate r.toNat c:=by
 show((Txt.mul ⟨#[c]⟩ a).cps++#[k]++(Txt.mul ⟨#[c]⟩ r).cps).toList=_
 rw[Array.toList_append,Array.toList_append,qKo,qKo]
 simp
theorem qIl (c:Nat)(a r:Int)(k:Nat):(wordOf c a r k).length=a.toNat+(1+r.toNat):=by
 have h:(wordOf c a r k).length=(wordOf c a r k).cps.toList.length:=rfl
 rw[h,vW,List.length_append,List.length_cons,List.length_replicate,List.length_replicate]
 omega
theorem qIm {c:Nat}{a r:Int}{k k':Nat}(h:wordOf c a r k=wordOf c a r k'):k=k':=by
 have e:=congrArg (fun x:Str=>x.cps.toList) h
 simp only[vW] at e
 have:=List.append_cancel_left e
 injection this
theorem vC {c k a r p q s:Nat}(h:List.replicate a c++k::List.replicate r c=[p,q,s])(pq:p≠q)(ps:p≠s)(qs:q≠s):False:=by
 have hl:=congrArg List.length h
 simp only[List.length_append,List.length_cons,List.length_replicate,List.length_nil] at hl
 have:a=0∧r=2∨a=1∧r=1∨a=2∧r=0:=by omega
 rcases this with⟨rfl,rfl⟩ | ⟨rfl,rfl⟩ | ⟨rfl,rfl⟩
 ·simp[List.replicate] at h;omega
 ·simp[List.replicate] at h;omega
 ·simp[List.replicate] at h;omega
noncomputable def odd3:List Str:=["not","and","yes","way","end","one"]
noncomputable def cwords:List Str:=["not","and","yes"]
theorem qCe (c:Nat)(a r:Int)(k:Nat):wordOf c a r k∉odd3:=by
 intro h
 have e:=vW c a r k
 simp only[odd3,List.mem_cons,List.not_mem_nil,or_false] at h
 rcases h with h | h | h | h | h | h <;> rw[h] at e
 ·exact vC (p:=110) (q:=111) (s:=116) (e.symm.trans (by decide +kernel)) (by decide) (by decide) (by decide)
 ·exact vC (p:=97) (q:=110) (s:=100) (e.symm.trans (by decide +kernel)) (by decide) (by decide) (by decide)
 ·exact vC (p:=121) (q:=101) (s:=115) (e.symm.trans (by decide +kernel)) (by decide) (by decide) (by decide)
 ·exact vC (p:=119) (q:=97) (s:=121) (e.symm.trans (by decide +kernel)) (by decide) (by decide) (by decide)
 ·exact vC (p:=101) (q:=110) (s:=100) (e.symm.trans (by decide +kernel)) (by decide) (by decide) (by decide)
 ·exact vC (p:=111) (q:=110) (s:=101) (e.symm.trans (by decide +kernel)) (by decide) (by decide) (by decide)
noncomputable def Low (c:Nat):Prop:=(Builtin.Str.reprChar 34 c).length≤1∧(Builtin.Str.reprChar 39 c).length≤1
theorem qPo:∀i:Fin 26,(Builtin.Str.reprChar 34 (abc.getD i.val 0)).length≤1∧(Builtin.Str.reprChar 39 (abc.getD i.val 0)).length≤1:=by decide +kernel
theorem qJb {i:Int}(h0:0≤i)(h1:i<26):Low (letter i):=qPo ⟨i.toNat,by omega⟩
theorem qIi {c k:Nat}(h1:Low c)(h2:Low k)(a r:Int):∀d∈(wordOf c a r k).cps.toList,Low d:=fun d hd=>by
 rw[vW] at hd
 rcases List.mem_append.mp hd with h | h
 ·rw[(List.mem_replicate.mp h).2];exact h1
 ·rcases List.mem_cons.mp h with h | h
  ·rw[h];exact h2
  ·rw[(List.mem_replicate.mp h).2];exact h1
noncomputable def Lw (x:Str):Prop:=x.length≤100∧∀c∈x.cps.toList,Low c
structure Plain (ws:List Str):Prop where
 nd:ws.Nodup
 no:∀x∈ws,x∉odd3
 le:∀x∈ws,x.length≤100
 low:∀x∈ws,∀c∈x.cps.toList,Low c
 eq:∃n,∀x∈ws,x.length=n
noncomputable def qYx:Sp:=fun vs H Q _=>∃n m:Int,vs=[.int n,.int m]∧0≤n∧0≤m∧m≤26∧
 ∀(r:Addr) (ws:List Str),H r=none→ws.length=m.toNat→Plain ws→Q (.ref r) (upd H r (.lst (strsV ws)))
theorem qZz:("abcdefghijklmnopqrstuvwxyz" : Str).length≤sizeLine:=by decide +kernel
theorem qAz (x y:Str):(x++y).length=x.length+y.length:=by
 show(x.cps++y.cps).size=_
 rw[Array.size_append];rfl
theorem qGk {f:Addr}{fd:FuncData}(F:Fun K "_law_unlike" "_law_unlike" (top 39) f fd)(B:Bl mg):FnOk P w K mg base CX0 1 f fd ["number","many"] qYx:=by
 refine F.ok zA (fun vs H Q E h=>?_) (fun cdv A outer s H vs Q E hr h=>?_)
 ·obtain⟨n,m,rfl,_⟩:=h
  rfl
 obtain⟨n,m,rfl,hn,hm0,hm1,q⟩:=h
 have z26:(0:Int)<26:=by decide
 obtain⟨c1,ec1,lc1⟩:∃c,atI ("abcdefghijklmnopqrstuvwxyz" : Str).cps.toList (n % 26)=some c∧Low c:=⟨_,qJd (Int.emod_nonneg n (by decide)) (Int.emod_lt_of_pos n z26),qJb (Int.emod_nonneg n (by decide)) (Int.emod_lt_of_pos n z26)⟩
 have d26:0≤n / 26:=Int.ediv_nonneg hn (by decide)
 have s0:=Int.emod_nonneg (n / 26) (b:=8) (by decide)
 have s1:=Int.emod_lt_of_pos (n / 26) (b:=8) (by decide)
 refine⟨_,(qZ (qN (i:=2) zA.nd rfl (by wtm_at "zo") qG)
  (qZ (qN (i:=3) zA.nd rfl (by wtm_at "zo") (xH qOx (pv 2) (xX xT (pv 0) qF) (fun _ _=>rfl)))
  (qZ (qN (i:=4) zA.nd rfl (by wtm_at "zo") (xX zB qF (xX xT (xX xO (pv 0) qF) qF)))
  (qZ (qN (i:=5) zA.nd rfl (by wtm_at "zo") (xX xT (xX xO (pv 0) qF) (pv 4)))
  (qZ (qN (i:=6) zA.nd rfl (by wtm_at "zo") (xX xT (xX xO (pv 0) qF) qF))
  (qZ (qN (i:=7) zA.nd rfl (by wtm_at "zo") (xI qX))
  (qZ (jE PassesOwn.never rfl (jF rfl B.range' (qQ (pv 1) qX)) (qH (i:=8) zA.nd rfl (by wtm_at "zo")) (qZ (qN (i:=9) zA.nd rfl (by wtm_at "zo") (xH qOx (pv 2) (xX xT (xX zB (pv 6) (xX yV qF (pv 8))) qF) (fun _ _=>rfl)))
  (qJ (qR (kJ (K:=K) PySem.F.plainAttrs_list PySem.F.slot_list_append PySem.F.type_list_append zU (pv 7) (qQ (xX yF (xX yF (xX qFo (pv 3) (pv 5)) (pv 9)) (xX qFo (pv 3) (xX kY (xX kY (pv 4) (pv 5)) qF))) qX))))))
  (qJ (qO (pv 7)))))))))),?_⟩
 refine⟨_,rfl,_,rfl,_,26,rfl,rfl,z26,_,_,c1,rfl,rfl,qZz,ec1,?_⟩
 refine⟨_,rfl,_,26,rfl,rfl,⟨z26,by decide +kernel⟩,_,8,rfl,rfl,(by decide:(0:Int)<8),1,_,rfl,rfl,?_⟩
 obtain⟨sz,hsz⟩:∃sz,sz=n / 26 % 8:=⟨_,rfl⟩
 rw[← hsz] at s0 s1
 have t0:0<1+sz:=by omega
 refine⟨_,rfl,_,208,rfl,rfl,⟨by decide,by decide +kernel⟩,_,rfl,_,1+sz,rfl,(by subst hsz;rfl),t0,?_⟩
 obtain⟨at',hat⟩:∃a,a=n / 208 % (1+sz):=⟨_,rfl⟩
 have a0:0≤at':=by rw[hat];exact Int.emod_nonneg _ (by omega)
 have a1:at'<1+sz:=by rw[hat];exact Int.emod_lt_of_pos _ t0
 refine⟨_,rfl,_,1664,rfl,rfl,⟨by decide,by decide +kernel⟩,_,26,rfl,rfl,z26,?_⟩
 obtain⟨fi,hfi⟩:∃a,a=n / 1664 % 26:=⟨_,rfl⟩
 have f0:0≤fi:=by rw[hfi];exact Int.emod_nonneg _ (by decide)
 have f1:fi<26:=by rw[hfi];exact Int.emod_lt_of_pos _ z26
 refine⟨(by show 0≤sizeLine;decide),fun r hr'=>?_⟩
 refine⟨_,rfl,m,rfl,by omega,by omega,?_⟩
 refine yG (fun i σ' H'=>∃(ws:List Str) (z1 z2:Option V),σ'=[some (.int n),some (.int m),some (.str "abcdefghijklmnopqrstuvwxyz"),some (.str ⟨#[c1]⟩),some (.int (1+sz)),some (.int at'),some (.int fi),some (.ref r),z1,z2]∧H'=upd H r (.lst (strsV ws))∧ws=(List.range i).map (fun(j:Nat)=>wordOf c1 at' (1+sz - at' - 1) (letter ((fi+3 * (0+(j:Int))) % 26)))∧ws.length=i∧Plain ws)
  ⟨[],none,none,(by subst hfi hat hsz;rfl),rfl,rfl,rfl,⟨List.nodup_nil,(fun x hx=>by cases hx),(fun x hx=>by cases hx),(fun x hx=>by cases hx),0,fun x hx=>by cases hx⟩⟩ ?_ ?_
 ·rintro N rt bk i σ' H' hi ⟨ws,z1,z2,rfl,rfl,hme,hw,hx⟩ hN
  have i100:i<26:=by omega
  have m0:=fun j:Nat=>Int.emod_nonneg (fi+3 * (0+(j:Int))) (b:=26) (by decide)
  have m1:=fun j:Nat=>Int.emod_lt_of_pos (fi+3 * (0+(j:Int))) z26
  obtain⟨c2,hc2⟩:∃c,c=letter ((fi+3 * (0+(i:Int))) % 26):=⟨_,rfl⟩
  have ec2:=qJd (m0 i) (m1 i)
  rw[← hc2] at ec2
  have lc2:Low c2:=by rw[hc2];exact qJb (m0 i) (m1 i)
  have hnew:wordOf c1 at' (1+sz - at' - 1) c2∉ws:=fun hmem=>by
   rw[hme] at hmem
   obtain⟨j,hj,ej⟩:=List.mem_map.mp hmem
   have hj:=List.mem_range.mp hj
   have e:=qDw (m0 j) (m1 j) (m0 i) (m1 i) ((qIm ej).trans hc2)
   omega
  refine⟨_,rfl,_,rfl,_,rfl,3,_,rfl,rfl,⟨by decide +kernel,big _ (by omega) (Int.lt_of_le_of_lt (b:=100) (by omega) (by decide +kernel))⟩,_,_,rfl,rfl,_,26,rfl,rfl,z26,_,_,c2,rfl,rfl,qZz,ec2,?_⟩
  have l1:(⟨#[c1]⟩:Str).length=1:=rfl
  have l2:(⟨#[c2]⟩:Str).length=1:=rfl
  have m1:=qGi ⟨#[c1]⟩ at'
  have m2:=qGi ⟨#[c1]⟩ (1+sz - at' - 1)
  rw[l1] at m1 m2
  have k1:(Txt.mul ⟨#[c1]⟩ at').length≤8:=by omega
  have k2:(Txt.mul ⟨#[c1]⟩ (1+sz - at' - 1)).length≤8:=by omega
  refine⟨_,rfl,.inl ⟨rfl,_,SqL.of qW⟩,_,rfl,_,rfl,_,_,rfl,rfl,by omega,by omega,by rw[l1];decide,_,rfl,_,_,rfl,rfl,by rw[l2];exact smallE (by omega),_,rfl,_,rfl,_,rfl,_,_,rfl,rfl,_,1,rfl,rfl,_,_,rfl,rfl,by omega,by omega,by rw[l1];decide,_,_,rfl,rfl,?_,?_⟩
  ·rw[qAz,l2];exact smallE (by omega)
  ·refine⟨r,_,_,rfl,rfl,qW,by rw[xA];exact small (by omega),?_⟩
   refine hN _ _ ⟨ws++[wordOf c1 at' (1+sz - at' - 1) c2],_,_,rfl,by rw[qEc,qCh];rfl,by rw[List.range_succ,List.map_append,← hme,hc2];rfl,by simp[hw],⟨qGg hx.nd hnew,fun x hx'=>?_,fun x hx'=>?_,fun x hx'=>?_,at'.toNat+(1+(1+sz - at' - 1).toNat),fun x hx'=>?_⟩⟩
   ·rcases List.mem_append.mp hx' with h | h
    ·exact hx.no x h
    ·rw[List.mem_singleton.mp h];exact qCe _ _ _ _
   ·rcases List.mem_append.mp hx' with h | h
    ·exact hx.le x h
    ·rw[List.mem_singleton.mp h]
     show(Txt.mul ⟨#[c1]⟩ at'++⟨#[c2]⟩++Txt.mul ⟨#[c1]⟩ (1+sz - at' - 1)).length≤100
     rw[qAz,qAz,l2];omega
   ·rcases List.mem_append.mp hx' with h | h
    ·exact hx.low x h
    ·rw[List.mem_singleton.mp h];exact qIi lc1 lc2 _ _
   ·have hx2:x∈(List.range (i+1)).map (fun(j:Nat)=>wordOf c1 at' (1+sz - at' - 1) (letter ((fi+3 * (0+(j:Int))) % 26))):=by
     rw[List.range_succ,List.map_append,← hme]
     rw[hc2] at hx'
     exact hx'
    obtain⟨j,_,rfl⟩:=List.mem_map.mp hx2
    exact qIl _ _ _ _
 ·rintro σ' H' ⟨ws,z1,z2,rfl,rfl,hme,hw,hx⟩
  exact⟨_,rfl,q r ws hr' hw hx⟩

theorem yR {n:Nat}{xs:List Int}(h:xs.length=n+1):∃x r,xs=x::r∧r.length=n:=by
 cases xs with
 | nil=>cases h
 | cons x r=>exact⟨x,r,rfl,Nat.succ.inj h⟩
theorem eight {xs:List Int}(h0:xs.length=8):∃x0 x1 y0 y1 y2 y3 y4 y5,xs=[x0,x1,y0,y1,y2,y3,y4,y5]:=by
 obtain⟨x0,r0,e0,h1⟩:=yR h0
 obtain⟨x1,r1,e1,h2⟩:=yR h1
 obtain⟨y0,r2,e2,h3⟩:=yR h2
 obtain⟨y1,r3,e3,h4⟩:=yR h3
 obtain⟨y2,r4,e4,h5⟩:=yR h4
 obtain⟨y3,r5,e5,h6⟩:=yR h5
 obtain⟨y4,r6,e6,h7⟩:=yR h6
 obtain⟨y5,r7,e7,h8⟩:=yR h7
 cases List.length_eq_zero_iff.mp h8
 subst e7 e6 e5 e4 e3 e2 e1 e0
 exact⟨_,_,_,_,_,_,_,_,rfl⟩
theorem zG:xM ["cell","drawn","words","boxes","room","k","size"] ["cell"] (xB (top 40)):=⟨rfl,rfl,rfl,by decide +kernel,rfl,by decide +kernel,by decide +kernel⟩
noncomputable def BoxIn (H:Hp)(b:Str×Int)(u:V):Prop:=∃a,u=.ref a∧H a=some (.tup [.str b.1,.int b.2])
structure Named (ws:List Str):Prop where
 nd:ws.Nodup
 no:∀x∈ws,x∉cwords
 sh:∀x∈ws,Lw x
 ao:¬(("a" : Str)∈ws∧("oq" : Str)∈ws)
theorem Plain.named {ws:List Str}(p:Plain ws):Named ws:=⟨p.nd,fun x hx hc=>p.no x hx (by
 simp only[cwords,List.mem_cons,List.not_mem_nil,or_false] at hc
 simp only[odd3,List.mem_cons,List.not_mem_nil,or_false]
 rcases hc with h | h | h
 ·exact .inl h
 ·exact .inr (.inl h)
 ·exact .inr (.inr (.inl h))),fun x hx=>⟨p.le x hx,p.low x hx⟩,fun h=>by
 obtain⟨n,e⟩:=p.eq
 have h1:1=n:=e _ h.1
 have h2:2=n:=e _ h.2
 omega⟩
theorem qOi:∀x∈(["way","goal","begin","end","deed","look"]:List Str),x.length≤100∧∀c∈x.cps.toList,(Builtin.Str.reprChar 34 c).length≤1∧(Builtin.Str.reprChar 39 c).length≤1:=by decide +kernel
theorem qGh:Named ["way","goal","begin","end","deed","look"]:=⟨by decide +kernel,by decide +kernel,qOi,by decide +kernel⟩
theorem Named.sub {ws xs:List Str}(n:Named ws)(s:List.Sublist xs ws):Named xs:=⟨s.nodup n.nd,fun x hx=>n.no x (s.subset hx),fun x hx=>n.sh x (s.subset hx),fun h=>n.ao ⟨s.subset h.1,s.subset h.2⟩⟩
noncomputable def qEo:Sp:=fun vs H Q _=>∃c:Int,vs=[.int c]∧∀(r:Addr) (bs:List (Str×Int)) (us:List V) (H':Hp),H r=none→Same H H'→H' r=some (.lst us)→Paired (BoxIn H') bs us→1≤bs.length→bs.length≤6→
 (∀b∈bs,2≤b.2∧b.2≤5)→(bs.map (·.2)).foldl (· * ·) 1≤200→Named (bs.map (·.1))→Q (.ref r) H'
theorem BoxIn.mono {H H':Hp}(h:Tups H H'){b:Str×Int}{u:V}(x:BoxIn H b u):BoxIn H' b u:=let ⟨a,e,q⟩:=x;⟨a,e,h _ _ q⟩
theorem xK {H H':Hp}(h:Tups H H'){bs:List (Str×Int)}{us:List V}(p:Paired (BoxIn H) bs us):Paired (BoxIn H') bs us:=Paired.mapP p fun _ _ x=>x.mono h
theorem qJf (l:List Int)(x a:Int):(l++[x]).foldl (· * ·) a=l.foldl (· * ·) a * x:=by rw[List.foldl_append];rfl
theorem qFz:∀j:Fin 6,([10 ^ 9,6,4,4,4,4,4,4]:List Int)[j.val+2]? = some 4:=by decide +kernel
theorem qNq {f g h:Addr}{fd gd hd:FuncData}(F:Fun K "_law_boxes" "_law_boxes" (top 40) f fd)(B:Bl mg)(G_law_drawn:FnOk P w K mg base CX0 2 g gd ["cell","sizes"] qYj)(E_law_drawn:FunE K mg "_law_drawn" g gd ["cell","sizes"])
  (G_law_unlike:FnOk P w K mg base CX0 2 h hd ["number","many"] qYx) (E_law_unlike:FunE K mg "_law_unlike" h hd ["number","many"]):FnOk P w K mg base CX0 3 f fd ["cell"] qEo:=by
 refine F.ok zG (fun vs H Q E h=>?_) (fun cdv A outer s H vs Q E hr h=>?_)
 ·obtain⟨c,rfl,_⟩:=h
  rfl
 obtain⟨c,rfl,q⟩:=h
 have pw:∀i j:Int,0≤j→j≤1000→i.natAbs<2 ^ 64→CPow i j:=fun i j x y z=>⟨x,by omega,z⟩
 have rest:∃u,PSs (cxOf CX0 P w K mg base ["cell","drawn","words","boxes","room","k","size"] "_law_boxes" (xB (top 40)) f cdv A outer s H E).nox ((xC (top 40)).drop 3) u∧
   ∀(dr:Addr) (x0 x1 y0 y1 y2 y3 y4 y5:Int),0≤x1→x1<6→(∀(j:Nat) (y:Int),[y0,y1,y2,y3,y4,y5][j]? = some y→0≤y∧y<4)→
    ∀(wd:Addr) (ws:List Str) (H7:Hp),Same H H7→H7 dr=some (.lst (intsV [x0,x1,y0,y1,y2,y3,y4,y5]))→H7 wd=some (.lst (strsV ws))→ws.length=6→Named ws→
     u { nx:=fun _ H'=>Q .non H',rt:=Q } [some (.int c),some (.ref dr),some (.ref wd),none,none,none,none] H7:=by
  refine⟨_,(qZ (qN (i:=3) zG.nd rfl (by wtm_at "zo") (xI qX))
  (qZ (qN (i:=4) zG.nd rfl (by wtm_at "zo") qF)
  (qZ (jE PassesOwn.never rfl (jF rfl B.range' (qQ (xX zB qF (xH (qU (K:=K)) (pv 1) qF (fun _ _=>rfl))) qX)) (qH (i:=5) zG.nd rfl (by wtm_at "zo")) (qZ (qN (i:=6) zG.nd rfl (by wtm_at "zo") (xJ (wH rfl) rfl B.min' qCv (qQ (xX zB qF (xH (qU (K:=K)) (pv 1) (xX zB qF (pv 5)) (fun _ _=>rfl))) (qQ (pv 4) qX))))
  (qJ (zK (qS qMh (pv 6) qF (xE _)) (qZ (qR (kJ (K:=K) PySem.F.plainAttrs_list PySem.F.slot_list_append PySem.F.type_list_append zU (pv 3) (qQ (xG (qQ (xH (qU (K:=K)) (pv 2) (pv 5) (fun _ _=>rfl)) (qQ (pv 6) qX))) qX)))
  (qJ (qN (i:=4) zG.nd rfl (by wtm_at "zo") (xX xO (pv 4) (pv 6))))) qY))))
  (qJ (qO (pv 3)))))),?_⟩
  intro dr x0 x1 y0 y1 y2 y3 y4 y5 hx0 hx6 hy wd ws H7 S7 eD7 eW7 hw6 nmd
  refine⟨(by show 0≤sizeLine;decide),fun r hr'=>?_⟩
  have rH:H r=none:=S7.free hr'
  have rd:dr≠r:=qB eD7 hr'
  have rw':wd≠r:=qB eW7 hr'
  have eD8:upd H7 r (.lst []) dr=some (.lst (intsV [x0,x1,y0,y1,y2,y3,y4,y5])):=by rw[qA rd];exact eD7
  refine⟨_,rfl,dr,_,1,.int x1,rfl,rfl,SqL.of eD8,rfl,1,x1,rfl,rfl,_,rfl,by omega,by omega,?_⟩
  refine yG (fun i σ' H'=>∃(bs:List (Str×Int)) (us:List V) (ro:Int) (z1 z2:Option V),σ'=[some (.int c),some (.ref dr),some (.ref wd),some (.ref r),some (.int ro),z1,z2]∧But r H7 H'∧H' r=some (.lst us)∧Paired (BoxIn H') bs us∧bs.length≤i∧
    (0<i→1≤bs.length)∧(∀b∈bs,2≤b.2∧b.2≤5)∧1≤ro∧(i=0→ro=200)∧1≤(bs.map (·.2)).foldl (· * ·) 1∧(bs.map (·.2)).foldl (· * ·) 1 * ro≤200∧List.Sublist (bs.map (·.1)) (ws.take i))
   ⟨[],[],200,none,none,rfl,But.upd,qW,.nil,Nat.le_refl _,fun z=>absurd z (by decide),(fun b hb=>by cases hb),by decide,fun _=>rfl,by decide,by decide,List.nil_sublist _⟩ ?_ ?_
  ·rintro N rt bk i σ' H' hi ⟨bs,us,ro,z1,z2,rfl,hbut,hru,hp,hbl,hb1,hb25,hro,hr0,hf1,hf2,hsub⟩ hN
   have hi6:i<6:=by omega
   have eD9:H' dr=some (.lst (intsV [x0,x1,y0,y1,y2,y3,y4,y5])):=hbut _ _ rd eD7
   have eW9:H' wd=some (.lst (strsV ws)):=hbut _ _ rw' eW7
   obtain⟨y,ey⟩:∃y,[y0,y1,y2,y3,y4,y5][i]? = some y:=⟨_,List.getElem?_eq_getElem (by simpa using hi6)⟩
   have by':=hy i y ey
   have aty:atI (intsV [x0,x1,y0,y1,y2,y3,y4,y5]) (2+(0+(i:Int)))=some (.int y):=by
    have e:(2:Int)+(0+(i:Int))=((i+2:Nat):Int):=by omega
    rw[e]
    exact qCa (by simpa using ey)
   obtain⟨wi,ewi⟩:∃x,ws[i]? = some x:=⟨_,List.getElem?_eq_getElem (by omega)⟩
   have atw:atI (strsV ws) (0+(i:Int))=some (.str wi):=by
    rw[Int.zero_add]
    exact jR (by rw[List.getElem?_map,ewi];rfl)
   refine⟨_,rfl,_,rfl,2,_,rfl,rfl,dr,_,_,.int y,rfl,rfl,SqL.of eD9,aty,2,y,rfl,rfl,_,rfl,_,_,rfl,?_⟩
   generalize hsz:(if ro<2+y then ro else 2+y)=sz
   refine⟨_,rfl,sz,1,rfl,rfl,_,rfl,?_⟩
   have szle:sz≤5∧sz≤ro∧(sz≤1→ro≤1):=by
    rw[← hsz]
    by_cases hlt:ro<2+y
    ·rw[if_pos hlt];omega
    ·rw[if_neg hlt];omega
   refine ite2 (fun c=>?_) (fun c=>?_)
   ·have c':1<sz:=of_decide_eq_true c
    refine⟨_,rfl,.inl ⟨rfl,_,SqL.of hru⟩,_,rfl,_,rfl,wd,_,_,.str wi,rfl,rfl,SqL.of eW9,atw,_,rfl,(by show 2≤sizeLine;decide),fun t ht=>?_⟩
    have tr:r≠t:=qB hru ht
    have hl:=hp.length
    refine⟨r,us,.ref t,rfl,rfl,by rw[qA tr];exact hru,by rw[← hl];exact small (by omega),?_⟩
    refine⟨_,rfl,_,rfl,ro,sz,rfl,rfl,⟨by omega,big _ (by omega) (Int.lt_of_le_of_lt (b:=10) (by omega) (by decide +kernel))⟩,?_⟩
    have T1:Tups H' (upd (upd H' t (.tup [.str wi,.int sz])) r (.lst (us++[.ref t]))):=fun b ys e=>by
     rw[qA (kI e hru (by intro z;cases z)),qA (qB e ht)];exact e
    have dv:ro / sz * sz≤ro:=Int.ediv_mul_le _ (by omega)
    have d1:1≤ro / sz:=by
     apply Int.le_ediv_of_mul_le (by omega)
     omega
    refine hN _ _ ⟨bs++[(wi,sz)],us++[.ref t],ro / sz,_,_,rfl,fun b o hb e=>?_,qW,Paired.snoc (xK T1 hp) ⟨t,rfl,by rw[qA (Ne.symm tr)];exact qW⟩,by simp;omega,fun _=>by simp,fun b hb=>?_,d1,fun z=>by omega,?_,?_,?_⟩
    ·rw[qA hb,qA (qB (hbut _ _ hb e) ht)];exact hbut _ _ hb e
    ·rcases List.mem_append.mp hb with h | h
     ·exact hb25 b h
     ·rw[List.mem_singleton.mp h];exact⟨by show 2≤sz;omega,szle.1⟩
    ·rw[List.map_append]
     show 1≤((bs.map (·.2))++[sz]).foldl (· * ·) 1
     rw[qJf]
     have:=Int.mul_le_mul hf1 (show(1:Int)≤sz by omega) (by decide) (by omega)
     omega
    ·rw[List.map_append]
     show((bs.map (·.2))++[sz]).foldl (· * ·) 1 * (ro / sz)≤200
     rw[qJf,Int.mul_assoc,Int.mul_comm sz]
     have:=Int.mul_le_mul_of_nonneg_left dv (show 0≤(bs.map (·.2)).foldl (· * ·) 1 by omega)
     omega
    ·rw[List.map_append,List.take_add_one,ewi]
     exact List.Sublist.append hsub (List.Sublist.refl _)
   ·have c':¬1<sz:=of_decide_eq_false (Bool.eq_false_iff.mpr c)
    refine hN _ _ ⟨bs,us,ro,_,_,rfl,hbut,hru,hp,by omega,fun _=>?_,hb25,hro,fun z=>by omega,hf1,hf2,hsub.trans (by rw[List.take_add_one];exact List.sublist_append_left _ _)⟩
    by_cases h0:i=0
    ·have:=hr0 h0;omega
    ·exact hb1 (by omega)
  ·rintro σ' H' ⟨bs,us,ro,z1,z2,rfl,hbut,hru,hp,hbl,hb1,hb25,hro,hr0,hf1,hf2,hsub⟩
   refine⟨_,rfl,q r bs us H' rH (fun b o e=>hbut _ _ (qB e rH) (S7 _ _ e)) hru hp (hb1 (by omega)) (by omega) hb25 ?_ (nmd.sub (hsub.trans (List.take_sublist _ _)))⟩
   have:=Int.mul_le_mul_of_nonneg_left hro (show 0≤(bs.map (·.2)).foldl (· * ·) 1 by omega)
   omega
 obtain⟨u,hu,go⟩:=rest
 refine⟨_,qZ (qN (i:=1) zG.nd rfl (by wtm_at "zo") (zI G_law_drawn hr rfl E_law_drawn.mg E_law_drawn.kp E_law_drawn.bd .nil pass0 (qQ (pv 0) (qQ (xX jC (xI (qQ (xX yB qF qF) (qQ qF qX))) (xX qTx (xI (qQ qF qX)) qF)) qX)))) (qZ (qN (i:=2) zG.nd rfl (by wtm_at "zo") (zI G_law_unlike hr rfl E_law_unlike.mg E_law_unlike.kp E_law_unlike.bd .nil pass0 (qQ (xH (qU (K:=K)) (pv 1) qF (fun _ _=>rfl)) (qQ qF qX)))) (qZ (zK (qS zM (xX xT (xH (qU (K:=K)) (pv 1) qF (fun _ _=>rfl)) qF) qF (xE _)) (qJ (qN (i:=2) zG.nd rfl (by wtm_at "zo") (xI (qQ qG (qQ qG (qQ qG (qQ qG (qQ qG (qQ qG qX))))))))) qY) hu)),?_⟩
 refine⟨_,rfl,10,9,rfl,rfl,pw 10 9 (by decide) (by decide) (by decide),(by show 2≤sizeLine;decide),fun l1 hl1=>?_⟩
 refine⟨(by show 1≤sizeLine;decide),fun l2 hl2=>?_⟩
 have n12:l1≠l2:=qB qW hl2
 refine⟨l2,6,_,rfl,rfl,qW,by decide,by decide,(by show 1 * 6≤sizeLine;decide),fun l3 hl3=>?_⟩
 have x1:upd (upd (upd H l1 (.lst [.int (10 ^ (9:Int).toNat),.int 6])) l2 (.lst [.int 4])) l3 (.lst (List.replicate (6:Int).toNat [V.int 4]).flatten) l1=some (.lst [.int (10 ^ (9:Int).toNat),.int 6]):=by
  rw[qA (qB (by rw[qA n12];exact qW) hl3),qA n12];exact qW
 refine⟨l1,l3,_,_,rfl,rfl,x1,qW,(by show 2+6≤sizeLine;decide),fun l4 hl4=>?_⟩
 refine⟨c,l4,[10 ^ 9,6,4,4,4,4,4,4],rfl,qW,by decide,by decide,fun dr xs hdr hxl hxb=>?_⟩
 have S4:Same H (upd (upd (upd (upd H l1 (.lst [.int (10 ^ (9:Int).toNat),.int 6])) l2 (.lst [.int 4])) l3 (.lst (List.replicate (6:Int).toNat [V.int 4]).flatten)) l4 (.lst ([.int (10 ^ (9:Int).toNat),.int 6]++(List.replicate (6:Int).toNat [V.int 4]).flatten))):=
  (qV hl1 _).trans ((qV hl2 _).trans ((qV hl3 _).trans (qV hl4 _)))
 generalize upd (upd (upd (upd H l1 (.lst [.int (10 ^ (9:Int).toNat),.int 6])) l2 (.lst [.int 4])) l3 (.lst (List.replicate (6:Int).toNat [V.int 4]).flatten)) l4 (.lst ([.int (10 ^ (9:Int).toNat),.int 6]++(List.replicate (6:Int).toNat [V.int 4]).flatten))=H4 at hdr S4
 obtain⟨x0,x1,y0,y1,y2,y3,y4,y5,rfl⟩:=eight hxl
 have b0:=hxb 0 x0 (10 ^ 9) rfl rfl
 have b1:=hxb 1 x1 6 rfl rfl
 have hy:∀(j:Nat) (y:Int),[y0,y1,y2,y3,y4,y5][j]? = some y→0≤y∧y<4:=fun j y e=>by
  have hj:j<6:=(List.getElem?_eq_some_iff.mp e).1
  refine hxb (j+2) y 4 (by simpa using e) ?_
  exact qFz ⟨j,hj⟩
 have S5:Same H (upd H4 dr (.lst (intsV [x0,x1,y0,y1,y2,y3,y4,y5]))):=S4.trans (qV hdr _)
 have eD:upd H4 dr (.lst (intsV [x0,x1,y0,y1,y2,y3,y4,y5])) dr=some (.lst (intsV [x0,x1,y0,y1,y2,y3,y4,y5])):=qW
 generalize upd H4 dr (.lst (intsV [x0,x1,y0,y1,y2,y3,y4,y5]))=H5 at S5 eD
 refine⟨_,rfl,dr,_,0,.int x0,rfl,rfl,SqL.of eD,rfl,x0,6,rfl,b0.1,by decide,by decide,fun wd ws hwd hwl hwp=>?_⟩
 have S6:Same H (upd H5 wd (.lst (strsV ws))):=S5.trans (qV hwd _)
 have eD6:upd H5 wd (.lst (strsV ws)) dr=some (.lst (intsV [x0,x1,y0,y1,y2,y3,y4,y5])):=by rw[qA (qB eD hwd)];exact eD
 have eW6:upd H5 wd (.lst (strsV ws)) wd=some (.lst (strsV ws)):=qW
 generalize upd H5 wd (.lst (strsV ws))=H6 at S6 eD6 eW6
 refine⟨_,rfl,dr,_,0,.int x0,rfl,rfl,SqL.of eD6,rfl,x0,8,rfl,rfl,(by decide:(0:Int)<8),rfl,_,rfl,?_⟩
 refine ite2 (fun _=>?_) (fun _=>?_)
 ·refine⟨(by show 6≤sizeLine;decide),fun p hp=>?_⟩
  exact go dr x0 x1 y0 y1 y2 y3 y4 y5 b1.1 b1.2 hy p ["way","goal","begin","end","deed","look"] _ (S6.trans (qV hp _)) (by rw[qA (qB eD6 hp)];exact eD6) qW rfl qGh
 ·exact go dr x0 x1 y0 y1 y2 y3 y4 y5 b1.1 b1.2 hy wd ws H6 S6 eD6 eW6 hwl hwp.named

theorem vU:xM ["deck","words","deep","kind","one"] ["deck","words","deep"] (xB (top 41)):=⟨rfl,rfl,rfl,by decide +kernel,rfl,by decide +kernel,by decide +kernel⟩
noncomputable def Expr' (ws:List Str):Th→Prop
 | .num n=>0≤n∧n<10
 | .box x=>x∈ws
 | .nul _=>False
 | .un _ _=>False
 | .bin k a b=>(k = "plus" ∨ k = "less")∧Expr' ws a∧Expr' ws b
theorem qXg:Th.Op "plus" := ⟨by decide +kernel,by decide +kernel⟩
theorem qXi:Th.Op "less" := ⟨by decide +kernel,by decide +kernel⟩
theorem Expr'.ok {ws:List Str}:∀{t:Th},Expr' ws t→t.Ok
 | .num _,_=>trivial
 | .box _,_=>trivial
 | .nul _,h=>h.elim
 | .un _ _,h=>h.elim
 | .bin k a b,⟨h,ha,hb⟩=>⟨by rcases h with rfl | rfl;exact qXg;exact qXi,Expr'.ok ha,Expr'.ok hb⟩
structure Dk (H:Hp)(dk wd:Addr)(ws:List Str):Prop where
 deck:∃d:Int,H dk=some (.lst [.int d])
 words:H wd=some (.lst (strsV ws))
 ne:ws≠[]
 le:ws.length≤100
 ap:wd≠dk
theorem Dk.but {H H':Hp}{dk wd:Addr}{ws:List Str}(D:Dk H dk wd ws)(b:But dk H H'){d:Int}(h:H' dk=some (.lst [.int d])):Dk H' dk wd ws:=⟨⟨d,h⟩,b _ _ D.ap D.words,D.ne,D.le,D.ap⟩
noncomputable def spExpr (n:Nat):Sp:=fun vs H Q _=>∃(dk wd:Addr) (ws:List Str) (dp:Int),vs=[.ref dk,.ref wd,.int dp]∧Dk H dk wd ws∧0≤dp∧dp<n∧
 ∀(t:Th) (v:V) (H':Hp),But dk H H'→Dk H' dk wd ws→t.At H' v→Expr' ws t→t.dep≤dp.toNat+1→Q v H'
theorem qMl {f:Addr}{fd:FuncData}:FnOk P w K mg base CX0 1 f fd ["deck","words","deep"] (spExpr 0):=by
 have no:∀vs H Q E,¬spExpr 0 vs H Q E:=fun vs H Q E h=>by
  obtain⟨_,_,_,dp,_,_,h1,h2,_⟩:=h
  omega
 exact⟨fun vs H Q E h=>absurd h (no vs H Q E),fun A outer s H args us vs Q E _ _ _ _ h=>absurd h (no vs H Q E)⟩
theorem qIh {ws:List Str}{i:Int}(h0:0≤i)(h1:i<ws.length):∃x,x∈ws∧atI (strsV ws) i=some (.str x):=by
 have e:i=((i.toNat:Nat):Int):=by omega
 have hk:i.toNat<ws.length:=by omega
 have z:atI (strsV ws) ((i.toNat:Nat):Int)=some (.str ws[i.toNat]):=jR (by rw[List.getElem?_map,List.getElem?_eq_getElem hk];rfl)
 rw[← e] at z
 exact⟨_,List.getElem_mem hk,z⟩
theorem qMi {n:Nat}{f g:Addr}{fd gd:FuncData}(F:Fun K "_law_expr" "_law_expr" (top 41) f fd)(B:Bl mg)(G_law_expr:FnOk P w K mg base CX0 (n+1) f fd ["deck","words","deep"] (spExpr n))(E_law_expr:FunE K mg "_law_expr" f fd ["deck","words","deep"])
  (G_law_take:FnOk P w K mg base CX0 (n+1) g gd ["deck","many"] spTake) (E_law_take:FunE K mg "_law_take" g gd ["deck","many"]):FnOk P w K mg base CX0 (n+2) f fd ["deck","words","deep"] (spExpr (n+1)):=by
 refine F.ok vU (fun vs H Q E h=>?_) (fun cdv A outer s H vs Q E hr h=>?_)
 ·obtain⟨_,_,_,_,rfl,_⟩:=h
  rfl
 obtain⟨dk,wd,ws,dp,rfl,D,h0,h1,q⟩:=h
 obtain⟨de,hde⟩:=D.deck
 refine⟨_,(qZ (qN (i:=3) vU.nd rfl (by wtm_at "zo") (zI G_law_take hr rfl E_law_take.mg E_law_take.kp E_law_take.bd .nil pass0 (qQ (pv 0) (qQ qF qX))))
  (qZ (zK (PW.pt (qWg (qS zM (pv 2) qF (xE _)) (qJj (qS qQf (pv 3) qF (xE _))))) (qZ (zK (qS zM (xX xT (pv 3) qF) qF (xE _)) (qJ (qO (xG (qQ qG (qQ (zI G_law_take hr rfl E_law_take.mg E_law_take.kp E_law_take.bd .nil pass0 (qQ (pv 0) (qQ qF qX))) qX))))) qY)
  (qJ (qO (xG (qQ qG (qQ (xH (qU (K:=K)) (pv 1) (zI G_law_take hr rfl E_law_take.mg E_law_take.kp E_law_take.bd .nil pass0 (qQ (pv 0) (qQ (xJ (xR (K:=K)) rfl B.len' zH (qQ (pv 1) qX)) qX))) (fun _ _=>rfl)) qX)))))) qY)
  (qZ (qN (i:=4) vU.nd rfl (by wtm_at "zo") (zI G_law_expr hr rfl E_law_expr.mg E_law_expr.kp E_law_expr.bd .nil pass0 (qQ (pv 0) (qQ (pv 1) (qQ (xX kY (pv 2) qF) qX)))))
  (qJ (qO (xG (qQ (xH (qU (K:=K)) (xI (qQ qG (qQ qG qX))) (xX kY (pv 3) qF) (fun _ _=>rfl)) (qQ (pv 4) (qQ (zI G_law_expr hr rfl E_law_expr.mg E_law_expr.kp E_law_expr.bd .nil pass0 (qQ (pv 0) (qQ (pv 1) (qQ (xX kY (pv 2) qF) qX)))) qX))))))))),?_⟩
 refine⟨_,rfl,dk,5,de,rfl,hde,by decide,by decide +kernel,fun k d1 hk0 hk5=>?_⟩
 have B1:But dk H (upd H dk (.lst [.int d1])):=But.upd
 have D1:Dk (upd H dk (.lst [.int d1])) dk wd ws:=D.but B1 qW
 generalize upd H dk (.lst [.int d1])=H1 at B1 D1
 show tOr (tTest (tOp rEq (tVar 2) (tC (.int 0)))) (tTest (tOp (rI0 fun i j=>.bl (decide (i<j))) (tVar 3) (tC (.int 3)))) _ _ _
 refine qFm (b1:=decide (V.int dp=V.int 0)) (b2:=decide (k<3)) (fun K h=>⟨_,rfl,rfl,_,rfl,h⟩) (fun K h=>⟨_,rfl,_,_,rfl,rfl,_,rfl,h⟩) _ ?_
 refine ite2 (fun _=>?_) (fun c=>?_)
 ·-- a leaf
  refine⟨_,rfl,k,3,rfl,rfl,(by decide:(0:Int)<3),rfl,_,rfl,?_⟩
  obtain⟨d1',hd1⟩:=D1.deck
  refine ite2 (fun _=>?_) (fun _=>?_)
  ·refine⟨_,rfl,dk,10,d1',rfl,hd1,by decide,by decide +kernel,fun x d2 hx0 hx1=>?_⟩
   refine⟨(by show 2≤sizeLine;decide),fun t ht=>?_⟩
   have B2:But dk H1 (upd (upd H1 dk (.lst [.int d2])) t (.tup [.str "number",.int x])):=But.upd.trans (qV ht _).but
   refine q (.num x) (.ref t) _ (B1.trans B2) (D1.but B2 (d:=d2) ?_) ⟨t,rfl,qW⟩ ⟨hx0,hx1⟩ (by show 1≤_;omega)
   rw[qA (qB qW ht)]
   exact qW
  ·refine⟨_,rfl,_,rfl,_,rfl,wd,_,rfl,.inl (SqL.of D1.words),dk,_,d1',rfl,hd1,?_,?_,fun x d2 hx0 hx1=>?_⟩
   ·rw[xA]
    have:=List.length_pos_iff.mpr D1.ne
    omega
   ·rw[xA]
    have:=D1.le
    exact big _ (by omega) (Int.lt_of_le_of_lt (b:=100) (by omega) (by decide +kernel))
   ·rw[xA] at hx1
    obtain⟨x',hm,ex⟩:=qIh hx0 hx1
    have w2:upd H1 dk (.lst [.int d2]) wd=some (.lst (strsV ws)):=by rw[qA D1.ap];exact D1.words
    refine⟨wd,_,x,.str x',rfl,rfl,SqL.of w2,ex,(by show 2≤sizeLine;decide),fun t ht=>?_⟩
    have B2:But dk H1 (upd (upd H1 dk (.lst [.int d2])) t (.tup [.str "box",.str x'])):=But.upd.trans (qV ht _).but
    refine q (.box x') (.ref t) _ (B1.trans B2) (D1.but B2 (d:=d2) ?_) ⟨t,rfl,qW⟩ hm (by show 1≤_;omega)
    rw[qA (qB qW ht)]
    exact qW
 have c1:¬(V.int dp=V.int 0):=fun z=>c (by rw[decide_eq_true z];rfl)
 have c2:¬k<3:=fun z=>c (by rw[decide_eq_true z,Bool.or_true])
 have dp1:dp≠0:=fun z=>c1 (by rw[z])
 refine⟨_,rfl,_,rfl,_,rfl,_,1,rfl,rfl,dk,wd,ws,dp - 1,rfl,D1,by omega,by omega,fun t1 v1 H2 B2 D2 a1 x1 d1=>?_⟩
 refine⟨(by show 2≤sizeLine;decide),fun l hl=>?_⟩
 have key:∃op:Str,(op = "plus" ∨ op = "less")∧atI [V.str "plus",V.str "less"] (k - 3)=some (.str op):=by
  have:k - 3=0∨k - 3=1:=by omega
  rcases this with e | e
  ·exact⟨"plus",.inl rfl,by rw[e];rfl⟩
  ·exact⟨"less",.inr rfl,by rw[e];rfl⟩
 obtain⟨op,hop,eop⟩:=key
 refine⟨_,rfl,k,3,rfl,rfl,l,_,k - 3,.str op,rfl,rfl,SqL.of qW,eop,_,rfl,_,rfl,_,rfl,_,rfl,_,1,rfl,rfl,dk,wd,ws,dp - 1,rfl,?_,by omega,by omega,fun t2 v2 H3 B3 D3 a2 x2 d2=>?_⟩
 ·obtain⟨d2',hd2⟩:=D2.deck
  exact D2.but (qV hl _).but (d:=d2') (by rw[qA (qB hd2 hl)];exact hd2)
 ·refine⟨(by show 3≤sizeLine;decide),fun t ht=>?_⟩
  have B4:But dk H (upd H3 t (.tup [.str op,v1,v2])):=B1.trans (B2.trans ((qV hl _).but.trans (B3.trans (qV ht _).but)))
  obtain⟨d3',hd3⟩:=D3.deck
  obtain⟨d2',hd2⟩:=D2.deck
  have T2:Tups H2 (upd H3 t (.tup [.str op,v1,v2])):=(qC (qV hl _)).trans ((yO B3 (by rw[qA (qB hd2 hl)];exact hd2)).trans (qC (qV ht _)))
  refine q (.bin op t1 t2) (.ref t) _ B4 (D.but B4 (d:=d3') (by rw[qA (qB hd3 ht)];exact hd3)) ⟨t,v1,v2,rfl,qW,a1.mono T2,a2.mono (qC (qV ht _))⟩ ⟨hop,x1,x2⟩ ?_
  show max t1.dep t2.dep+1≤_
  omega
theorem qGb {f g:Addr}{fd gd:FuncData}(F:Fun K "_law_expr" "_law_expr" (top 41) f fd)(B:Bl mg)(E_law_expr:FunE K mg "_law_expr" f fd ["deck","words","deep"])
  (G:FnOk P w K mg base CX0 1 g gd ["deck","many"] spTake) (E_law_take:FunE K mg "_law_take" g gd ["deck","many"]):∀n:Nat,FnOk P w K mg base CX0 (n+1) f fd ["deck","words","deep"] (spExpr n)
 | 0=>qMl
 | n+1=>qMi F B (qGb F B E_law_expr G E_law_take n) E_law_expr (G.mono (by omega)) E_law_take

theorem kF:xM ["deck","words","deep","kind","one"] ["deck","words","deep"] (xB (top 42)):=⟨rfl,rfl,rfl,by decide +kernel,rfl,by decide +kernel,by decide +kernel⟩
noncomputable def Cond' (ws:List Str):Th→Prop
 | .num _=>False
 | .box _=>False
 | .nul k=>k = "yes"
 | .un k a=>k = "not" ∧ Cond' ws a
 | .bin k a b=>((k = "same" ∨ k = "under")∧Expr' ws a∧Expr' ws b)∨(k = "both" ∧ Cond' ws a∧Cond' ws b)
theorem qPd:Th.Op "same" := ⟨by decide +kernel,by decide +kernel⟩
theorem qMg:Th.Op "under" := ⟨by decide +kernel,by decide +kernel⟩
theorem qPf:Th.Op "both" := ⟨by decide +kernel,by decide +kernel⟩
theorem qTz:Th.Op "not" := ⟨by decide +kernel,by decide +kernel⟩
theorem qTq:Th.Op "yes" := ⟨by decide +kernel,by decide +kernel⟩
theorem Cond'.ok {ws:List Str}:∀{t:Th},Cond' ws t→t.Ok
 | .num _,h=>h.elim
 | .box _,h=>h.elim
 | .nul k,h=>by cases(show k = "yes" from h);exact qTq
 | .un k a,⟨h,ha⟩=>⟨by cases h;exact qTz,Cond'.ok ha⟩
 | .bin k a b,h=>by
  rcases h with⟨h,ha,hb⟩ | ⟨h,ha,hb⟩
  ·exact⟨by rcases h with rfl | rfl;exact qPd;exact qMg,ha.ok,hb.ok⟩
  ·exact⟨by cases h;exact qPf,Cond'.ok ha,Cond'.ok hb⟩
noncomputable def spCond (n:Nat):Sp:=fun vs H Q _=>∃(dk wd:Addr) (ws:List Str) (dp:Int),vs=[.ref dk,.ref wd,.int dp]∧Dk H dk wd ws∧0≤dp∧dp<n∧
 ∀(t:Th) (v:V) (H':Hp),But dk H H'→Dk H' dk wd ws→t.At H' v→Cond' ws t→t.dep≤dp.toNat+4→Q v H'
theorem qMo {f:Addr}{fd:FuncData}:FnOk P w K mg base CX0 1 f fd ["deck","words","deep"] (spCond 0):=by
 have no:∀vs H Q E,¬spCond 0 vs H Q E:=fun vs H Q E h=>by
  obtain⟨_,_,_,dp,_,_,h1,h2,_⟩:=h
  omega
 exact⟨fun vs H Q E h=>absurd h (no vs H Q E),fun A outer s H args us vs Q E _ _ _ _ h=>absurd h (no vs H Q E)⟩
theorem Dk.new {H:Hp}{dk wd p:Addr}{ws:List Str}{o:HO}(D:Dk H dk wd ws)(hp:H p=none):Dk (upd H p o) dk wd ws:=by
 obtain⟨d,hd⟩:=D.deck
 exact D.but (qV hp _).but (d:=d) (by rw[qA (qB hd hp)];exact hd)
theorem qMn {n:Nat}{f g e:Addr}{fd gd ed:FuncData}(F:Fun K "_law_cond" "_law_cond" (top 42) f fd)(B:Bl mg)(G_law_cond:FnOk P w K mg base CX0 (n+5) f fd ["deck","words","deep"] (spCond n))(E_law_cond:FunE K mg "_law_cond" f fd ["deck","words","deep"])
  (G_law_expr:FnOk P w K mg base CX0 (n+5) e ed ["deck","words","deep"] (spExpr 3)) (E_law_expr:FunE K mg "_law_expr" e ed ["deck","words","deep"])
  (G_law_take:FnOk P w K mg base CX0 (n+5) g gd ["deck","many"] spTake) (E_law_take:FunE K mg "_law_take" g gd ["deck","many"]):FnOk P w K mg base CX0 (n+6) f fd ["deck","words","deep"] (spCond (n+1)):=by
 refine F.ok kF (fun vs H Q E h=>?_) (fun cdv A outer s H vs Q E hr h=>?_)
 ·obtain⟨_,_,_,_,rfl,_⟩:=h
  rfl
 obtain⟨dk,wd,ws,dp,rfl,D,h0,h1,q⟩:=h
 obtain⟨de,hde⟩:=D.deck
 refine⟨_,(qZ (qN (i:=3) kF.nd rfl (by wtm_at "zo") (zI G_law_take hr rfl E_law_take.mg E_law_take.kp E_law_take.bd .nil pass0 (qQ (pv 0) (qQ qF qX))))
  (qZ (zK (PW.pt (qWg (qS zM (pv 2) qF (xE _)) (qJj (qS qQf (pv 3) qF (xE _))))) (qZ (zK (qS zM (pv 3) qF (xE _)) (qJ (qO (xG (qQ qG qX)))) qY)
  (qZ (qN (i:=4) kF.nd rfl (by wtm_at "zo") (zI G_law_expr hr rfl E_law_expr.mg E_law_expr.kp E_law_expr.bd .nil pass0 (qQ (pv 0) (qQ (pv 1) (qQ qF qX)))))
  (qJ (qO (xG (qQ (xH (qU (K:=K)) (xI (qQ qG (qQ qG qX))) (xX xT (pv 3) qF) (fun _ _=>rfl)) (qQ (pv 4) (qQ (zI G_law_expr hr rfl E_law_expr.mg E_law_expr.kp E_law_expr.bd .nil pass0 (qQ (pv 0) (qQ (pv 1) (qQ qF qX)))) qX)))))))) qY)
  (qZ (qN (i:=4) kF.nd rfl (by wtm_at "zo") (zI G_law_cond hr rfl E_law_cond.mg E_law_cond.kp E_law_cond.bd .nil pass0 (qQ (pv 0) (qQ (pv 1) (qQ (xX kY (pv 2) qF) qX)))))
  (qZ (zK (qS qQf (pv 3) qF (xE _)) (qJ (qO (xG (qQ qG (qQ (pv 4) qX))))) qY)
  (qJ (qO (xG (qQ qG (qQ (pv 4) (qQ (zI G_law_cond hr rfl E_law_cond.mg E_law_cond.kp E_law_cond.bd .nil pass0 (qQ (pv 0) (qQ (pv 1) (qQ (xX kY (pv 2) qF) qX)))) qX)))))))))),?_⟩
 refine⟨_,rfl,dk,7,de,rfl,hde,by decide,by decide +kernel,fun k d1 hk0 hk5=>?_⟩
 have B1:But dk H (upd H dk (.lst [.int d1])):=But.upd
 have D1:Dk (upd H dk (.lst [.int d1])) dk wd ws:=D.but B1 qW
 generalize upd H dk (.lst [.int d1])=H1 at B1 D1
 show tOr (tTest (tOp rEq (tVar 2) (tC (.int 0)))) (tTest (tOp (rI0 fun i j=>.bl (decide (i<j))) (tVar 3) (tC (.int 3)))) _ _ _
 refine qFm (b1:=decide (V.int dp=V.int 0)) (b2:=decide (k<3)) (fun K h=>⟨_,rfl,rfl,_,rfl,h⟩) (fun K h=>⟨_,rfl,_,_,rfl,rfl,_,rfl,h⟩) _ ?_
 refine ite2 (fun _=>?_) (fun c=>?_)
 ·refine⟨_,rfl,rfl,_,rfl,?_⟩
  refine ite2 (fun _=>?_) (fun _=>?_)
  ·refine⟨(by show 1≤sizeLine;decide),fun t ht=>?_⟩
   exact q (.nul "yes") (.ref t) _ (B1.trans (qV ht _).but) (D1.new ht) ⟨t,rfl,qW⟩ rfl (by show 1≤_;omega)
  ·refine⟨_,rfl,_,rfl,dk,wd,ws,2,rfl,D1,by decide,by decide,fun t1 v1 H2 B2 D2 a1 x1 d1=>?_⟩
   refine⟨(by show 2≤sizeLine;decide),fun l hl=>?_⟩
   have key:∃op:Str,(op = "same" ∨ op = "under")∧atI [V.str "same",V.str "under"] (k % 2)=some (.str op):=by
    have:k % 2=0∨k % 2=1:=by omega
    rcases this with e | e
    ·exact⟨"same",.inl rfl,by rw[e];rfl⟩
    ·exact⟨"under",.inr rfl,by rw[e];rfl⟩
   obtain⟨op,hop,eop⟩:=key
   refine⟨_,rfl,k,2,rfl,rfl,(by decide:(0:Int)<2),l,_,k % 2,.str op,rfl,rfl,SqL.of qW,eop,_,rfl,_,rfl,_,rfl,dk,wd,ws,2,rfl,D2.new hl,by decide,by decide,fun t2 v2 H3 B3 D3 a2 x2 d2=>?_⟩
   refine⟨(by show 3≤sizeLine;decide),fun t ht=>?_⟩
   obtain⟨d2',hd2⟩:=D2.deck
   have T2:Tups H2 (upd H3 t (.tup [.str op,v1,v2])):=(qC (qV hl _)).trans ((yO B3 (by rw[qA (qB hd2 hl)];exact hd2)).trans (qC (qV ht _)))
   refine q (.bin op t1 t2) (.ref t) _ (B1.trans (B2.trans ((qV hl _).but.trans (B3.trans (qV ht _).but)))) (D3.new ht) ⟨t,v1,v2,rfl,qW,a1.mono T2,a2.mono (qC (qV ht _))⟩ (.inl ⟨hop,x1,x2⟩) ?_
   have e3:(2:Int).toNat+1=3:=rfl
   rw[e3] at d1 d2
   show max t1.dep t2.dep+1≤_
   omega
 have c1:¬(V.int dp=V.int 0):=fun z=>c (by rw[decide_eq_true z];rfl)
 have dp1:dp≠0:=fun z=>c1 (by rw[z])
 refine⟨_,rfl,_,rfl,_,rfl,_,1,rfl,rfl,dk,wd,ws,dp - 1,rfl,D1,by omega,by omega,fun t1 v1 H2 B2 D2 a1 x1 d1=>?_⟩
 refine⟨_,rfl,_,_,rfl,rfl,_,rfl,?_⟩
 refine ite2 (fun _=>?_) (fun _=>?_)
 ·refine⟨_,rfl,(by show 2≤sizeLine;decide),fun t ht=>?_⟩
  refine q (.un "not" t1) (.ref t) _ (B1.trans (B2.trans (qV ht _).but)) (D2.new ht) ⟨t,v1,rfl,qW,a1.mono (qC (qV ht _))⟩ ⟨rfl,x1⟩ ?_
  show t1.dep+1≤_
  omega
 ·refine⟨_,rfl,_,rfl,_,rfl,_,rfl,_,1,rfl,rfl,dk,wd,ws,dp - 1,rfl,D2,by omega,by omega,fun t2 v2 H3 B3 D3 a2 x2 d2=>?_⟩
  refine⟨(by show 3≤sizeLine;decide),fun t ht=>?_⟩
  obtain⟨d2',hd2⟩:=D2.deck
  have T2:Tups H2 (upd H3 t (.tup [.str "both",v1,v2])):=(yO B3 hd2).trans (qC (qV ht _))
  refine q (.bin "both" t1 t2) (.ref t) _ (B1.trans (B2.trans (B3.trans (qV ht _).but))) (D3.new ht) ⟨t,v1,v2,rfl,qW,a1.mono T2,a2.mono (qC (qV ht _))⟩ (.inr ⟨rfl,x1,x2⟩) ?_
  show max t1.dep t2.dep+1≤_
  omega
theorem qGc {f g e:Addr}{fd gd ed:FuncData}(F:Fun K "_law_cond" "_law_cond" (top 42) f fd)(B:Bl mg)(E_law_cond:FunE K mg "_law_cond" f fd ["deck","words","deep"])
  (GE:FnOk P w K mg base CX0 4 e ed ["deck","words","deep"] (spExpr 3)) (E_law_expr:FunE K mg "_law_expr" e ed ["deck","words","deep"])
  (G:FnOk P w K mg base CX0 1 g gd ["deck","many"] spTake) (E_law_take:FunE K mg "_law_take" g gd ["deck","many"]):∀n:Nat,FnOk P w K mg base CX0 (n+5) f fd ["deck","words","deep"] (spCond n)
 | 0=>qMo.mono (by omega)
 | n+1=>qMn F B (qGc F B E_law_cond GE E_law_expr G E_law_take n) E_law_cond (GE.mono (by omega)) E_law_expr (G.mono (by omega)) E_law_take

noncomputable def Th.worth (ρ:Str→Int):Th→Int
 | .num n=>n
 | .box x=>ρ x
 | .nul _=>0
 | .un _ _=>0
 | .bin k a b=>if k = "plus" then a.worth ρ+b.worth ρ else a.worth ρ - b.worth ρ
theorem qTc:("less" : Str) ≠ "plus" := by decide +kernel
noncomputable def Env' (kvs:List (Key×V))(ws:List Str)(ρ:Str→Int):Prop:=∀x∈ws,valV kvs (Sum.inr x)=some (.int (ρ x))∧0≤ρ x∧ρ x<10

theorem kE:xM ["expression","values","kind","one","other"] ["expression","values"] (xB (top 15)):=⟨rfl,rfl,rfl,by decide +kernel,rfl,by decide +kernel,by decide +kernel⟩
noncomputable def yI (n:Nat):Sp:=fun vs H Q _=>∃(t:Th) (v:V) (d:Addr) (kvs:List (Key×V)) (ws:List Str) (ρ:Str→Int),vs=[v,.ref d]∧t.At H v∧Expr' ws t∧t.dep≤n∧H d=some (.dK kvs)∧Env' kvs ws ρ∧Q (.int (t.worth ρ)) H
theorem qKn {f:Addr}{fd:FuncData}:FnOk P w K mg base CX0 1 f fd ["expression","values"] (yI 0):=by
 have no:∀vs H Q E,¬yI 0 vs H Q E:=fun vs H Q E h=>by
  obtain⟨t,_,_,_,_,_,_,_,_,h1,_⟩:=h
  have:=t.dep_pos
  omega
 exact⟨fun vs H Q E h=>absurd h (no vs H Q E),fun A outer s H args us vs Q E _ _ _ _ h=>absurd h (no vs H Q E)⟩
theorem qKm {n:Nat}{f:Addr}{fd:FuncData}(F:Fun K "worth_by" "worth_by" (top 15) f fd)(G_worth_by:FnOk P w K mg base CX0 (n+1) f fd ["expression","values"] (yI n))(E_worth_by:FunE K mg "worth_by" f fd ["expression","values"]):
  FnOk P w K mg base CX0 (n+2) f fd ["expression","values"] (yI (n+1)):=by
 refine F.ok kE (fun vs H Q E h=>?_) (fun cdv A outer s H vs Q E hr h=>?_)
 ·obtain⟨_,_,_,_,_,_,rfl,_⟩:=h
  rfl
 obtain⟨t,v,d,kvs,ws,ρ,rfl,at',ex,hn,hd,env,q⟩:=h
 have hu:=qTo hr
 refine⟨_,(qZ (qN (i:=2) kE.nd rfl (by wtm_at "zo") (xH (qT (K:=K)) (pv 0) qF (fun _ _=>rfl)))
  (qZ (zK (qS zM (pv 2) qG (xE _)) (qJ (qO (xH (qT (K:=K)) (pv 0) qF (fun _ _=>rfl)))) qY)
  (qZ (zK (qS zM (pv 2) qG (xE _)) (qJ (qO (qFi hu (pv 1) (xH (qT (K:=K)) (pv 0) qF (fun _ _=>rfl)) (fun _ _=>rfl)))) qY)
  (qZ (qN (i:=3) kE.nd rfl (by wtm_at "zo") (zI G_worth_by hr rfl E_worth_by.mg E_worth_by.kp E_worth_by.bd .nil pass0 (qQ (xH (qT (K:=K)) (pv 0) qF (fun _ _=>rfl)) (qQ (pv 1) qX))))
  (qZ (qN (i:=4) kE.nd rfl (by wtm_at "zo") (zI G_worth_by hr rfl E_worth_by.mg E_worth_by.kp E_worth_by.bd .nil pass0 (qQ (xH (qT (K:=K)) (pv 0) qF (fun _ _=>rfl)) (qQ (pv 1) qX))))
  (qJ (qO (qBa (qS zM (pv 2) qG (xE _)) (xX zB (pv 3) (pv 4)) (xX kY (pv 3) (pv 4)))))))))),?_⟩
 cases t with
 | nul _=>exact False.elim ex
 | un _ _=>exact False.elim ex
 | num n=>
  obtain⟨a,ev,ea⟩:=at'
  subst ev
  refine⟨_,rfl,a,_,0,.str "number",rfl,rfl,SqT.of ea,rfl,?_⟩
  refine⟨_,rfl,rfl,_,rfl,?_⟩
  rw[jZ]
  refine iteT ?_
  exact⟨_,rfl,a,_,1,.int n,rfl,rfl,SqT.of ea,rfl,q⟩
 | box x=>
  obtain⟨a,ev,ea⟩:=at'
  subst ev
  refine⟨_,rfl,a,_,0,.str "box",rfl,rfl,SqT.of ea,rfl,?_⟩
  refine⟨_,rfl,rfl,_,rfl,?_⟩
  rw[xW (Ne.symm qPn)]
  refine iteF ?_
  refine⟨_,rfl,rfl,_,rfl,?_⟩
  rw[jZ]
  refine iteT ?_
  refine⟨_,rfl,_,rfl,a,_,1,.str x,rfl,rfl,SqT.of ea,rfl,d,.int (ρ x),rfl,?_,q⟩
  rw[← (env x ex).1]
  exact DGet.k (k:=Sum.inr x) hd
 | bin k t1 t2=>
  obtain⟨a,u1,u2,ev,ea,a1,a2⟩:=at'
  obtain⟨hk,x1,x2⟩:=ex
  subst ev
  have hn':max t1.dep t2.dep+1≤n+1:=hn
  have k1:k ≠ "number" := by rcases hk with rfl | rfl;exact qXg.2;exact qXi.2
  have k2:k ≠ "box" := by rcases hk with rfl | rfl;exact qXg.1;exact qXi.1
  refine⟨_,rfl,a,_,0,.str k,rfl,rfl,SqT.of ea,rfl,?_⟩
  refine⟨_,rfl,rfl,_,rfl,?_⟩
  rw[xW k1]
  refine iteF ?_
  refine⟨_,rfl,rfl,_,rfl,?_⟩
  rw[xW k2]
  refine iteF ?_
  refine⟨_,rfl,a,_,1,u1,rfl,rfl,SqT.of ea,rfl,_,rfl,t1,u1,d,kvs,ws,ρ,rfl,a1,x1,by omega,hd,env,?_⟩
  refine⟨_,rfl,a,_,2,u2,rfl,rfl,SqT.of ea,rfl,_,rfl,t2,u2,d,kvs,ws,ρ,rfl,a2,x2,by omega,hd,env,?_⟩
  refine⟨_,rfl,rfl,_,rfl,?_⟩
  have q':Q (.int (if k = "plus" then t1.worth ρ+t2.worth ρ else t1.worth ρ - t2.worth ρ)) H:=q
  refine ite2 (fun c=>?_) (fun c=>?_)
  ·have c':k = "plus" := by
    have z:=of_decide_eq_true c
    cases z
    rfl
   rw[if_pos c'] at q'
   exact⟨_,rfl,_,rfl,_,_,rfl,rfl,q'⟩
  ·have c':k ≠ "plus" := fun z=>c (by rw[z,jZ])
   rw[if_neg c'] at q'
   exact⟨_,rfl,_,rfl,_,_,rfl,rfl,q'⟩
theorem qXm {f:Addr}{fd:FuncData}(F:Fun K "worth_by" "worth_by" (top 15) f fd)(E_worth_by:FunE K mg "worth_by" f fd ["expression","values"]):∀n:Nat,FnOk P w K mg base CX0 (n+1) f fd ["expression","values"] (yI n)
 | 0=>qKn
 | n+1=>qKm F (qXm F E_worth_by n) E_worth_by

theorem qJa {x:Str}:∀(kvs:List (Str×V)) (acc:List (Key×V)),((valV acc (Sum.inr x)).isSome=true∨x∈kvs.map (·.1))→(valV (mergeK acc (pairK kvs)) (Sum.inr x)).isSome=true
 | [],acc,h=>by rcases h with h | h;exact h;cases h
 | (n,v)::kvs,acc,h=>by
  show(valV (mergeK (putK acc (Sum.inr n) v) (pairK kvs)) (Sum.inr x)).isSome=true
  refine qJa kvs _ ?_
  rw[qAl]
  by_cases e:x=n
  ·left;subst e;rw[if_pos rfl];rfl
  ·rw[if_neg (fun z=>e (Sum.inr.inj z))]
   rcases h with h | h
   ·exact .inl h
   ·rcases List.mem_cons.mp h with h | h
    ·exact absurd h e
    ·exact .inr h
theorem qXo {Pr:V→Prop}:∀(kvs:List (Str×V)) (acc:List (Key×V)),(∀kv∈kvs,Pr kv.2)→(∀k v,valV acc k=some v→Pr v)→∀k v,valV (mergeK acc (pairK kvs)) k=some v→Pr v
 | [],acc,_,h=>h
 | (n,v)::kvs,acc,hk,h=>by
  show∀k v',valV (mergeK (putK acc (Sum.inr n) v) (pairK kvs)) k=some v'→Pr v'
  refine qXo kvs _ (fun kv hkv=>hk kv (List.mem_cons_of_mem _ hkv)) fun k v' e=>?_
  rw[qAl] at e
  by_cases c:k=Sum.inr n
  ·rw[if_pos c] at e;cases e;exact hk (n,v) List.mem_cons_self
  ·rw[if_neg c] at e;exact h k v' e
noncomputable def envOf (kvs:List (Key×V))(x:Str):Int:=match valV kvs (Sum.inr x) with
 | some (.int i)=>i
 | _=>0
noncomputable abbrev kvsOf (bs:List (Str×Int))(vals:List Int):List (Key×V):=mergeK [] (zipK (bs.map (·.1)) (intsV vals))
noncomputable def Stands (bs:List (Str×Int))(vals:List Int):Prop:=vals.length=bs.length∧∀v∈vals,0≤v∧v<10
theorem qHe {bs:List (Str×Int)}{vals:List Int}(h:Stands bs vals):Env' (kvsOf bs vals) (bs.map (·.1)) (envOf (kvsOf bs vals)):=fun x hx=>by
 have s1:(valV (kvsOf bs vals) (Sum.inr x)).isSome=true:=qJa (x:=x) ((bs.map (fun b:Str×Int=>b.1)).zip (intsV vals)) [] (.inr (by
  rw[List.map_fst_zip]
  ·exact hx
  ·rw[List.length_map,yY,h.1];exact Nat.le_refl _))
 have s2:=qXo (Pr:=fun v=>∃i:Int,v=.int i∧0≤i∧i<10) ((bs.map (fun b:Str×Int=>b.1)).zip (intsV vals)) [] (fun kv hkv=>by
  obtain⟨a,b⟩:=kv
  obtain⟨i,hi,e⟩:=List.mem_map.mp (List.of_mem_zip hkv).2
  exact⟨i,e.symm,h.2 i hi⟩) (fun k v e=>by cases e) (Sum.inr x)
 cases e:valV (kvsOf bs vals) (Sum.inr x) with
 | none=>rw[e] at s1;cases s1
 | some v=>
  obtain⟨i,rfl,h0,h1⟩:=s2 v e
  have e2:envOf (kvsOf bs vals) x=i:=by unfold envOf;rw[e]
  rw[e2]
  exact⟨rfl,h0,h1⟩

theorem wR:xM ["boxes","standing"] ["boxes","standing"] (xB (top 14)):=⟨rfl,rfl,rfl,by decide +kernel,rfl,by decide +kernel,by decide +kernel⟩
theorem jU:CompOk (xB (top 14)) ["boxes","standing"] (qWc (argOf (argOf (asgVal (stAt (xC (top 14)) 0)) 0) 0)) ["name","size"] 2 []:=
 ⟨by decide +kernel,by decide +kernel,by decide +kernel,by decide +kernel,by decide +kernel,by decide +kernel,by decide +kernel,by decide +kernel⟩
structure World' (H:Hp)(bx st:Addr)(bs:List (Str×Int))(vals:List Int):Prop where
 boxes:∃us,H bx=some (.lst us)∧Paired (BoxIn H) bs us
 stand:H st=some (.tup (intsV vals))
 ok:Stands bs vals
 le:bs.length≤100
noncomputable def qQh:Sp:=fun vs H Q _=>∃(bx st:Addr) (bs:List (Str×Int)) (vals:List Int),vs=[.ref bx,.ref st]∧World' H bx st bs vals∧
 ∀(p:Addr) (H':Hp),Same H H'→H' p=some (.dK (kvsOf bs vals))→Q (.ref p) H'
theorem qGj {f:Addr}{fd:FuncData}(F:Fun K "values_by_name" "values_by_name" (top 14) f fd)(B:Bl mg):FnOk P w K mg base CX0 1 f fd ["boxes","standing"] qQh:=by
 refine F.ok wR (fun vs H Q E h=>?_) (fun cdv A outer s H vs Q E hr h=>?_)
 ·obtain⟨_,_,_,_,rfl,_⟩:=h
  rfl
 obtain⟨bx,st,bs,vals,rfl,W,q⟩:=h
 obtain⟨us,e1,p1⟩:=W.boxes
 refine⟨_,qJ (qO (qWi rfl rfl B.dict' rfl B.zip' (qQ (jP rfl jU (qFf (pv 0))
  (fun cl fp s H=>show PG _ _ (gTup K 2 (gCons (gName 0) (gCons (gName 1) gNil))) from qNn rfl (qI (qH (i:=0) jU.nd rfl (Or.inl rfl) (.inr rfl)) (qI (qH (i:=1) jU.nd rfl (Or.inl rfl) (.inr rfl)) qM)))
  (fun cl fp s H=>jJ) (fun cl fp s H=>pv 0)) (qQ (pv 1) qX)))),?_⟩
 refine⟨_,rfl,bx,rfl,⟨us,SqL.of e1⟩,?_⟩
 refine jQ (xs:=us) (fun D i ys H'=>ys=strsV ((bs.take i).map (·.1))∧∀b o,H b=some o→H' b=some o) (fun D hD=>⟨rfl,qV hD _⟩)
  (fun D i ys H' _ hP=>(show Same H H' from hP.2).seq (SqL.of e1)) (fun D i x ys H' N hD hDy ex hP hN=>?_) (fun D ys H2 hD hDy hP=>?_)
 ·obtain⟨rfl,hk⟩:=hP
  obtain⟨b,eb⟩:∃b,bs[i]? = some b:=⟨_,List.getElem?_eq_getElem (by rw[p1.length];exact(List.getElem?_eq_some_iff.mp ex).1)⟩
  obtain⟨ba,rfl,hba⟩:=xV p1 eb ex
  refine⟨ba,_,rfl,SqT.of (hk _ _ hba),rfl,_,_,rfl,_,_,rfl,rfl,⟨[some (.str b.1),some (.int b.2)],rfl,rfl⟩,?_⟩
  have wle:=W.le
  refine⟨_,rfl,hDy,?_,hN _ _ qW ⟨?_,fun b o e=>?_⟩⟩
  ·rw[xA,List.length_map,List.length_take];exact small (by omega)
  ·rw[List.take_add_one,eb,List.map_append,zS];rfl
  ·rw[qA (qB e hD)];exact hk _ _ e
 obtain⟨rfl,hk2⟩:=hP
 have lb:us.length=bs.length:=p1.length.symm
 rw[lb,List.take_length] at hDy
 have wle:=W.le
 refine⟨_,rfl,D,st,bs.map (·.1),intsV vals,rfl,SqL.of hDy,SqT.of (hk2 _ _ W.stand),?_,?_,fun p hp=>?_⟩
 ·rw[List.length_map,yY,W.ok.1]
 ·rw[List.length_map];omega
 ·exact q p _ ((show Same H H2 from hk2).trans (qV hp _)) qW

theorem qYw:xM ["boxes","standing"] ["boxes","standing"] (xB (top 45)):=⟨rfl,rfl,rfl,by decide +kernel,rfl,by decide +kernel,by decide +kernel⟩
theorem wG:CompOk (xB (top 45)) ["boxes","standing"] (qWc (argOf (asgVal (stAt (xC (top 45)) 0)) 0)) ["k","boxes","standing"] 1 [0,1]:=
 ⟨by decide +kernel,by decide +kernel,by decide +kernel,by decide +kernel,by decide +kernel,by decide +kernel,by decide +kernel,by decide +kernel⟩
theorem qDz {H H':Hp}(h:Tups H H'){kvs:List (Str×V)}{us:List V}(p:Paired (PairIn H) kvs us):Paired (PairIn H') kvs us:=Paired.mapP p fun _ _ x=>let ⟨a,e,q⟩:=x;⟨a,e,h _ _ q⟩
theorem qDj {f:Addr}{fd:FuncData}(F:Fun K "_law_values" "_law_values" (top 45) f fd)(B:Bl mg):FnOk P w K mg base CX0 1 f fd ["boxes","standing"] qQh:=by
 refine F.ok qYw (fun vs H Q E h=>?_) (fun cdv A outer s H vs Q E hr h=>?_)
 ·obtain⟨_,_,_,_,rfl,_⟩:=h
  rfl
 obtain⟨bx,st,bs,vals,rfl,W,q⟩:=h
 obtain⟨us,e1,p1⟩:=W.boxes
 have wle:=W.le
 have lb:us.length=bs.length:=p1.length.symm
 have lv:=W.ok.1
 refine⟨_,qJ (qO (xZ (qVm rfl) rfl B.dict' qIe (qQ (jP rfl wG (jF rfl B.range' (qQ (xJ qQc rfl B.len' zH (qQ (pv 0) qX)) qX))
  (fun cl fp s H=>qH (i:=0) wG.nd rfl (Or.inl rfl) (.inr rfl)) (fun cl fp s H=>jJ)
  (fun cl fp s H=>xG (qQ (xH (r:=rIxT K) qHz (xH (r:=rIxL K) qHj (pv 1) (pv 0) (fun _ _=>rfl)) qF (fun _ _=>rfl)) (qQ (xH (r:=rIxT K) qHz (pv 2) (pv 0) (fun _ _=>rfl)) qX)))) qX))),?_⟩
 refine⟨_,rfl,bx,_,rfl,.inl (SqL.of e1),_,rfl,by omega,by omega,?_⟩
 have e0:((us.length:Nat):Int).toNat=us.length:=by omega
 rw[e0]
 refine qQx (fun D i ys H'=>Paired (PairIn H') (((bs.map (·.1)).zip (intsV vals)).take i) ys∧∀b o,H b=some o→H' b=some o) (fun D hD=>⟨.nil,qV hD _⟩)
  (fun D i ys H' N hD hDy hi hP hN=>?_) (fun D ys H2 hD hDy hP=>?_)
 ·obtain⟨hp,hk⟩:=hP
  obtain⟨b,eb⟩:∃b,bs[i]? = some b:=⟨_,List.getElem?_eq_getElem (by omega)⟩
  obtain⟨u,eu⟩:∃u,us[i]? = some u:=⟨_,List.getElem?_eq_getElem hi⟩
  obtain⟨v,ev⟩:∃v,vals[i]? = some v:=⟨_,List.getElem?_eq_getElem (by omega)⟩
  obtain⟨ba,rfl,hba⟩:=xV p1 eb eu
  have lp:=hp.length
  rw[List.length_take,List.length_zip,List.length_map,yY] at lp
  refine⟨⟨[some (.int (0+(i:Int)))],rfl,rfl⟩,?_⟩
  have at1:atI us (0+(i:Int))=some (.ref ba):=by rw[Int.zero_add];exact jR eu
  have at2:atI (intsV vals) (0+(i:Int))=some (.int v):=by rw[Int.zero_add];exact qCa ev
  refine⟨_,rfl,_,rfl,bx,us,_,.ref ba,rfl,rfl,SqL.of (hk _ _ e1),at1,ba,_,0,.str b.1,rfl,rfl,SqT.of (hk _ _ hba),rfl,_,rfl,_,rfl,st,_,_,.int v,rfl,rfl,SqT.of (hk _ _ W.stand),at2,(by show 2≤sizeLine;decide),fun t ht=>?_⟩
  have Dt:D≠t:=qB hDy ht
  refine⟨by rw[qA Dt];exact hDy,by exact small (by omega),hN _ _ qW ⟨?_,fun b o e=>?_⟩⟩
  ·have T1:Tups H' (upd (upd H' t (.tup [.str b.1,.int v])) D (.lst (ys++[.ref t]))):=fun b xs e=>by rw[qA (kI e hDy (by intro z;cases z)),qA (qB e ht)];exact e
   have ez:((bs.map (·.1)).zip (intsV vals))[i]? = some (b.1,.int v):=List.getElem?_zip_eq_some.mpr ⟨by rw[List.getElem?_map,eb];rfl,by rw[List.getElem?_map,ev];rfl⟩
   rw[List.take_add_one,ez]
   exact Paired.snoc (qDz T1 hp) ⟨t,rfl,by rw[qA (Ne.symm Dt)];exact qW⟩
  ·rw[qA (qB e hD),qA (qB (hk _ _ e) ht)];exact hk _ _ e
 obtain⟨hp,hk⟩:=hP
 have lz:((bs.map (·.1)).zip (intsV vals)).length=us.length:=by rw[List.length_zip,List.length_map,yY];omega
 rw[← lz,List.take_length] at hp
 refine⟨D,ys,_,rfl,hDy,hp,by omega,fun p hp'=>?_⟩
 exact q p _ ((show Same H H2 from hk).trans (qV hp' _)) qW

theorem jY:xM ["part","values","total","pile","one","sign"] ["part","values"] (xB (top 43)):=⟨rfl,rfl,rfl,by decide +kernel,rfl,by decide +kernel,by decide +kernel⟩
noncomputable def qYz:Sp:=fun vs H Q _=>∃(t:Th) (v:V) (d:Addr) (kvs:List (Key×V)) (ws:List Str) (ρ:Str→Int),vs=[v,.ref d]∧t.At H v∧Expr' ws t∧t.dep≤12∧H d=some (.dK kvs)∧Env' kvs ws ρ∧∀H',Same H H'→Q (.int (t.worth ρ)) H'
noncomputable def Sig (H:Hp)(ws:List Str)(p:Th×Int)(u:V):Prop:=∃a v,u=.ref a∧H a=some (.tup [v,.int p.2])∧p.1.At H v∧Expr' ws p.1∧(p.2=1∨p.2 = -1)
theorem qQo {H H':Hp}{ws:List Str}(h:Tups H H'){ps:List (Th×Int)}{us:List V}(p:Paired (Sig H ws) ps us):Paired (Sig H' ws) ps us:=Paired.mapP p fun _ _ x=>let ⟨a,v,e,q,r,s⟩:=x;⟨a,v,e,h _ _ q,r.mono h,s⟩
noncomputable def sumAll (ρ:Str→Int)(ps:List (Th×Int)):Int:=(ps.map fun p=>p.2 * p.1.worth ρ).sum
noncomputable def cntS (ps:List (Th×Int)):Nat:=(ps.map fun p=>p.1.cnt).sum
theorem vO (ρ:Str→Int)(ps:List (Th×Int))(p:Th×Int):sumAll ρ (ps++[p])=sumAll ρ ps+p.2 * p.1.worth ρ:=by simp[sumAll]
theorem kB (ps:List (Th×Int))(p:Th×Int):cntS (ps++[p])=cntS ps+p.1.cnt:=by simp[cntS]
theorem qBi:∀ps:List (Th×Int),ps.length≤cntS ps
 | []=>Nat.le_refl _
 | p::r=>by
  have:=qBi r
  have:=p.1.cnt_pos
  show r.length+1≤p.1.cnt+cntS r
  omega
theorem qMk {F:Th×Int→V→Prop}{ts:List (Th×Int)}{us:List V}(p:Paired F ts us)(h:us≠[]):∃ts' t us' u,ts=ts'++[t]∧us=us'++[u]∧Paired F ts' us'∧F t u:=by
 induction p with
 | nil=>exact absurd rfl h
 | @cons a b l₁ l₂ f p ih=>
  cases l₂ with
  | nil=>
   cases p
   exact⟨[],a,[],b,rfl,rfl,.nil,f⟩
  | cons c l₂=>
   obtain⟨ts',t,us',u,e1,e2,p',f'⟩:=ih (by simp)
   exact⟨a::ts',t,b::us',u,by rw[e1];rfl,by rw[e2];rfl,.cons f p',f'⟩
theorem qMv {g:Int}(h:g=1∨g = -1):g.natAbs<2 ^ 1000:=by rcases h with rfl | rfl <;> decide +kernel
noncomputable abbrev PileI (v0:V)(d p:Addr)(ws:List Str)(ρ:Str→Int)(t0:Th)(H:Hp)(m:Nat)(σ':St)(H':Hp):Prop:=∃(tt:Int) (ps:List (Th×Int)) (us:List V) (z1 z2:Option V),σ'=[some v0,some (.ref d),some (.int tt),some (.ref p),z1,z2]∧m=cntS ps∧(∀b o,b≠p→H b=some o→H' b=some o)∧H' p=some (.lst us)∧
   Paired (Sig H' ws) ps us∧tt+sumAll ρ ps=t0.worth ρ∧cntS ps≤t0.cnt
theorem qGa {f:Addr}{fd:FuncData}(F:Fun K "_law_worth" "_law_worth" (top 43) f fd)(B:Bl mg):FnOk P w K mg base CX0 1 f fd ["part","values"] qYz:=by
 refine F.ok jY (fun vs H Q E h=>?_) (fun cdv A outer s H vs Q E hr h=>?_)
 ·obtain⟨_,_,_,_,_,_,rfl,_⟩:=h
  rfl
 obtain⟨t0,v0,d,kvs,ws,ρ,rfl,at0,ex0,h12,hd,env,q⟩:=h
 have hu:=qTo hr
 have cs:=t0.cnt_small h12
 refine⟨_,(qZ (qN (i:=2) jY.nd rfl (by wtm_at "zo") qF)
  (qZ (qN (i:=3) jY.nd rfl (by wtm_at "zo") (xI (qQ (xG (qQ (pv 0) (qQ qF qX))) qX)))
  (qZ (qMc PassesOwn.never (qS (qXh (K:=K) hr.units) (pv 3) (xI qX) (xE _)) (qZ (qP (qPb (K:=K) PySem.F.plainAttrs_list PySem.F.slot_list_pop PySem.F.type_list_pop qTe (pv 3)) (jV (K:=K) (n:=2) rfl (qI (qH (i:=4) jY.nd rfl (by wtm_at "zo")) (qI (qH (i:=5) jY.nd rfl (by wtm_at "zo")) qM))))
  (qJ (zK (qS zM (xH (qT (K:=K)) (pv 4) qF (fun _ _=>rfl)) qG (xE _)) (qJ (qN (i:=2) jY.nd rfl (by wtm_at "zo") (xX zB (pv 2) (xX yV (pv 5) (xH (qT (K:=K)) (pv 4) qF (fun _ _=>rfl)))))) (qJ (zK (qS zM (xH (qT (K:=K)) (pv 4) qF (fun _ _=>rfl)) qG (xE _)) (qJ (qN (i:=2) jY.nd rfl (by wtm_at "zo") (xX zB (pv 2) (xX yV (pv 5) (qFi hu (pv 1) (xH (qT (K:=K)) (pv 4) qF (fun _ _=>rfl)) (fun _ _=>rfl)))))) (qZ (qR (kJ (K:=K) PySem.F.plainAttrs_list PySem.F.slot_list_append PySem.F.type_list_append zU (pv 3) (qQ (xG (qQ (xH (qT (K:=K)) (pv 4) qF (fun _ _=>rfl)) (qQ (pv 5) qX))) qX)))
  (qJ (qR (kJ (K:=K) PySem.F.plainAttrs_list PySem.F.slot_list_append PySem.F.type_list_append zU (pv 3) (qQ (xG (qQ (xH (qT (K:=K)) (pv 4) qF (fun _ _=>rfl)) (qQ (xH (qU (K:=K)) (xI (qQ (qYb wZ (pv 5)) (qQ (pv 5) qX))) (xZ qZe rfl B.int' qCw (qQ (vQ zM (xH (qT (K:=K)) (pv 4) qF (fun _ _=>rfl)) qG (xE _)) qX)) (fun _ _=>rfl)) qX))) qX)))))))))))
  (qJ (qO (pv 2)))))),?_⟩
 refine⟨_,rfl,(by show 2≤sizeLine;decide),fun a1 ha1=>?_⟩
 refine⟨(by show 1≤sizeLine;decide),fun p hp=>?_⟩
 have hpH:H p=none:=(qV ha1 _).free hp
 have T0:Tups H (upd (upd H a1 (.tup [v0,.int 1])) p (.lst [.ref a1])):=(qC (qV ha1 _)).trans (qC (qV hp _))
 refine⟨fun m σ' H'=>PileI v0 d p ws ρ t0 H m σ' H',
  ⟨_,0,[(t0,1)],[.ref a1],none,none,rfl,rfl,fun b o h1 e=>by rw[qA h1,qA (qB e ha1)];exact e,qW,.cons ⟨a1,v0,rfl,qV hp _ _ _ qW,at0.mono T0,ex0,.inl rfl⟩ .nil,by simp[sumAll],by simp[cntS]⟩,?_⟩
 rintro m σ' H' ⟨tt,ps,us,z1,z2,rfl,rfl,hk,hpu,hpile,hsum,hcnt⟩
 refine⟨_,rfl,(by show 0≤sizeLine;decide),fun e0 he0=>?_⟩
 have n2:p≠e0:=qB hpu he0
 have hpu1:upd H' e0 (.lst []) p=some (.lst us):=by rw[qA n2];exact hpu
 have hk1:∀b o,b≠p→H b=some o→upd H' e0 (.lst []) b=some o:=fun b o h1 e=>by rw[qA (qB (hk b o h1 e) he0)];exact hk b o h1 e
 have hpile1:=qQo (qC (qV he0 (.lst []))) hpile
 have he1:upd H' e0 (.lst []) e0=some (.lst []):=qW
 generalize upd H' e0 (.lst [])=H1 at hpu1 hk1 hpile1 he1
 refine⟨p,e0,us,rfl,rfl,SqL.of hpu1,SqL.of he1,_,rfl,?_⟩
 cases hus:us with
 | nil=>
  subst hus
  cases hpile1
  refine iteF ?_
  have:tt=t0.worth ρ:=by simpa [sumAll] using hsum
  subst this
  exact⟨_,rfl,q H1 fun b o e=>hk1 b o (qB e hpH) e⟩
 | cons u0 ur=>
  obtain⟨ps',⟨t,g⟩,us',u,rfl,eu,hp',⟨a,v,rfl,ha,ata,exa,hg⟩⟩:=qMk hpile1 (by rw[hus];simp)
  rw[hus] at eu
  refine iteT ?_
  have ha:H1 a=some (.tup [v,.int g]):=ha
  have ata:t.At H1 v:=ata
  have exa:Expr' ws t:=exa
  have hg:g=1∨g = -1:=hg
  rw[kB] at hcnt
  rw[vO] at hsum
  have hsum:tt+(sumAll ρ ps'+g * t.worth ρ)=t0.worth ρ:=hsum
  have hcnt:cntS ps'+t.cnt≤t0.cnt:=hcnt
  have lp:=hp'.length
  have lc:=qBi ps'
  have tc:=t.cnt_pos
  have gs:=qMv hg
  obtain⟨N,hN,hN'⟩:∃N:St→Hp→Prop,(∀σ' H',N σ' H'→∃m',m'<cntS (ps'++[(t,g)])∧PileI v0 d p ws ρ t0 H m' σ' H')∧∀σ' H',(∃m',m'<cntS ps'+t.cnt∧PileI v0 d p ws ρ t0 H m' σ' H')→N σ' H':=⟨_,fun _ _ h=>h,fun _ _ h=>by rw[kB];exact h⟩
  refine⟨N,hN,?_⟩
  have hpu2:H1 p=some (.lst (us'++[.ref a])):=by rw[hpu1,hus,eu]
  have T1:Tups H1 (upd H1 p (.lst us')):=fun b xs e=>by rw[qA (kI e hpu2 (by intro z;cases z))];exact e
  refine⟨_,rfl,.inl ⟨rfl,_,SqL.of hpu2⟩,p,_,.ref a,rfl,rfl,hpu2,by simp,?_⟩
  rw[List.dropLast_concat]
  have ha2:=T1 _ _ ha
  have hpu3:upd H1 p (.lst us') p=some (.lst us'):=qW
  have hk2:∀b o,b≠p→H b=some o→upd H1 p (.lst us') b=some o:=fun b o h1 e=>by rw[qA h1];exact hk1 b o h1 e
  have hp2:=qQo T1 hp'
  have ata2:=ata.mono T1
  generalize upd H1 p (.lst us')=H2 at ha2 hpu3 hk2 hp2 ata2
  refine⟨a,_,rfl,SqT.of ha2,rfl,_,_,rfl,_,_,rfl,rfl,?_⟩
  have pd:d≠p:=qB hd hpH
  cases t with
  | nul _=>exact False.elim exa
  | un _ _=>exact False.elim exa
  | num n=>
   obtain⟨b,ev,eb⟩:=ata2
   obtain⟨hn0,hn1⟩:=exa
   subst ev
   refine⟨_,rfl,b,_,0,.str "number",rfl,rfl,SqT.of eb,rfl,rfl,_,rfl,?_⟩
   rw[jZ]
   refine iteT ?_
   refine⟨_,rfl,_,rfl,_,rfl,b,_,1,.int n,rfl,rfl,SqT.of eb,rfl,g,n,rfl,rfl,⟨gs,big _ hn0 (Int.lt_trans hn1 (by decide +kernel))⟩,_,_,rfl,rfl,?_⟩
   refine hN' _ _ ⟨_,?_,tt+g * n,ps',us',_,_,rfl,rfl,hk2,hpu3,hp2,?_,?_⟩
   ·have:(Th.num n).cnt=1:=rfl
    show cntS ps'<cntS ps'+1
    omega
   ·have:(Th.num n).worth ρ=n:=rfl
    rw[this] at hsum
    omega
   ·omega
  | box x=>
   obtain⟨b,ev,eb⟩:=ata2
   subst ev
   have ex:x∈ws:=exa
   refine⟨_,rfl,b,_,0,.str "box",rfl,rfl,SqT.of eb,rfl,rfl,_,rfl,?_⟩
   rw[xW (Ne.symm qPn)]
   refine iteF ?_
   refine⟨_,rfl,b,_,0,.str "box",rfl,rfl,SqT.of eb,rfl,rfl,_,rfl,?_⟩
   rw[jZ]
   refine iteT ?_
   obtain⟨ev,h0,h1⟩:=env x ex
   refine⟨_,rfl,_,rfl,_,rfl,_,rfl,b,_,1,.str x,rfl,rfl,SqT.of eb,rfl,d,.int (ρ x),rfl,?_,g,ρ x,rfl,rfl,⟨gs,big _ h0 (Int.lt_trans h1 (by decide +kernel))⟩,_,_,rfl,rfl,?_⟩
   ·rw[← ev]
    exact DGet.k (k:=Sum.inr x) (hk2 _ _ pd hd)
   refine hN' _ _ ⟨_,?_,tt+g * ρ x,ps',us',_,_,rfl,rfl,hk2,hpu3,hp2,?_,?_⟩
   ·show cntS ps'<cntS ps'+1
    omega
   ·have:(Th.box x).worth ρ=ρ x:=rfl
    rw[this] at hsum
    omega
   ·omega
  | bin k t1 t2=>
   obtain⟨b,u1,u2,ev,eb,b1,b2⟩:=ata2
   obtain⟨hk',x1,x2⟩:=exa
   subst ev
   have k1:k ≠ "number" := by rcases hk' with rfl | rfl;exact qXg.2;exact qXi.2
   have k2:k ≠ "box" := by rcases hk' with rfl | rfl;exact qXg.1;exact qXi.1
   have hcnt:cntS ps'+(t1.cnt+t2.cnt+1)≤t0.cnt:=hcnt
   refine⟨_,rfl,b,_,0,.str k,rfl,rfl,SqT.of eb,rfl,rfl,_,rfl,?_⟩
   rw[xW k1]
   refine iteF ?_
   refine⟨_,rfl,b,_,0,.str k,rfl,rfl,SqT.of eb,rfl,rfl,_,rfl,?_⟩
   rw[xW k2]
   refine iteF ?_
   refine⟨_,rfl,.inl ⟨rfl,_,SqL.of hpu3⟩,_,rfl,b,_,1,u1,rfl,rfl,SqT.of eb,rfl,_,rfl,(by show 2≤sizeLine;decide),fun c1 hc1=>?_⟩
   have pc1:p≠c1:=qB hpu3 hc1
   refine⟨p,us',.ref c1,rfl,rfl,by rw[qA pc1];exact hpu3,by rw[← lp];exact small (by omega),?_⟩
   have T3:Tups H2 (upd (upd H2 c1 (.tup [u1,.int g])) p (.lst (us'++[.ref c1]))):=fun b xs e=>by rw[qA (kI e hpu3 (by intro z;cases z)),qA (qB e hc1)];exact e
   have ec1:upd (upd H2 c1 (.tup [u1,.int g])) p (.lst (us'++[.ref c1])) c1=some (.tup [u1,.int g]):=by rw[qA (Ne.symm pc1)];exact qW
   have hpu4:upd (upd H2 c1 (.tup [u1,.int g])) p (.lst (us'++[.ref c1])) p=some (.lst (us'++[.ref c1])):=qW
   have hk3:∀b o,b≠p→H b=some o→upd (upd H2 c1 (.tup [u1,.int g])) p (.lst (us'++[.ref c1])) b=some o:=fun b o h1 e=>by rw[qA h1,qA (qB (hk2 b o h1 e) hc1)];exact hk2 b o h1 e
   have hp3:Paired (Sig (upd (upd H2 c1 (.tup [u1,.int g])) p (.lst (us'++[.ref c1]))) ws) (ps'++[(t1,g)]) (us'++[.ref c1]):=Paired.snoc (qQo T3 hp2) ⟨c1,u1,rfl,ec1,b1.mono T3,x1,hg⟩
   have eb3:=T3 _ _ eb
   have b23:=b2.mono T3
   generalize upd (upd H2 c1 (.tup [u1,.int g])) p (.lst (us'++[.ref c1]))=H3 at hpu4 hk3 hp3 eb3 b23
   obtain⟨g2,hg2,eg2,wg2⟩:∃g2:Int,(g2=1∨g2 = -1)∧atI [V.int (-g),V.int g] (if decide (V.str k=V.str "plus")=true then 1 else 0)=some (.int g2)∧g * (Th.bin k t1 t2).worth ρ=g * t1.worth ρ+g2 * t2.worth ρ:=by
    rcases hk' with rfl | rfl
    ·refine⟨g,hg,by rw[jZ,if_pos rfl];rfl,?_⟩
     show g * (if ("plus" : Str) = "plus" then t1.worth ρ+t2.worth ρ else t1.worth ρ - t2.worth ρ)=_
     rw[if_pos rfl,Int.mul_add]
    ·refine⟨-g,by rcases hg with rfl | rfl;exact .inr rfl;exact .inl rfl,by rw[xW qTc,if_neg Bool.false_ne_true];rfl,?_⟩
     show g * (if ("less" : Str) = "plus" then t1.worth ρ+t2.worth ρ else t1.worth ρ - t2.worth ρ)=_
     rw[if_neg qTc,Int.mul_sub,Int.neg_mul]
     omega
   refine⟨_,rfl,.inl ⟨rfl,_,SqL.of hpu4⟩,_,rfl,b,_,2,u2,rfl,rfl,SqT.of eb3,rfl,_,rfl,_,rfl,_,rfl,(by show 2≤sizeLine;decide),fun l hl=>?_⟩
   have eb4:upd H3 l (.lst [.int (-g),.int g]) b=some (.tup [.str k,u1,u2]):=by rw[qA (qB eb3 hl)];exact eb3
   refine⟨_,rfl,b,_,0,.str k,rfl,rfl,SqT.of eb4,rfl,rfl,.inr ⟨_,rfl,?_⟩⟩
   have pl:p≠l:=qB hpu4 hl
   refine⟨l,_,_,.int g2,rfl,rfl,SqL.of qW,eg2,(by show 2≤sizeLine;decide),fun c2 hc2=>?_⟩
   have hpu5:upd H3 l (.lst [.int (-g),.int g]) p=some (.lst (us'++[.ref c1])):=by rw[qA pl];exact hpu4
   have pc2:p≠c2:=qB hpu5 hc2
   refine⟨p,_,.ref c2,rfl,rfl,by rw[qA pc2];exact hpu5,?_,?_⟩
   ·rw[List.length_append,List.length_singleton,← lp];exact small (by omega)
   have T4:Tups H3 (upd (upd (upd H3 l (.lst [.int (-g),.int g])) c2 (.tup [u2,.int g2])) p (.lst (us'++[.ref c1]++[.ref c2]))):=fun b xs e=>by
    rw[qA (kI e hpu4 (by intro z;cases z)),qA (qB (qV hl _ _ _ e) hc2),qA (qB e hl)];exact e
   refine hN' _ _ ⟨_,?_,tt,ps'++[(t1,g)]++[(t2,g2)],us'++[.ref c1]++[.ref c2],_,_,rfl,rfl,fun b o h1 e=>?_,qW,Paired.snoc (qQo T4 hp3) ⟨c2,u2,rfl,by rw[qA (Ne.symm pc2)];exact qW,b23.mono T4,x2,hg2⟩,?_,?_⟩
   ·rw[kB,kB]
    show cntS ps'+t1.cnt+t2.cnt<cntS ps'+(t1.cnt+t2.cnt+1)
    omega
   ·rw[qA h1,qA (qB (qV hl _ _ _ (hk3 b o h1 e)) hc2),qA (qB (hk3 b o h1 e) hl)];exact hk3 b o h1 e
   ·rw[vO,vO]
    show tt+(sumAll ρ ps'+g * t1.worth ρ+g2 * t2.worth ρ)=t0.worth ρ
    omega
   ·rw[kB,kB]
    show cntS ps'+t1.cnt+t2.cnt≤t0.cnt
    omega

noncomputable def Th.truth (ρ:Str→Int):Th→Bool
 | .num _=>false
 | .box _=>false
 | .nul _=>true
 | .un _ a=>!a.truth ρ
 | .bin k a b=>if k = "both" then a.truth ρ && b.truth ρ else if k = "same" then decide (a.worth ρ=b.worth ρ) else decide (a.worth ρ<b.worth ρ)
theorem vA {ρ:Str→Int}{a b:Th}:(Th.bin "both" a b).truth ρ=(a.truth ρ && b.truth ρ):=by
 show(if ("both" : Str) = "both" then _ else _)=_
 rw[if_pos rfl]
theorem xQk:("same" : Str) ≠ "both" := by decide +kernel
theorem xQj:("under" : Str) ≠ "both" := by decide +kernel
theorem qTb:("under" : Str) ≠ "same" := by decide +kernel
theorem kX {ρ:Str→Int}{a b:Th}:(Th.bin "same" a b).truth ρ=decide (a.worth ρ=b.worth ρ):=by
 show(if ("same" : Str) = "both" then _ else if ("same" : Str) = "same" then _ else _)=_
 rw[if_neg xQk,if_pos rfl]
theorem vM {ρ:Str→Int}{a b:Th}:(Th.bin "under" a b).truth ρ=decide (a.worth ρ<b.worth ρ):=by
 show(if ("under" : Str) = "both" then _ else if ("under" : Str) = "same" then _ else _)=_
 rw[if_neg xQj,if_neg qTb]

theorem kG:xM ["condition","values","kind","one","other"] ["condition","values"] (xB (top 16)):=⟨rfl,rfl,rfl,by decide +kernel,rfl,by decide +kernel,by decide +kernel⟩
noncomputable def wJ (n:Nat):Sp:=fun vs H Q _=>∃(t:Th) (v:V) (d:Addr) (kvs:List (Key×V)) (ws:List Str) (ρ:Str→Int),vs=[v,.ref d]∧t.At H v∧Cond' ws t∧t.dep≤n∧t.dep≤12∧H d=some (.dK kvs)∧Env' kvs ws ρ∧Q (.bl (t.truth ρ)) H
theorem qVg {n:Nat}(F:Fd K mg "holds_by" (top 16) ["condition","values"])(D_holds_by:Dn P w K mg base "holds_by" (n+13) ["condition","values"] (wJ n))(D_worth_by:Dn P w K mg base "worth_by" 13 ["expression","values"] (yI 12)):
  Dn P w K mg base "holds_by" (n+14) ["condition","values"] (wJ (n+1)):=by
 refine F.ok kG (fun vs H Q E h=>?_) (fun f cdv A outer s H vs Q E hr h=>?_)
 ·obtain⟨_,_,_,_,_,_,rfl,_⟩:=h
  rfl
 obtain⟨t,v,d,kvs,ws,ρ,rfl,at',cx,hn,h12,hd,env,q⟩:=h
 refine⟨_,(qZ (qN (i:=2) kG.nd rfl (by wtm_at "zo") (xH (qT (K:=K)) (pv 0) qF (fun _ _=>rfl)))
  (qZ (zK (qS zM (pv 2) qG (xE _)) (qJ (qO qKg)) qY)
  (qZ (zK (qS zM (pv 2) qG (xE _)) (qJ (qO (qFh (qD D_holds_by hr (qQ (xH (qT (K:=K)) (pv 0) qF (fun _ _=>rfl)) (qQ (pv 1) qX)))))) qY)
  (qZ (zK (qS zM (pv 2) qG (xE _)) (qJ (qO (qFl (qD D_holds_by hr (qQ (xH (qT (K:=K)) (pv 0) qF (fun _ _=>rfl)) (qQ (pv 1) qX))) (qFg (qD D_holds_by hr (qQ (xH (qT (K:=K)) (pv 0) qF (fun _ _=>rfl)) (qQ (pv 1) qX))))))) qY)
  (qZ (qN (i:=3) kG.nd rfl (by wtm_at "zo") (qD D_worth_by hr (qQ (xH (qT (K:=K)) (pv 0) qF (fun _ _=>rfl)) (qQ (pv 1) qX))))
  (qZ (qN (i:=4) kG.nd rfl (by wtm_at "zo") (qD D_worth_by hr (qQ (xH (qT (K:=K)) (pv 0) qF (fun _ _=>rfl)) (qQ (pv 1) qX))))
  (qJ (qO (qBa (qS zM (pv 2) qG (xE _)) (vQ zM (pv 3) (pv 4) (xE _)) (vQ qQf (pv 3) (pv 4) (xE _))))))))))),?_⟩
 match t,at',cx,hn,h12,q with
 | .nul k,⟨a,ev,ea⟩,cx,hn,h12,q=>
  cases(show k = "yes" from cx)
  subst ev
  wtm_at "zw"
  exact q
 | .un k t1,⟨a,u,ev,ea,a1⟩,⟨hk,c1⟩,hn,h12,q=>
  cases hk
  subst ev
  have hn':t1.dep+1≤n+1:=hn
  have h12':t1.dep+1≤12:=h12
  wtm_at "zw"
  refine⟨t1,u,d,kvs,ws,ρ,rfl,a1,c1,by omega,by omega,hd,env,?_⟩
  wtm_at "zw"
  exact q
 | .bin k t1 t2,⟨a,u1,u2,ev,ea,a1,a2⟩,cx,hn,h12,q=>
  subst ev
  have hn':max t1.dep t2.dep+1≤n+1:=hn
  have h12':max t1.dep t2.dep+1≤12:=h12
  rcases cx with⟨hk,x1,x2⟩ | ⟨hk,c1,c2⟩
  ·have n1:k ≠ "yes" := by rcases hk with rfl | rfl <;> decide +kernel
   have n2:k ≠ "not" := by rcases hk with rfl | rfl <;> decide +kernel
   have n3:k ≠ "both" := by rcases hk with rfl | rfl <;> decide +kernel
   wtm_at "zw"
   refine⟨t1,u1,d,kvs,ws,ρ,rfl,a1,x1,by omega,hd,env,?_⟩
   wtm_at "zw"
   refine⟨t2,u2,d,kvs,ws,ρ,rfl,a2,x2,by omega,hd,env,?_⟩
   rcases hk with rfl | rfl
   ·rw[kX] at q
    wtm_at "zw"
    have e:decide (V.int (t1.worth ρ)=V.int (t2.worth ρ))=decide (t1.worth ρ=t2.worth ρ):=decide_eq_decide.mpr ⟨fun z=>by injection z,fun z=>by rw[z]⟩
    rw[e]
    exact q
   ·rw[vM] at q
    wtm_at "zw"
    exact q
  ·cases hk
   rw[vA] at q
   wtm_at "zw"
   refine⟨t1,u1,d,kvs,ws,ρ,rfl,a1,c1,by omega,by omega,hd,env,?_⟩
   wtm_at "zw"
   cases e1:t1.truth ρ with
   | false=>
    rw[e1,Bool.false_and] at q
    refine iteF ?_
    exact q
   | true=>
    rw[e1,Bool.true_and] at q
    refine iteT ?_
    wtm_at "zw"
    exact⟨t2,u2,d,kvs,ws,ρ,rfl,a2,c2,by omega,by omega,hd,env,q⟩
theorem qZa (F:Fd K mg "holds_by" (top 16) ["condition","values"])(D_worth_by:Dn P w K mg base "worth_by" 13 ["expression","values"] (yI 12)):∀n:Nat,Dn P w K mg base "holds_by" (n+13) ["condition","values"] (wJ n)
 | 0=>F.never fun vs H Q E h=>by
  obtain⟨t,_,_,_,_,_,_,_,_,h1,_⟩:=h
  have:=t.dep_pos
  omega
 | n+1=>qVg F (qZa F D_worth_by n) D_worth_by

theorem qMa:xM ["condition","boxes","standing"] ["condition","boxes","standing"] (xB (top 12)):=⟨rfl,rfl,rfl,by decide +kernel,rfl,by decide +kernel,by decide +kernel⟩
noncomputable def qEn:Sp:=fun vs H Q _=>∃(t:Th) (v:V) (bx st:Addr) (bs:List (Str×Int)) (vals:List Int),vs=[v,.ref bx,.ref st]∧t.At H v∧Cond' (bs.map (·.1)) t∧t.dep≤12∧World' H bx st bs vals∧
 ∀H',Same H H'→Q (.bl (t.truth (envOf (kvsOf bs vals)))) H'
theorem qNd (F:Fd K mg "holds" (top 12) ["condition","boxes","standing"])(D_holds_by:Dn P w K mg base "holds_by" 25 ["condition","values"] (wJ 12))(D_values_by_name:Dn P w K mg base "values_by_name" 1 ["boxes","standing"] qQh):
  Dn P w K mg base "holds" 26 ["condition","boxes","standing"] qEn:=by
 refine F.ok qMa (fun vs H Q E h=>?_) (fun f cdv A outer s H vs Q E hr h=>?_)
 ·obtain⟨_,_,_,_,_,_,rfl,_⟩:=h
  rfl
 obtain⟨t,v,bx,st,bs,vals,rfl,at',cx,dp,W,q⟩:=h
 refine⟨_,(qJ (qO (qD D_holds_by hr (qQ (pv 0) (qQ (qD D_values_by_name hr (qQ (pv 1) (qQ (pv 2) qX))) qX))))),?_⟩
 wtm_at "zw"
 refine⟨bx,st,bs,vals,rfl,W,fun p H' S e=>?_⟩
 wtm_at "zw"
 exact⟨t,v,p,_,_,_,rfl,at'.mono (qC S),cx,dp,dp,e,qHe W.ok,q H' S⟩

theorem qQj:xM ["cond","values","apart"] ["cond","values"] (xB (top 44)):=⟨rfl,rfl,rfl,by decide +kernel,rfl,by decide +kernel,by decide +kernel⟩
noncomputable def qQn (n:Nat):Sp:=fun vs H Q _=>∃(t:Th) (v:V) (d:Addr) (kvs:List (Key×V)) (ws:List Str) (ρ:Str→Int),vs=[v,.ref d]∧t.At H v∧Cond' ws t∧t.dep≤n∧t.dep≤12∧H d=some (.dK kvs)∧Env' kvs ws ρ∧∀H',Same H H'→Q (.bl (t.truth ρ)) H'
theorem eqAll2 (a b:Bool):eqAll [V.bl a,V.bl b] [V.bl true,V.bl true]=(a && b):=by cases a <;> cases b <;> rfl
theorem qDg {n:Nat}(F:Fd K mg "_law_holds" (top 44) ["cond","values"])(B:Bl mg)(D_law_holds:Dn P w K mg base "_law_holds" (n+1) ["cond","values"] (qQn n))(D_law_worth:Dn P w K mg base "_law_worth" 1 ["part","values"] qYz):
  Dn P w K mg base "_law_holds" (n+2) ["cond","values"] (qQn (n+1)):=by
 refine F.ok qQj (fun vs H Q E h=>?_) (fun f cdv A outer s H vs Q E hr h=>?_)
 ·obtain⟨_,_,_,_,_,_,rfl,_⟩:=h
  rfl
 obtain⟨t,v,d,kvs,ws,ρ,rfl,at',cx,hn,h12,hd,env,q⟩:=h
 refine⟨_,(qZ (zK (qS zM (xH (qT (K:=K)) (pv 0) qF (fun _ _=>rfl)) qG (xE _)) (qJ (qO qKg)) qY)
  (qZ (zK (qS zM (xH (qT (K:=K)) (pv 0) qF (fun _ _=>rfl)) qG (xE _)) (qJ (qO (qFh (qD D_law_holds hr (qQ (xH (qT (K:=K)) (pv 0) qF (fun _ _=>rfl)) (qQ (pv 1) qX)))))) qY)
  (qZ (zK (qS zM (xH (qT (K:=K)) (pv 0) qF (fun _ _=>rfl)) qG (xE _)) (qJ (qO (vQ (qPe (K:=K) hr.units) (xI (qQ (qD D_law_holds hr (qQ (xH (qT (K:=K)) (pv 0) qF (fun _ _=>rfl)) (qQ (pv 1) qX))) (qQ (qD D_law_holds hr (qQ (xH (qT (K:=K)) (pv 0) qF (fun _ _=>rfl)) (qQ (pv 1) qX))) qX))) (xI (qQ qKg (qQ qKg qX))) (xE _)))) qY)
  (qZ (qN (i:=2) qQj.nd rfl (by wtm_at "zo") (xX kY (qD D_law_worth hr (qQ (xH (qT (K:=K)) (pv 0) qF (fun _ _=>rfl)) (qQ (pv 1) qX))) (qD D_law_worth hr (qQ (xH (qT (K:=K)) (pv 0) qF (fun _ _=>rfl)) (qQ (pv 1) qX)))))
  (qJ (qO (xH (qU (K:=K)) (xI (qQ (vQ qMh (pv 2) qF (xE _)) (qQ (vQ zM (pv 2) qF (xE _)) qX))) (xZ qZe rfl B.int' qCw (qQ (vQ zM (xH (qT (K:=K)) (pv 0) qF (fun _ _=>rfl)) qG (xE _)) qX)) (fun _ _=>rfl)))))))),?_⟩
 match t,at',cx,hn,h12,q with
 | .nul k,⟨a,ev,ea⟩,cx,hn,h12,q=>
  cases(show k = "yes" from cx)
  subst ev
  wtm_at "zw"
  exact q H (Same.refl _)
 | .un k t1,⟨a,u,ev,ea,a1⟩,⟨hk,c1⟩,hn,h12,q=>
  cases hk
  subst ev
  have hn':t1.dep+1≤n+1:=hn
  have h12':t1.dep+1≤12:=h12
  wtm_at "zw"
  refine⟨t1,u,d,kvs,ws,ρ,rfl,a1,c1,by omega,by omega,hd,env,fun H1 S1=>?_⟩
  wtm_at "zw"
  exact q H1 S1
 | .bin k t1 t2,⟨a,u1,u2,ev,ea,a1,a2⟩,cx,hn,h12,q=>
  subst ev
  have hn':max t1.dep t2.dep+1≤n+1:=hn
  have h12':max t1.dep t2.dep+1≤12:=h12
  rcases cx with⟨hk,x1,x2⟩ | ⟨hk,c1,c2⟩
  ·have n1:k ≠ "yes" := by rcases hk with rfl | rfl <;> decide +kernel
   have n2:k ≠ "not" := by rcases hk with rfl | rfl <;> decide +kernel
   have n3:k ≠ "both" := by rcases hk with rfl | rfl <;> decide +kernel
   wtm_at "zw"
   refine⟨t2,u2,d,kvs,ws,ρ,rfl,a2,x2,by omega,hd,env,fun H1 S1=>?_⟩
   wtm_at "zw"
   refine⟨t1,u1,d,kvs,ws,ρ,rfl,a1.mono (qC S1),x1,by omega,S1 _ _ hd,env,fun H2 S2=>?_⟩
   wtm_at "zw"
   refine⟨(by show 2≤sizeLine;decide),fun l hl=>?_⟩
   wtm_at "zw"
   refine .inr ⟨_,rfl,?_⟩
   have S3:Same H (upd H2 l (.lst [.bl (decide (0<t2.worth ρ - t1.worth ρ)),.bl (decide (V.int (t2.worth ρ - t1.worth ρ)=V.int 0))])):=S1.trans (S2.trans (qV hl _))
   rcases hk with rfl | rfl
   ·rw[kX] at q
    rw[jZ]
    wtm_at "zw"
    have e:decide (V.int (t2.worth ρ - t1.worth ρ)=V.int 0)=decide (t1.worth ρ=t2.worth ρ):=decide_eq_decide.mpr ⟨fun z=>by injection z with z;omega,fun z=>by rw[z,Int.sub_self]⟩
    rw[← e] at q
    exact q _ S3
   ·rw[vM] at q
    rw[xW qTb]
    wtm_at "zw"
    have e:decide (0<t2.worth ρ - t1.worth ρ)=decide (t1.worth ρ<t2.worth ρ):=decide_eq_decide.mpr ⟨fun z=>by omega,fun z=>by omega⟩
    rw[← e] at q
    exact q _ S3
  ·cases hk
   rw[vA] at q
   wtm_at "zw"
   refine⟨t1,u1,d,kvs,ws,ρ,rfl,a1,c1,by omega,by omega,hd,env,fun H1 S1=>?_⟩
   wtm_at "zw"
   refine⟨t2,u2,d,kvs,ws,ρ,rfl,a2.mono (qC S1),c2,by omega,by omega,S1 _ _ hd,env,fun H2 S2=>?_⟩
   wtm_at "zw"
   refine⟨(by show 2≤sizeLine;decide),fun l hl=>?_⟩
   wtm_at "zw"
   refine⟨(by show 2≤sizeLine;decide),fun l2 hl2=>?_⟩
   refine⟨l,l2,_,_,rfl,rfl,SqL.of (qV hl2 _ _ _ qW),SqL.of qW,rfl,rfl,rfl,?_⟩
   rw[if_neg Bool.false_ne_true,eqAll2]
   exact q _ (S1.trans (S2.trans ((qV hl _).trans (qV hl2 _))))
theorem qVe (F:Fd K mg "_law_holds" (top 44) ["cond","values"])(B:Bl mg)(D_law_worth:Dn P w K mg base "_law_worth" 1 ["part","values"] qYz):∀n:Nat,Dn P w K mg base "_law_holds" (n+1) ["cond","values"] (qQn n)
 | 0=>F.never fun vs H Q E h=>by
  obtain⟨t,_,_,_,_,_,_,_,_,h1,_⟩:=h
  have:=t.dep_pos
  omega
 | n+1=>qDg F B (qVe F B D_law_worth n) D_law_worth

theorem vS:xM ["thing","names","part"] ["thing"] (xB (top 13)):=⟨rfl,rfl,rfl,by decide +kernel,rfl,by decide +kernel,by decide +kernel⟩
noncomputable def wP (n:Nat):Sp:=fun vs H Q _=>∃(t:Th) (v:V),vs=[v]∧t.At H v∧t.Ok∧t.dep≤n∧t.dep≤12∧
 ∀(r:Addr) (H':Hp),H r=none→Same H H'→H' r=some (.lst (strsV t.names))→Q (.ref r) H'
theorem qGw {f:Addr}{fd:FuncData}:FnOk P w K mg base CX0 1 f fd ["thing"] (wP 0):=by
 have no:∀vs H Q E,¬wP 0 vs H Q E:=fun vs H Q E h=>by
  obtain⟨t,v,_,_,_,h1,_⟩:=h
  have:=t.dep_pos
  omega
 exact⟨fun vs H Q E h=>absurd h (no vs H Q E),fun A outer s H args us vs Q E _ _ _ _ h=>absurd h (no vs H Q E)⟩
theorem qGv {n:Nat}{f:Addr}{fd:FuncData}(F:Fun K "names_in" "names_in" (top 13) f fd)(G_names_in:FnOk P w K mg base CX0 (n+1) f fd ["thing"] (wP n))(E_names_in:FunE K mg "names_in" f fd ["thing"]):
  FnOk P w K mg base CX0 (n+2) f fd ["thing"] (wP (n+1)):=by
 refine F.ok vS (fun vs H Q E h=>?_) (fun cdv A outer s H vs Q E hr h=>?_)
 ·obtain⟨_,_,rfl,_⟩:=h
  rfl
 obtain⟨t,v,rfl,at',ok,hn,h12,q⟩:=h
 refine⟨_,(qZ (zK (qS zM (xH (qT (K:=K)) (pv 0) qF (fun _ _=>rfl)) qG (xE _)) (qJ (qO (xI (qQ (xH (qT (K:=K)) (pv 0) qF (fun _ _=>rfl)) qX)))) qY)
  (qZ (qN (i:=1) vS.nd rfl (by wtm_at "zo") (xI qX))
  (qZ (zK (qS xQz (xH (qT (K:=K)) (pv 0) qF (fun _ _=>rfl)) qG (xE _)) (qJ (jE PassesOwn.never rfl (qPk (K:=K) (xP (qWb (K:=K)) (pv 0) (zQ qF) zZ)) (qH (i:=2) vS.nd rfl (by wtm_at "zo")) (qJ (qR (kJ (K:=K) PySem.F.plainAttrs_list PySem.F.slot_list_extend PySem.F.type_list_extend qVq (pv 1) (qQ (zI G_names_in hr rfl E_names_in.mg E_names_in.kp E_names_in.bd .nil pass0 (qQ (pv 2) qX)) qX)))))) qY)
  (qJ (qO (pv 1)))))),?_⟩
 cases view at' ok with
 | box a x et ev ea=>
  subst et ev
  refine⟨_,rfl,a,_,0,.str "box",rfl,rfl,SqT.of ea,rfl,rfl,_,rfl,?_⟩
  rw[jZ]
  refine iteT ?_
  refine⟨_,rfl,a,_,1,.str x,rfl,rfl,SqT.of ea,rfl,(by show 1≤sizeLine;decide),fun r hr'=>?_⟩
  exact q r _ hr' (qV hr' _) qW
 | num a x et ev ea=>
  subst et ev
  refine⟨_,rfl,a,_,0,.str "number",rfl,rfl,SqT.of ea,rfl,rfl,_,rfl,?_⟩
  rw[xW qPn]
  refine iteF ?_
  refine⟨(by show 0≤sizeLine;decide),fun r hr'=>?_⟩
  have ea':upd H r (.lst []) a=some (.tup [.str "number",.int x]):=by rw[qA (qB ea hr')];exact ea
  refine⟨_,rfl,a,_,0,.str "number",rfl,rfl,SqT.of ea',rfl,rfl,_,rfl,?_⟩
  rw[jZ]
  refine iteF ?_
  exact⟨_,rfl,q r _ hr' (qV hr' _) qW⟩
 | op a k us ts ev ea hk hl hl2 kids en ec=>
  subst ev
  refine⟨_,rfl,a,_,0,.str k,rfl,rfl,SqT.of ea,qZg _ _,rfl,_,rfl,?_⟩
  rw[xW hk.1]
  refine iteF ?_
  refine⟨(by show 0≤sizeLine;decide),fun r hr'=>?_⟩
  have ea':upd H r (.lst []) a=some (.tup (.str k::us)):=by rw[qA (qB ea hr')];exact ea
  refine⟨_,rfl,a,_,0,.str k,rfl,rfl,SqT.of ea',qZg _ _,rfl,_,rfl,?_⟩
  rw[xW hk.2]
  refine iteT ?_
  refine⟨_,rfl,1,rfl,a,_,rfl,SqT.of ea',notwhole _ _,fun p hp=>?_⟩
  rw[cut1]
  have pr:p≠r:=fun z=>by subst z;rw[qW] at hp;cases hp
  have S2:But r H (upd (upd H r (.lst [])) p (.tup us)):=But.upd.trans (qV hp _).but
  have er2:upd (upd H r (.lst [])) p (.tup us) r=some (.lst []):=by rw[qA (Ne.symm pr)];exact qW
  have ep2:upd (upd H r (.lst [])) p (.tup us) p=some (.tup us):=qW
  generalize upd (upd H r (.lst [])) p (.tup us)=H2 at S2 er2 ep2
  have cs:=t.cnt_small h12
  have nl:=t.names_le
  refine⟨p,rfl,⟨us,SqT.of ep2⟩,?_⟩
  refine qRj (xs:=us) (fun i σ' H'=>∃z:Option V,σ'=[some (.ref a),some (.ref r),z]∧But r H2 H'∧H' r=some (.lst (strsV ((ts.take i).flatMap Th.names))))
   ⟨none,rfl,But.refl _,er2⟩ (fun i σ' H' _ hP=>?_) (fun i x σ' H' ex hP=>?_) (fun σ' H' hP=>?_)
  ·obtain⟨z,rfl,hb,_⟩:=hP
   exact SqT.of (hb _ _ pr ep2)
  ·obtain⟨z,rfl,hb,hrr⟩:=hP
   obtain⟨c,ecx⟩:∃c,ts[i]? = some c:=⟨_,List.getElem?_eq_getElem (by rw[← hl];exact(List.getElem?_eq_some_iff.mp ex).1)⟩
   obtain⟨ka,ko,kd⟩:=kids i x c ex ecx
   have T2:Tups H H':=fun b xs e=>hb _ _ (qB e hr') (S2 _ _ (qB e hr') e)
   refine⟨_,rfl,.inl ⟨rfl,_,SqL.of hrr⟩,_,rfl,c,x,rfl,ka.mono T2,ko,by omega,by omega,fun r2 H3 hr2 S3 e3=>?_⟩
   have e3r:=S3 _ _ hrr
   refine⟨r,r2,_,_,rfl,rfl,e3r,e3,?_,?_⟩
   ·have z1:=qKq ecx
    have z2:=qMz (ts:=ts) (i+1)
    rw[z1,← en,List.length_append] at z2
    rw[xA,xA]
    exact smallE (by omega)
   ·refine⟨_,rfl,hb.trans (S3.but.trans But.upd),?_⟩
    rw[qW,qKq ecx,zS]
  ·obtain⟨z,rfl,hb,hrr⟩:=hP
   refine⟨_,rfl,q r H' hr' (fun b o e=>hb _ _ (qB e hr') (S2 _ _ (qB e hr') e)) ?_⟩
   rw[hrr,hl,List.take_length,en]
theorem qBe {f:Addr}{fd:FuncData}(F:Fun K "names_in" "names_in" (top 13) f fd)(E_names_in:FunE K mg "names_in" f fd ["thing"]):∀n:Nat,FnOk P w K mg base CX0 (n+1) f fd ["thing"] (wP n)
 | 0=>qGw
 | n+1=>qGv F (qBe F E_names_in n) E_names_in

theorem qNg (ns:List Int)(lo hi:Option Int):∀x∈cutV (ns.map V.int) lo hi,∃c:Int,x=.int c:=fun x hx=>by
 obtain⟨c,_,e⟩:=List.mem_map.mp (List.mem_of_mem_drop (List.mem_of_mem_take hx))
 exact⟨c,e.symm⟩
theorem qEq {σ:St}{H:Hp}{W:It→Hp→Prop}{j:Nat}{a:Addr}{ns:List Int}{lo hi:Int}(hj:σ[j]? = some (some (.ref a)))(hS:SqL K H a (ns.map V.int))(h63:ns.length≤63)
  (q:∀(l:Addr) (xs:List V) (H':Hp),Same H H'→H' l=some (.lst xs)→(∀x∈xs,∃c:Int,x=.int c)→xs.length≤64→W (Itl K l) H'):
  iList K (tOp rCat (tLst (tCons (tC (.int 0)) tNil)) (tSl (rSlL K) (tVar j) (tPart (tC (.int lo))) (tPart (tC (.int hi))))) σ H W:=by
 refine⟨(by show 1≤sizeLine;decide),fun l1 hl1=>?_⟩
 refine⟨_,hj,lo,rfl,hi,rfl,a,_,rfl,(qV hl1 _).seq hS,fun l2 hl2=>?_⟩
 have n12:l1≠l2:=qB qW hl2
 have cl63:(cutV (ns.map V.int) (some lo) (some hi)).length≤63:=by
  have:=wQ (ns.map V.int) (some lo) (some hi)
  rw[List.length_map] at this
  omega
 refine⟨l1,l2,_,_,rfl,rfl,by rw[qA n12];exact qW,qW,?_,fun l3 hl3=>?_⟩
 ·show 1+_≤sizeLine
  exact smallE (by omega)
 refine⟨l3,rfl,⟨_,SqL.of qW⟩,q l3 _ _ ((qV hl1 _).trans ((qV hl2 _).trans (qV hl3 _))) qW (fun x hx=>?_) ?_⟩
 ·rcases List.mem_append.mp hx with h | h
  ·exact⟨0,List.mem_singleton.mp h⟩
  ·exact qNg ns _ _ x h
 ·rw[List.length_append,List.length_singleton];omega
theorem qCd {σ:St}{H:Hp}{Q:VK}{bx:Addr}{us:List V}{bs:List (Str×Int)}(e1:H bx=some (.lst us))(p1:Paired (BoxIn H) bs us)(hl:bs.length≤1000)
  (q:∀(D:Addr) (H':Hp),Same H H'→H' D=some (.lst (strsV (bs.map (·.1))))→Q (.ref D) H'):
  rdC 1 [] (gName 0) tYes (tOp (rIxT K) (tVar 0) (tC (.int 0))) (Itl K bx) σ H Q:=by
 have lb:us.length=bs.length:=p1.length.symm
 refine jQ (xs:=us) (fun D i ys H'=>ys=strsV ((bs.take i).map (·.1))∧∀b o,H b=some o→H' b=some o) (fun D hD=>⟨rfl,qV hD _⟩)
  (fun D i ys H' _ hP=>(show Same H H' from hP.2).seq (SqL.of e1)) (fun D i x ys H' N hD hDy ex hP hN=>?_) (fun wd ys H2 hD hDy hP=>?_)
 ·obtain⟨rfl,hk⟩:=hP
  obtain⟨b,eb⟩:∃b,bs[i]? = some b:=⟨_,List.getElem?_eq_getElem (by rw[← lb];exact(List.getElem?_eq_some_iff.mp ex).1)⟩
  obtain⟨ba,rfl,hba⟩:=xV p1 eb ex
  refine⟨⟨[some (.ref ba)],rfl,rfl⟩,?_⟩
  refine⟨_,rfl,ba,_,0,.str b.1,rfl,rfl,SqT.of (hk _ _ hba),rfl,hDy,?_,hN _ _ qW ⟨?_,fun b o e=>?_⟩⟩
  ·rw[xA,List.length_map,List.length_take];exact small (by omega)
  ·rw[List.take_add_one,eb,List.map_append,zS];rfl
  ·rw[qA (qB e hD)];exact hk _ _ e
 obtain⟨rfl,hk2⟩:=hP
 rw[lb,List.take_length] at hDy
 exact q wd H2 hk2 hDy
theorem qJv {σ:St}{H:Hp}{Q:VK}{bx:Addr}{us:List V}{bs:List (Str×Int)}(e1:H bx=some (.lst us))(p1:Paired (BoxIn H) bs us)(hl:bs.length≤1000)
  (q:∀(D:Addr) (H':Hp),Same H H'→H' D=some (.lst (strsV (bs.map (·.1))))→Q (.ref D) H'):
  rdC 2 [] (gTup K 2 (gCons (gName 0) (gCons (gName 1) gNil))) tYes (tVar 0) (Itl K bx) σ H Q:=by
 have lb:us.length=bs.length:=p1.length.symm
 refine jQ (xs:=us) (fun D i ys H'=>ys=strsV ((bs.take i).map (·.1))∧∀b o,H b=some o→H' b=some o) (fun D hD=>⟨rfl,qV hD _⟩)
  (fun D i ys H' _ hP=>(show Same H H' from hP.2).seq (SqL.of e1)) (fun D i x ys H' N hD hDy ex hP hN=>?_) (fun wd ys H2 hD hDy hP=>?_)
 ·obtain⟨rfl,hk⟩:=hP
  obtain⟨b,eb⟩:∃b,bs[i]? = some b:=⟨_,List.getElem?_eq_getElem (by rw[← lb];exact(List.getElem?_eq_some_iff.mp ex).1)⟩
  obtain⟨ba,rfl,hba⟩:=xV p1 eb ex
  refine⟨ba,_,rfl,SqT.of (hk _ _ hba),rfl,_,_,rfl,_,_,rfl,rfl,⟨[some (.str b.1),some (.int b.2)],rfl,rfl⟩,?_⟩
  refine⟨_,rfl,hDy,?_,hN _ _ qW ⟨?_,fun b o e=>?_⟩⟩
  ·rw[xA,List.length_map,List.length_take];exact small (by omega)
  ·rw[List.take_add_one,eb,List.map_append,zS];rfl
  ·rw[qA (qB e hD)];exact hk _ _ e
 obtain⟨rfl,hk2⟩:=hP
 rw[lb,List.take_length] at hDy
 exact q wd H2 hk2 hDy
noncomputable def Fits (bs:List (Str×Int))(vals:List Int):Prop:=vals.length=bs.length∧∀(i:Nat) b v,bs[i]? = some b→vals[i]? = some v→0≤v∧v<b.2
theorem Fits.stands {bs:List (Str×Int)}{vals:List Int}(f:Fits bs vals)(h25:∀b∈bs,2≤b.2∧b.2≤5):Stands bs vals:=⟨f.1,fun v hv=>by
 obtain⟨i,hi⟩:=List.mem_iff_getElem?.mp hv
 have hl:i<bs.length:=by rw[← f.1];exact(List.getElem?_eq_some_iff.mp hi).1
 have:=f.2 i _ v (List.getElem?_eq_getElem hl) hi
 have:=h25 _ (List.getElem_mem hl)
 omega⟩
theorem qFw {H:Hp}{bs:List (Str×Int)}{us:List V}(p1:Paired (BoxIn H) bs us):∀(j:Nat) x,us[j]? = some x→∃y,x=.ref y:=fun j x ex=>by
 obtain⟨b,eb⟩:∃b,bs[j]? = some b:=⟨_,List.getElem?_eq_getElem (by rw[p1.length];exact(List.getElem?_eq_some_iff.mp ex).1)⟩
 obtain⟨y,ey,_⟩:=xV p1 eb ex
 exact⟨y,ey⟩
theorem small2 {n:Nat}(h:n≤100000):n<sizeLine:=Nat.lt_of_le_of_lt h (by decide)
theorem qFq {n:Nat}(h:n≤100000):n≤sizeLine:=Nat.le_of_lt (small2 h)
noncomputable def rowsBy (acc:List (List Int))(n:Nat):List (List Int):=acc.flatMap fun r=>(List.range n).map fun v=>r++[((v:Nat):Int)]
noncomputable def allV (bs:List (Str×Int)):List (List Int):=(bs.map fun b=>b.2.toNat).foldl rowsBy [[]]
theorem kC {bs:List (Str×Int)}{i:Nat}{b:Str×Int}(h:bs[i]? = some b):allV (bs.take (i+1))=rowsBy (allV (bs.take i)) b.2.toNat:=by
 unfold allV
 rw[List.take_add_one,h,List.map_append,List.foldl_append]
 rfl
theorem qXc {acc:List (List Int)}{n j:Nat}{r:List Int}(h:acc[j]? = some r):rowsBy (acc.take (j+1)) n=rowsBy (acc.take j) n++(List.range n).map fun v=>r++[((v:Nat):Int)]:=by
 unfold rowsBy
 rw[List.take_add_one,h,List.flatMap_append]
 simp
theorem vB (n:Nat):∀acc:List (List Int),(rowsBy acc n).length=acc.length * n
 | []=>by simp[rowsBy]
 | r::acc=>by
  have:=vB n acc
  unfold rowsBy at this ⊢
  rw[List.flatMap_cons,List.length_append,this,List.length_map,List.length_range,List.length_cons,Nat.succ_mul]
  omega
theorem kU (acc:List (List Int))(n j:Nat):(rowsBy (acc.take j) n).length≤acc.length * n:=by
 rw[vB,List.length_take]
 exact Nat.mul_le_mul_right _ (Nat.min_le_right _ _)
theorem qXz {bs:List (Str×Int)}(h:∀b∈bs,2≤b.2∧b.2≤5):∀i:Nat,i≤bs.length→(allV (bs.take i)).length≤5 ^ i
 | 0,_=>by simp[allV]
 | i+1,hi=>by
  have hb:bs[i]? = some (bs[i]'(by omega)):=List.getElem?_eq_getElem (by omega)
  rw[kC hb,vB,Nat.pow_succ]
  have:=h _ (List.getElem_mem (h:=(by omega:i<bs.length)))
  exact Nat.mul_le_mul (qXz h i (by omega)) (by omega)
theorem qCm {n k:Nat}{acc:List (List Int)}(h:∀r∈acc,r.length=k):∀r∈rowsBy acc n,r.length=k+1:=fun r hr=>by
 obtain⟨x,hx,hr⟩:=List.mem_flatMap.mp hr
 obtain⟨v,_,rfl⟩:=List.mem_map.mp hr
 rw[List.length_append,h x hx];rfl
theorem qYi (bs:List (Str×Int)):∀i:Nat,i≤bs.length→∀r∈allV (bs.take i),r.length=i
 | 0,_=>fun r hr=>by simp[allV] at hr;subst hr;rfl
 | i+1,hi=>by
  have hb:bs[i]? = some (bs[i]'(by omega)):=List.getElem?_eq_getElem (by omega)
  rw[kC hb]
  exact qCm (qYi bs i (by omega))
theorem pow56 {i:Nat}(h:i≤6):5 ^ i≤15625:=Nat.le_trans (Nat.pow_le_pow_right (by decide) h) (by decide)
theorem qHc {bs:List (Str×Int)}{i:Nat}{b:Str×Int}{r:List Int}{v:Nat}(hb:bs[i]? = some b)(h:Fits (bs.take i) r)(hv:(v:Int)<b.2):Fits (bs.take (i+1)) (r++[((v:Nat):Int)]):=by
 have hl:=h.1
 have hib:i<bs.length:=(List.getElem?_eq_some_iff.mp hb).1
 have lt:(bs.take i).length=i:=by rw[List.length_take];omega
 refine⟨by rw[List.take_add_one,hb,List.length_append,List.length_append,hl];rfl,fun j c x ec ex=>?_⟩
 rw[List.take_add_one,hb] at ec
 by_cases hj:j<i
 ·rw[List.getElem?_append_left (by omega)] at ec ex
  exact h.2 j c x ec ex
 ·have hj':j=i:=by
   have:=(List.getElem?_eq_some_iff.mp ex).1
   rw[List.length_append,List.length_singleton] at this
   omega
  subst hj'
  rw[List.getElem?_append_right (by omega)] at ec ex
  have e1:j - (bs.take j).length=0:=by omega
  have e2:j - r.length=0:=by omega
  rw[e1] at ec
  rw[e2] at ex
  cases ec;cases ex
  exact⟨by omega,hv⟩
theorem qWj {bs:List (Str×Int)}:∀i:Nat,i≤bs.length→∀r∈allV (bs.take i),Fits (bs.take i) r
 | 0,_=>fun r hr=>by
  simp[allV] at hr
  subst hr
  exact⟨rfl,fun j b v e=>by simp at e⟩
 | i+1,hi=>fun r hr=>by
  have hb:bs[i]? = some (bs[i]'(by omega)):=List.getElem?_eq_getElem (by omega)
  rw[kC hb] at hr
  obtain⟨x,hx,hr⟩:=List.mem_flatMap.mp hr
  obtain⟨v,hv,rfl⟩:=List.mem_map.mp hr
  have hv:=List.mem_range.mp hv
  exact qHc hb (qWj i (by omega) x hx) (by omega)
theorem qAh {bs:List (Str×Int)}{r:List Int}(h:r∈allV bs):Fits bs r:=by
 have:=qWj (bs:=bs) bs.length (Nat.le_refl _) r
 rw[List.take_length] at this
 exact this h
noncomputable def TupIn (H:Hp)(vals:List Int)(u:V):Prop:=∃a,u=.ref a∧H a=some (.tup (intsV vals))
theorem xY {H H':Hp}(h:Tups H H'){rs:List (List Int)}{us:List V}(p:Paired (TupIn H) rs us):Paired (TupIn H') rs us:=Paired.mapP p fun _ _ x=>let ⟨a,e,q⟩:=x;⟨a,e,h _ _ q⟩
theorem qBv {σ:St}{H:Hp}{Q:VK}{j:Nat}{ra:Addr}{r:List Int}{n:Nat}(era:H ra=some (.tup (intsV r)))(hj:σ.getD j none=some (.ref ra))(hr:r.length≤100)(hn:n≤1000)
  (q:∀(D:Addr) (us:List V) (H':Hp),H D=none→Same H H'→H' D=some (.lst us)→Paired (TupIn H') ((List.range n).map fun v=>r++[((v:Nat):Int)]) us→Q (.ref D) H'):
  rdC 1 [j] (gName 0) tYes (tOp (rCatN K) (tVar 1) (tTup (tCons (tVar 0) tNil))) (Itr 0 n) σ H Q:=by
 have fr:frees [j] σ=[some (.ref ra)]:=by show [σ.getD j none]=_;rw[hj]
 refine qQx (fun D i ys H'=>Paired (TupIn H') ((List.range i).map fun v=>r++[((v:Nat):Int)]) ys∧Same H H') (fun D hD=>⟨.nil,qV hD _⟩) (fun D i ys H' N hD hDy hi hP hN=>?_) (fun D ys H2 hD hDy hP=>?_)
 ·obtain⟨hp,hk⟩:=hP
  have lp:=hp.length
  rw[List.length_map,List.length_range] at lp
  have e0:(0:Int)+(i:Int)=(i:Int):=Int.zero_add _
  rw[e0]
  refine⟨⟨[some (.int (i:Int))],rfl,rfl⟩,?_⟩
  refine⟨.ref ra,(by show(([some (V.int (i:Int))]:St)++frees [j] σ)[1]? = _;rw[fr];rfl),_,rfl,(by show 1≤sizeLine;decide),fun t ht=>?_⟩
  have Dt:D≠t:=qB hDy ht
  have fin:∀(a:Addr) (H3:Hp),Same H' H3→H3 a=some (.tup (intsV (r++[((i:Nat):Int)])))→H3 D=some (.lst ys)∧ys.length<sizeLine∧N (ys++[.ref a]) (upd H3 D (.lst (ys++[.ref a]))):=fun a H3 S3 ea=>by
   have eD:=S3 _ _ hDy
   refine⟨eD,small (by omega),hN _ _ qW ⟨?_,fun b o e=>?_⟩⟩
   ·have T1:Tups H' (upd H3 D (.lst (ys++[.ref a]))):=fun b xs e=>by rw[qA (kI e hDy (by intro z;cases z))];exact S3 _ _ e
    rw[List.range_succ,List.map_append]
    exact Paired.snoc (xY T1 hp) ⟨a,rfl,by rw[qA (kI ea eD (by intro z;cases z))];exact ea⟩
   ·rw[qA (qB e hD)];exact S3 _ _ (hk _ _ e)
  refine⟨ra,t,_,_,rfl,rfl,SqT.of (qV ht _ _ _ (hk _ _ era)),SqT.of qW,by simp,?_,fun z=>?_,fun z p hp'=>?_⟩
  ·rw[yY];exact smallE (by show r.length+1≤_;omega)
  ·have z':r=[]:=List.map_eq_nil_iff.mp z
   subst z'
   exact fin t _ (qV ht _) qW
  ·refine fin p _ ((qV ht _).trans (qV hp' _)) ?_
   rw[wS];exact qW
 ·exact q D ys H2 hD hP.2 hDy hP.1
noncomputable def qQl:Sp:=fun vs H Q _=>∃(bx:Addr) (bs:List (Str×Int)) (us:List V),vs=[.ref bx]∧H bx=some (.lst us)∧Paired (BoxIn H) bs us∧bs.length≤6∧(∀b∈bs,2≤b.2∧b.2≤5)∧
 ∀(r:Addr) (ss:List V) (H':Hp),H r=none→Same H H'→H' r=some (.lst ss)→Paired (TupIn H') (allV bs) ss→Q (.ref r) H'

theorem xU:xM ["boxes","rows","name","size","longer","row"] ["boxes"] (xB (top 23)):=⟨rfl,rfl,rfl,by decide +kernel,rfl,by decide +kernel,by decide +kernel⟩
theorem jS:CompOk (xB (top 23)) ["boxes","rows","name","size","longer","row"] (scAt (xC (top 23)) [1,1,0] [1]) ["value","row"] 1 [5]:=
 ⟨by decide +kernel,by decide +kernel,by decide +kernel,by decide +kernel,by decide +kernel,by decide +kernel,by decide +kernel,by decide +kernel⟩
theorem qUz (F:Fd K mg "standings_of_boxes" (top 23) ["boxes"])(B:Bl mg):Dn P w K mg base "standings_of_boxes" 1 ["boxes"] qQl:=by
 refine F.ok xU (fun vs H Q E h=>?_) (fun f cdv A outer s H vs Q E hr h=>?_)
 ·obtain⟨_,_,_,rfl,_⟩:=h
  rfl
 obtain⟨bx,bs,us,rfl,ebx,pb,h6,h25,q⟩:=h
 have lb:us.length=bs.length:=pb.length.symm
 refine⟨_,(qZ (qN (i:=1) xU.nd rfl (by wtm_at "zo") (xI (qQ (xG qX) qX)))
  (qZ (jE PassesOwn.never rfl (xQ (K:=K) (pv 0)) (jV (K:=K) (n:=2) rfl (qI (qH (i:=2) xU.nd rfl (by wtm_at "zo")) (qI (qH (i:=3) xU.nd rfl (by wtm_at "zo")) qM))) (qZ (qN (i:=4) xU.nd rfl (by wtm_at "zo") (xI qX))
  (qZ (jE PassesOwn.never rfl (xQ (K:=K) (pv 1)) (qH (i:=5) xU.nd rfl (by wtm_at "zo")) (qJ (qR (kJ (K:=K) PySem.F.plainAttrs_list PySem.F.slot_list_extend PySem.F.type_list_extend qVq (pv 4) (qQ (jP rfl jS (jF rfl B.range' (qQ (pv 3) qX)) (fun cl fp s H=>(qH (i:=0) jS.nd rfl (Or.inl rfl) (.inr rfl))) (fun cl fp s H=>jJ) (fun cl fp s H=>(xX (qBd (K:=K)) (pv 1) (xG (qQ (pv 0) qX))))) qX)))))
  (qJ (qN (i:=1) xU.nd rfl (by wtm_at "zo") (pv 4))))))
  (qJ (qO (pv 1))))),?_⟩
 wtm_at "zw"
 refine⟨(by show 0≤sizeLine;decide),fun t0 ht0=>?_⟩
 wtm_at "zw"
 refine⟨(by show 1≤sizeLine;decide),fun r0 hr0=>?_⟩
 wtm_at "zw"
 have S0:Same H (upd (upd H t0 (.tup [])) r0 (.lst [.ref t0])):=(qV ht0 _).trans (qV hr0 _)
 refine⟨_,rfl,bx,rfl,⟨us,SqL.of (S0 _ _ ebx)⟩,?_⟩
 refine jB (xs:=us) (fun i σ' H'=>∃(ro:Addr) (ss:List V) (z2 z3 z4 z5:Option V),σ'=[some (.ref bx),some (.ref ro),z2,z3,z4,z5]∧Same H H'∧H ro=none∧H' ro=some (.lst ss)∧Paired (TupIn H') (allV (bs.take i)) ss)
  ⟨r0,[.ref t0],none,none,none,none,rfl,S0,(qV ht0 _).free hr0,qW,.cons ⟨t0,rfl,qV hr0 _ _ _ qW⟩ .nil⟩
  (fun i σ' H' _ hP=>?_) (fun N rt bk i x σ' H' ex hP hN=>?_) (fun σ' H' hP=>?_)
 ·obtain⟨ro,ss,z2,z3,z4,z5,rfl,S1,_⟩:=hP
  exact SqL.of (S1 _ _ ebx)
 ·obtain⟨ro,ss,z2,z3,z4,z5,rfl,S1,nro,ero,prs⟩:=hP
  have hi:i<bs.length:=by rw[← lb];exact(List.getElem?_eq_some_iff.mp ex).1
  obtain⟨b,eb⟩:∃b,bs[i]? = some b:=⟨_,List.getElem?_eq_getElem hi⟩
  obtain⟨ba,rfl,hba⟩:=xV pb eb ex
  have hb25:=h25 b (List.mem_of_getElem? eb)
  have rl:=qXz h25 i (by omega)
  have p5:=pow56 (i:=i) (by omega)
  refine⟨ba,_,rfl,SqT.of (S1 _ _ hba),rfl,_,_,rfl,_,_,rfl,rfl,?_⟩
  wtm_at "zw"
  refine⟨(by show 0≤sizeLine;decide),fun lo hlo=>?_⟩
  wtm_at "zw"
  have lr:=prs.length
  refine⟨_,rfl,ro,rfl,⟨ss,SqL.of (qV hlo _ _ _ ero)⟩,?_⟩
  refine jB (xs:=ss) (fun j σ'' H''=>∃(ls:List V) (z5:Option V),σ''=[some (.ref bx),some (.ref ro),some (.str b.1),some (.int b.2),some (.ref lo),z5]∧(∀c o,H' c=some o→H'' c=some o)∧H'' lo=some (.lst ls)∧Paired (TupIn H'') (rowsBy ((allV (bs.take i)).take j) b.2.toNat) ls)
   ⟨[],z5,rfl,qV hlo _,qW,.nil⟩ (fun j σ'' H'' _ hP=>?_) (fun N2 rt2 bk2 j x σ'' H'' ex2 hP hN2=>?_) (fun σ'' H'' hP=>?_)
  ·obtain⟨ls,z5,rfl,k2,_⟩:=hP
   exact SqL.of (k2 _ _ ero)
  ·obtain⟨ls,z5,rfl,k2,elo,pls⟩:=hP
   have hj:j<(allV (bs.take i)).length:=by rw[lr];exact(List.getElem?_eq_some_iff.mp ex2).1
   obtain⟨row,erow⟩:∃row,(allV (bs.take i))[j]? = some row:=⟨_,List.getElem?_eq_getElem hj⟩
   obtain⟨ra,rfl,hra⟩:=xV prs erow ex2
   have hrl:=qYi bs i (by omega) row (List.mem_of_getElem? erow)
   have ll:=pls.length
   have lm:=kU (allV (bs.take i)) b.2.toNat j
   have l5:(allV (bs.take i)).length * b.2.toNat≤15625 * 5:=Nat.mul_le_mul (by omega) (by omega)
   wtm_at "zw"
   refine⟨.inl ⟨rfl,_,SqL.of elo⟩,?_⟩
   wtm_at "zw"
   refine⟨_,rfl,b.2,rfl,by omega,by omega,qBv (k2 _ _ hra) rfl (by omega) (by omega) fun D zs H3 nD S3 eD pz=>?_⟩
   have lz:=pz.length
   rw[List.length_map,List.length_range] at lz
   have elo3:=S3 _ _ elo
   refine⟨lo,D,ls,zs,rfl,rfl,elo3,eD,by rw[← ll,← lz];exact qFq (by omega),?_⟩
   have T3:Tups H3 (upd H3 lo (.lst (ls++zs))):=fun c xs e=>by rw[qA (kI e elo3 (by intro z;cases z))];exact e
   refine hN2 _ _ ⟨ls++zs,_,rfl,fun c o e=>?_,qW,?_⟩
   ·rw[qA (qB e hlo)];exact S3 _ _ (k2 _ _ e)
   ·rw[qXc erow]
    exact jT (xY T3 (xY (qC S3) pls)) (xY T3 pz)
  ·obtain⟨ls,z5,rfl,k2,elo,pls⟩:=hP
   rw[← lr,List.take_length,← kC eb] at pls
   wtm_at "zw"
   exact hN _ _ ⟨lo,ls,_,_,_,_,rfl,S1.trans k2,S1.free hlo,elo,pls⟩
 ·obtain⟨ro,ss,z2,z3,z4,z5,rfl,S1,nro,ero,prs⟩:=hP
  rw[lb,List.take_length] at prs
  wtm_at "zw"
  exact q ro ss H' nro S1 ero prs

theorem zV:xM ["boxes","found","name","size","longer","one"] ["boxes"] (xB (top 46)):=⟨rfl,rfl,rfl,by decide +kernel,rfl,by decide +kernel,by decide +kernel⟩
theorem kW:CompOk (xB (top 46)) ["boxes","found","name","size","longer","one"] (scAt (xC (top 46)) [1,1,0] [1]) ["value","one"] 1 [5]:=
 ⟨by decide +kernel,by decide +kernel,by decide +kernel,by decide +kernel,by decide +kernel,by decide +kernel,by decide +kernel,by decide +kernel⟩
theorem qHh (F:Fd K mg "_law_standings" (top 46) ["boxes"])(B:Bl mg):Dn P w K mg base "_law_standings" 1 ["boxes"] qQl:=by
 refine F.ok zV (fun vs H Q E h=>?_) (fun f cdv A outer s H vs Q E hr h=>?_)
 ·obtain⟨_,_,_,rfl,_⟩:=h
  rfl
 obtain⟨bx,bs,us,rfl,ebx,pb,h6,h25,q⟩:=h
 have lb:us.length=bs.length:=pb.length.symm
 refine⟨_,(qZ (qN (i:=1) zV.nd rfl (by wtm_at "zo") (xI (qQ (xG qX) qX)))
  (qZ (jE PassesOwn.never rfl (xQ (K:=K) (pv 0)) (jV (K:=K) (n:=2) rfl (qI (qH (i:=2) zV.nd rfl (by wtm_at "zo")) (qI (qH (i:=3) zV.nd rfl (by wtm_at "zo")) qM))) (qZ (qN (i:=4) zV.nd rfl (by wtm_at "zo") (xI qX))
  (qZ (jE PassesOwn.never rfl (xQ (K:=K) (pv 1)) (qH (i:=5) zV.nd rfl (by wtm_at "zo")) (qJ (qN (i:=4) zV.nd rfl (by wtm_at "zo") (xX jC (pv 4) (jP rfl kW (jF rfl B.range' (qQ (pv 3) qX)) (fun cl fp s H=>(qH (i:=0) kW.nd rfl (Or.inl rfl) (.inr rfl))) (fun cl fp s H=>jJ) (fun cl fp s H=>(xX (qBd (K:=K)) (pv 1) (xG (qQ (pv 0) qX)))))))))
  (qJ (qN (i:=1) zV.nd rfl (by wtm_at "zo") (pv 4))))))
  (qJ (qO (pv 1))))),?_⟩
 wtm_at "zw"
 refine⟨(by show 0≤sizeLine;decide),fun t0 ht0=>?_⟩
 wtm_at "zw"
 refine⟨(by show 1≤sizeLine;decide),fun r0 hr0=>?_⟩
 wtm_at "zw"
 have S0:Same H (upd (upd H t0 (.tup [])) r0 (.lst [.ref t0])):=(qV ht0 _).trans (qV hr0 _)
 refine⟨_,rfl,bx,rfl,⟨us,SqL.of (S0 _ _ ebx)⟩,?_⟩
 refine jB (xs:=us) (fun i σ' H'=>∃(ro:Addr) (ss:List V) (z2 z3 z4 z5:Option V),σ'=[some (.ref bx),some (.ref ro),z2,z3,z4,z5]∧Same H H'∧H ro=none∧H' ro=some (.lst ss)∧Paired (TupIn H') (allV (bs.take i)) ss)
  ⟨r0,[.ref t0],none,none,none,none,rfl,S0,(qV ht0 _).free hr0,qW,.cons ⟨t0,rfl,qV hr0 _ _ _ qW⟩ .nil⟩
  (fun i σ' H' _ hP=>?_) (fun N rt bk i x σ' H' ex hP hN=>?_) (fun σ' H' hP=>?_)
 ·obtain⟨ro,ss,z2,z3,z4,z5,rfl,S1,_⟩:=hP
  exact SqL.of (S1 _ _ ebx)
 ·obtain⟨ro,ss,z2,z3,z4,z5,rfl,S1,nro,ero,prs⟩:=hP
  have hi:i<bs.length:=by rw[← lb];exact(List.getElem?_eq_some_iff.mp ex).1
  obtain⟨b,eb⟩:∃b,bs[i]? = some b:=⟨_,List.getElem?_eq_getElem hi⟩
  obtain⟨ba,rfl,hba⟩:=xV pb eb ex
  have hb25:=h25 b (List.mem_of_getElem? eb)
  have rl:=qXz h25 i (by omega)
  have p5:=pow56 (i:=i) (by omega)
  refine⟨ba,_,rfl,SqT.of (S1 _ _ hba),rfl,_,_,rfl,_,_,rfl,rfl,?_⟩
  wtm_at "zw"
  refine⟨(by show 0≤sizeLine;decide),fun lo0 hlo0=>?_⟩
  wtm_at "zw"
  have lr:=prs.length
  refine⟨_,rfl,ro,rfl,⟨ss,SqL.of (qV hlo0 _ _ _ ero)⟩,?_⟩
  refine jB (xs:=ss) (fun j σ'' H''=>∃(lo:Addr) (ls:List V) (z5:Option V),σ''=[some (.ref bx),some (.ref ro),some (.str b.1),some (.int b.2),some (.ref lo),z5]∧Same H' H''∧H' lo=none∧H'' lo=some (.lst ls)∧Paired (TupIn H'') (rowsBy ((allV (bs.take i)).take j) b.2.toNat) ls)
   ⟨lo0,[],z5,rfl,qV hlo0 _,hlo0,qW,.nil⟩ (fun j σ'' H'' _ hP=>?_) (fun N2 rt2 bk2 j x σ'' H'' ex2 hP hN2=>?_) (fun σ'' H'' hP=>?_)
  ·obtain⟨lo,ls,z5,rfl,k2,_⟩:=hP
   exact SqL.of (k2 _ _ ero)
  ·obtain⟨lo,ls,z5,rfl,k2,nlo,elo,pls⟩:=hP
   have hj:j<(allV (bs.take i)).length:=by rw[lr];exact(List.getElem?_eq_some_iff.mp ex2).1
   obtain⟨row,erow⟩:∃row,(allV (bs.take i))[j]? = some row:=⟨_,List.getElem?_eq_getElem hj⟩
   obtain⟨ra,rfl,hra⟩:=xV prs erow ex2
   have hrl:=qYi bs i (by omega) row (List.mem_of_getElem? erow)
   have ll:=pls.length
   have lm:=kU (allV (bs.take i)) b.2.toNat j
   have l5:(allV (bs.take i)).length * b.2.toNat≤15625 * 5:=Nat.mul_le_mul (by omega) (by omega)
   wtm_at "zw"
   refine⟨_,rfl,b.2,rfl,by omega,by omega,qBv (k2 _ _ hra) rfl (by omega) (by omega) fun D zs H3 nD S3 eD pz=>?_⟩
   have lz:=pz.length
   rw[List.length_map,List.length_range] at lz
   refine⟨lo,D,ls,zs,rfl,rfl,S3 _ _ elo,eD,by rw[← ll,← lz];exact qFq (by omega),fun p hp=>?_⟩
   have S4:Same H3 (upd H3 p (.lst (ls++zs))):=qV hp _
   refine hN2 _ _ ⟨p,ls++zs,_,rfl,k2.trans (S3.trans S4),k2.free (S3.free hp),qW,?_⟩
   rw[qXc erow]
   exact jT (xY (qC (S3.trans S4)) pls) (xY (qC S4) pz)
  ·obtain⟨lo,ls,z5,rfl,k2,nlo,elo,pls⟩:=hP
   rw[← lr,List.take_length,← kC eb] at pls
   wtm_at "zw"
   exact hN _ _ ⟨lo,ls,_,_,_,_,rfl,S1.trans k2,S1.free nlo,elo,pls⟩
 ·obtain⟨ro,ss,z2,z3,z4,z5,rfl,S1,nro,ero,prs⟩:=hP
  rw[lb,List.take_length] at prs
  wtm_at "zw"
  exact q ro ss H' nro S1 ero prs

noncomputable def zD (H:Hp)(c:Str×Th)(u:V):Prop:=∃a v,u=.ref a∧H a=some (.tup [.str c.1,v])∧c.2.At H v
noncomputable def WayIn (H:Hp)(wy:List (Str×Th))(u:V):Prop:=∃a us,u=.ref a∧H a=some (.lst us)∧Paired (zD H) wy us
structure Deed where
 name:Str
 price:Int
 need:Th
 ways:List (List (Str×Th))
noncomputable def DeedIn (H:Hp)(d:Deed)(u:V):Prop:=∃a nv wa us,u=.ref a∧H a=some (.tup [.str d.name,.int d.price,nv,.ref wa])∧d.need.At H nv∧H wa=some (.lst us)∧Paired (WayIn H) d.ways us
structure Look where
 name:Str
 price:Int
 part:Th
noncomputable def LookIn (H:Hp)(l:Look)(u:V):Prop:=∃a v,u=.ref a∧H a=some (.tup [.str l.name,.int l.price,v])∧l.part.At H v
structure WayOk (ws:List Str)(wy:List (Str×Th)):Prop where
 nd:(wy.map (·.1)).Nodup
 le:wy.length≤100
 ok:∀c∈wy,c.1∈ws∧Expr' ws c.2∧c.2.dep≤12
structure DeedOk (ws:List Str)(d:Deed):Prop where
 price:1≤d.price
 need:Cond' ws d.need
 dep:d.need.dep≤12
 ne:d.ways≠[]
 le:d.ways.length≤100
 ways:∀wy∈d.ways,WayOk ws wy
structure LookOk (ws:List Str)(l:Look):Prop where
 price:1≤l.price
 part:Expr' ws l.part
 dep:l.part.dep≤12
section
variable {H H':Hp}
theorem zD.same (s:Same H H'){c:Str×Th}{u:V}(x:zD H c u):zD H' c u:=let ⟨a,v,e,q,r⟩:=x;⟨a,v,e,s _ _ q,r.mono (qC s)⟩
theorem WayIn.same (s:Same H H'){c:List (Str×Th)}{u:V}(x:WayIn H c u):WayIn H' c u:=let ⟨a,us,e,q,r⟩:=x;⟨a,us,e,s _ _ q,Paired.mapP r fun _ _ y=>y.same s⟩
theorem DeedIn.same (s:Same H H'){c:Deed}{u:V}(x:DeedIn H c u):DeedIn H' c u:=let ⟨a,nv,wa,us,e,q,r,q2,p⟩:=x;⟨a,nv,wa,us,e,s _ _ q,r.mono (qC s),s _ _ q2,Paired.mapP p fun _ _ y=>y.same s⟩
theorem LookIn.same (s:Same H H'){c:Look}{u:V}(x:LookIn H c u):LookIn H' c u:=let ⟨a,v,e,q,r⟩:=x;⟨a,v,e,s _ _ q,r.mono (qC s)⟩
end
structure Wd where
 bs:List (Str×Int)
 ds:List Deed
 ls:List Look
 bt:Th
 gt:Th
noncomputable abbrev Wd.ws (W:Wd):List Str:=W.bs.map (·.1)
structure WAt (H:Hp)(W:Wd)(bx dx lx:Addr)(bv gv:V):Prop where
 boxes:∃us,H bx=some (.lst us)∧Paired (BoxIn H) W.bs us
 deeds:∃us,H dx=some (.lst us)∧Paired (DeedIn H) W.ds us
 looks:∃us,H lx=some (.lst us)∧Paired (LookIn H) W.ls us
 beg:W.bt.At H bv
 goal:W.gt.At H gv
structure WOk (W:Wd):Prop where
 b1:1≤W.bs.length
 b6:W.bs.length≤6
 b25:∀b∈W.bs,2≤b.2∧b.2≤5
 b200:(W.bs.map (·.2)).foldl (· * ·) 1≤200
 named:Named W.ws
 dl:W.ds.length≤100
 ll:W.ls.length≤100
 nd:(W.ds.map Deed.name++W.ls.map Look.name).Nodup
 deeds:∀d∈W.ds,DeedOk W.ws d
 looks:∀l∈W.ls,LookOk W.ws l
 beg:Cond' W.ws W.bt
 begd:W.bt.dep≤11
 goal:Cond' W.ws W.gt
 goald:W.gt.dep≤12
 some':∃vals∈allV W.bs,W.bt.truth (envOf (kvsOf W.bs vals))=true
 sh:∀x∈W.ds.map Deed.name++W.ls.map Look.name,Lw x
theorem WAt.same {H H':Hp}{W:Wd}{bx dx lx:Addr}{bv gv:V}(s:Same H H')(x:WAt H W bx dx lx bv gv):WAt H' W bx dx lx bv gv:=by
 obtain⟨u1,e1,p1⟩:=x.boxes
 obtain⟨u2,e2,p2⟩:=x.deeds
 obtain⟨u3,e3,p3⟩:=x.looks
 exact⟨⟨u1,s _ _ e1,xK (qC s) p1⟩,⟨u2,s _ _ e2,Paired.mapP p2 fun _ _ y=>y.same s⟩,⟨u3,s _ _ e3,Paired.mapP p3 fun _ _ y=>y.same s⟩,x.beg.mono (qC s),x.goal.mono (qC s)⟩
theorem Expr'.in {ws:List Str}:∀{t:Th},Expr' ws t→∀x∈t.names,x∈ws
 | .num _,_,x,h=>by cases h
 | .box y,h,x,hx=>by
  have hx:x∈[y]:=hx
  rw[List.mem_singleton.mp hx];exact h
 | .nul _,h,_,_=>h.elim
 | .un _ _,h,_,_=>h.elim
 | .bin k a b,⟨_,ha,hb⟩,x,hx=>by
  have hx:x∈a.names++b.names:=hx
  rcases List.mem_append.mp hx with h | h
  ·exact Expr'.in ha x h
  ·exact Expr'.in hb x h
theorem Cond'.in {ws:List Str}:∀{t:Th},Cond' ws t→∀x∈t.names,x∈ws
 | .num _,h,_,_=>h.elim
 | .box _,h,_,_=>h.elim
 | .nul _,_,x,h=>by cases h
 | .un k a,⟨_,ha⟩,x,hx=>Cond'.in ha x hx
 | .bin k a b,h,x,hx=>by
  have hx:x∈a.names++b.names:=hx
  rcases h with⟨_,ha,hb⟩ | ⟨_,ha,hb⟩
  ·rcases List.mem_append.mp hx with h | h
   ·exact ha.in x h
   ·exact hb.in x h
  ·rcases List.mem_append.mp hx with h | h
   ·exact Cond'.in ha x h
   ·exact Cond'.in hb x h
theorem vZ (ws:List Str):(strsV ws).all flatV=true:=List.all_eq_true.mpr fun x hx=>by
 obtain⟨y,_,rfl⟩:=List.mem_map.mp hx
 rfl
theorem wC (x:Str)(ws:List Str):inV (.str x) (strsV ws)=decide (x∈ws):=by
 unfold inV
 rw[List.any_map]
 by_cases h:x∈ws
 ·rw[decide_eq_true h]
  refine List.any_eq_true.mpr ⟨x,h,?_⟩
  show(x == x)=true
  exact beq_self_eq_true x
 ·rw[decide_eq_false h]
  refine Bool.eq_false_iff.mpr fun z=>?_
  obtain⟨y,hy,e⟩:=List.any_eq_true.mp z
  have e:(y == x)=true:=e
  exact h (eq_of_beq e▸hy)

noncomputable def Short (x:Str):Prop:=x.length≤1000∧(reprText x).length≤100000
theorem qBm {q:Nat}:∀(l:List Nat) (n:Nat),(∀c∈l,(Builtin.Str.reprChar q c).length≤1)→l.foldl (fun n c=>n+(Builtin.Str.reprChar q c).length) n≤n+l.length
 | [],n,_=>by simp
 | c::l,n,h=>by
  have h1:=h c (List.mem_cons_self ..)
  have ih:=qBm l (n+(Builtin.Str.reprChar q c).length) fun d hd=>h d (List.mem_cons_of_mem _ hd)
  rw[List.foldl_cons,List.length_cons]
  omega
theorem qXq {x:Str}(h:Lw x):Short x:=by
 obtain⟨hl,h⟩:=h
 refine⟨by omega,?_⟩
 rw[← reprLen_eq,← Array.foldl_toList]
 have hq:∀c∈x.cps.toList,(Builtin.Str.reprChar (reprQuote x) c).length≤1:=fun c hc=>by
  unfold reprQuote
  split
  ·exact(h c hc).1
  ·exact(h c hc).2
 have:=qBm x.cps.toList 2 hq
 have e:x.cps.toList.length=x.length:=rfl
 omega
theorem xF {n:Nat}(h:n≤1000000):n≤sizeLine:=by rw[show sizeLine=16777216 by decide];omega
theorem qWz {x y:Str}{a b c:Nat}(h1:x.length≤a)(h2:y.length≤b)(h:a+b≤c):(x++y).length≤c:=by rw[Str.length_append];omega
theorem thr2 {C:Addr}{E:XK}{D:Ends}{σ:St}{H:Hp}{a y:Str}{tm:TE}(hm:∀R:VK,R (.str y) H→tm σ H R)(la:a.length≤1000)(ly:y.length≤100000)(q:E (.ref C) none H):tThrow C (tCons (tJoin [tC (.str a),tm] Str.empty) tNil) E D σ H:=by
 have h1:(Str.empty++a).length≤2000:=qWz (a:=0) (b:=1000) (by decide) la (by decide)
 have h2:=qWz h1 ly (show 2000+100000≤1000000 by decide)
 exact⟨a,rfl,xF (by omega),hm _ ⟨y,rfl,xF h2,xF h2,xF (show 1≤1000000 by decide),q⟩⟩
theorem thr3 {C:Addr}{E:XK}{D:Ends}{σ:St}{H:Hp}{a b y:Str}{tm:TE}(hm:∀R:VK,R (.str y) H→tm σ H R)(la:a.length≤1000)(ly:y.length≤100000)(lb:b.length≤1000)(q:E (.ref C) none H):tThrow C (tCons (tJoin [tC (.str a),tm,tC (.str b)] Str.empty) tNil) E D σ H:=by
 have h1:(Str.empty++a).length≤2000:=qWz (a:=0) (b:=1000) (by decide) la (by decide)
 have h2:=qWz h1 ly (show 2000+100000≤200000 by decide)
 have h3:=qWz h2 lb (show 200000+1000≤1000000 by decide)
 exact⟨a,rfl,xF (by omega),hm _ ⟨y,rfl,xF (by omega),b,rfl,xF h3,xF h3,xF (show 1≤1000000 by decide),q⟩⟩
theorem fmtR {σ:St}{H:Hp}{te:TE}{x:Str}(s:Short x)(h:∀R:VK,R (.str x) H→te σ H R):∀R:VK,R (.str (reprText x)) H→tFmtR te σ H R:=fun R r=>h _ ⟨x,rfl,xF (by have:=s.2;omega),r⟩
theorem fmtS {σ:St}{H:Hp}{te:TE}{x:Str}(s:x.length≤1000)(h:∀R:VK,R (.str x) H→te σ H R):∀R:VK,R (.str x) H→tFmt te σ H R:=fun R r=>h _ ⟨x,rfl,xF (by omega),r⟩
theorem thr1 {C:Addr}{E:XK}{D:Ends}{σ:St}{H:Hp}{a:V}(q:E (.ref C) none H):tThrow C (tCons (tC a) tNil) E D σ H:=⟨xF (show 1≤1000000 by decide),q⟩
theorem qWe:xM ["thing"] ["thing"] (xB (top 25)):=⟨rfl,rfl,rfl,by decide +kernel,rfl,by decide +kernel,by decide +kernel⟩
noncomputable def qWa:Sp:=fun vs H Q _=>∃i:Int,vs=[.int i]∧Q (.bl true) H
theorem qTg:PySem.W.kitOne K (.type "int") (.type "bool")=some false:=by with_unfolding_all rfl
theorem qNb (F:Fd K mg "is_whole" (top 25) ["thing"])(B:Bl mg):Dn P w K mg base "is_whole" 1 ["thing"] qWa:=by
 refine F.ok qWe (fun vs H Q E h=>?_) (fun f cdv A outer s H vs Q E hr h=>?_)
 ·obtain⟨_,rfl,_⟩:=h
  rfl
 obtain⟨i,rfl,q⟩:=h
 refine⟨_,(qJ (qO (qFl (xJ (qQd (K:=K)) rfl B.isinstance' yD (qQ (pv 0) (qQ (qPw rfl B.int' qCw) qX))) (qFg (qFh (xJ (qQd (K:=K)) rfl B.isinstance' yD (qQ (pv 0) (qQ (qPw rfl B.bool' qRe) qX)))))))),?_⟩
 wtm_at "zw"
 refine⟨.int i,"int",_,true,rfl,.int i,qTf,?_⟩
 wtm_at "zw"
 refine⟨.int i,"bool",_,false,rfl,.int i,qTg,?_⟩
 wtm_at "zw"
 exact q
theorem qXa:xM ["name","price"] ["name","price"] (xB (top 28)):=⟨rfl,rfl,rfl,by decide +kernel,rfl,by decide +kernel,by decide +kernel⟩
noncomputable def qBq (C:Addr):Sp:=fun vs H Q E=>∃(x:Str) (p:Int),vs=[.str x,.int p]∧Short x∧(1≤p→Q .non H)∧(¬1≤p→E (.ref C) none H)
theorem qNv {C:Addr}(F:Fd K mg "refuse_price" (top 28) ["name","price"])(O_NoWorld:PyProof.Rows.OwnCls "NoWorld" C bmV "ValueError.__new__" mg base)(D_is_whole:Dn P w K mg base "is_whole" 1 ["thing"] qWa)(GL_LEAST_PRICE:Gi mg "LEAST_PRICE" 1):Dx P w K mg base "refuse_price" 2 ["name","price"] (qBq C):=by
 refine F.okx qXa (fun vs H Q E h=>?_) (fun f cdv A outer s H vs Q E hr h=>?_)
 ·obtain⟨_,_,rfl,_⟩:=h
  rfl
 obtain⟨x,p,rfl,sx,q1,q2⟩:=h
 refine⟨_,(qJ (zK (PW.pt (qWg (qFc (qKf (qD D_is_whole hr (qQ (pv 1) qX)))) (qJj (qS qQf (pv 1) (qPa GL_LEAST_PRICE) (xE _))))) (qJ (yP O_NoWorld (qQ (kZ (.cons qG (.cons (qXf (pv 0)) (.cons qG .nil)))) qX))) qY)),?_⟩
 wtm_at "zw"
 refine⟨p,rfl,?_⟩
 wtm_at "zw"
 by_cases hp:1≤p
 ·refine zY (decide_eq_false (by omega)) ?_
  wtm_at "zw"
  exact q1 hp
 ·refine zF (decide_eq_true (by omega)) ?_
  wtm_at "zw"
  exact thr3 (fmtR sx fun R r=>⟨_,rfl,r⟩) (by decide) sx.2 (by decide) (q2 hp)
theorem kR:xM ["name","names"] ["name","names"] (xB (top 30)):=⟨rfl,rfl,rfl,by decide +kernel,rfl,by decide +kernel,by decide +kernel⟩
noncomputable def vP (C:Addr):Sp:=fun vs H Q E=>∃(x:Str) (nl:Addr) (ws:List Str),vs=[.str x,.ref nl]∧H nl=some (.lst (strsV ws))∧Short x∧(x∈ws→Q .non H)∧(x∉ws→E (.ref C) none H)
theorem qAw {C:Addr}(F:Fd K mg "refuse_strange_name" (top 30) ["name","names"])(O_NoWorld:PyProof.Rows.OwnCls "NoWorld" C bmV "ValueError.__new__" mg base):Dx P w K mg base "refuse_strange_name" 1 ["name","names"] (vP C):=by
 refine F.okx kR (fun vs H Q E h=>?_) (fun f cdv A outer s H vs Q E hr h=>?_)
 ·obtain⟨_,_,_,rfl,_⟩:=h
  rfl
 obtain⟨x,nl,ws,rfl,hn,sx,q1,q2⟩:=h
 refine⟨_,(qJ (zK (qS (qKl (K:=K)) (pv 0) (pv 1) (by with_unfolding_all rfl)) (qJ (yP O_NoWorld (qQ (kZ (.cons qG (.cons (qXf (pv 0)) .nil))) qX))) qY)),?_⟩
 wtm_at "zw"
 refine⟨nl,_,rfl,.inl (SqL.of hn),rfl,vZ ws,?_⟩
 wtm_at "zw"
 rw[if_pos rfl,wC]
 by_cases hx:x∈ws
 ·rw[decide_eq_true hx]
  refine iteF ?_
  wtm_at "zw"
  exact q1 hx
 ·rw[decide_eq_false hx]
  refine iteT ?_
  wtm_at "zw"
  exact thr2 (fmtR sx fun R r=>⟨_,rfl,r⟩) (by decide) sx.2 (q2 hx)
theorem jO:xM ["thing","names","name"] ["thing","names"] (xB (top 31)):=⟨rfl,rfl,rfl,by decide +kernel,rfl,by decide +kernel,by decide +kernel⟩
structure Fit (t:Th):Prop where
 ok:t.Ok
 dp:t.dep≤12
 sh:∀x∈t.names,Short x
noncomputable def wO (C:Addr):Sp:=fun vs H Q E=>∃(t:Th) (v:V) (nl:Addr) (ws:List Str),vs=[v,.ref nl]∧t.At H v∧Fit t∧H nl=some (.lst (strsV ws))∧((∀x∈t.names,x∈ws)→∀H',Same H H'→Q .non H')∧(¬(∀x∈t.names,x∈ws)→∀H',Same H H'→E (.ref C) none H')
theorem qDd {C:Addr}(F:Fd K mg "refuse_strange_names" (top 31) ["thing","names"])(X_refuse_strange_name:Dx P w K mg base "refuse_strange_name" 1 ["name","names"] (vP C))
  (D_names_in:Dn P w K mg base "names_in" 13 ["thing"] (wP 12)):Dx P w K mg base "refuse_strange_names" 14 ["thing","names"] (wO C):=by
 refine F.okx jO (fun vs H Q E h=>?_) (fun f cdv A outer s H vs Q E hr h=>?_)
 ·obtain⟨_,_,_,_,rfl,_⟩:=h
  rfl
 obtain⟨t,v,nl,ws,rfl,at',fit,hn,q1,q2⟩:=h
 refine⟨_,(qJ (jE PassesOwn.leaving rfl (xQ (K:=K) (qD D_names_in hr (qQ (pv 0) qX))) (qH (i:=2) jO.nd rfl (by wtm_at "zo")) (qJ (qR (qE X_refuse_strange_name hr (qQ (pv 2) (qQ (pv 1) qX))))))),?_⟩
 wtm_at "zf"
 refine⟨t,v,rfl,at',fit.ok,fit.dp,fit.dp,fun r H1 hr1 S1 er=>?_⟩
 refine⟨r,rfl,⟨_,SqL.of er⟩,?_⟩
 refine qYe (xs:=strsV t.names) (fun i σ' H'=>∃z:Option V,σ'=[some v,some (.ref nl),z]∧H'=H1∧∀x∈t.names.take i,x∈ws) ⟨none,rfl,rfl,fun x hx=>by cases hx⟩ (fun i σ' H' _ hP=>?_) (fun i x σ' H' ex hP=>?_) (fun σ' H' hP=>?_)
 ·obtain⟨z,rfl,rfl,_⟩:=hP
  exact SqL.of er
 ·obtain⟨z,rfl,rfl,hi⟩:=hP
  rw[List.getElem?_map] at ex
  obtain⟨y,ey,rfl⟩:=Option.map_eq_some_iff.mp ex
  have hy:=List.mem_of_getElem? ey
  wtm_at "zw"
  refine⟨y,nl,ws,rfl,S1 _ _ hn,fit.sh y hy,fun m=>?_,fun m=>q2 (fun g=>m (g y hy)) _ S1⟩
  refine⟨_,rfl,rfl,fun x hx=>?_⟩
  rw[List.take_add_one,ey] at hx
  exact(List.mem_append.mp hx).elim (hi x) fun h=>by
   have h:x∈[y]:=h
   rw[List.mem_singleton.mp h];exact m
 ·obtain⟨z,rfl,rfl,hi⟩:=hP
  rw[xA,List.take_length] at hi
  exact q1 hi _ S1
theorem qXw:xM ["names","kind"] ["names","kind"] (xB (top 27)):=⟨rfl,rfl,rfl,by decide +kernel,rfl,by decide +kernel,by decide +kernel⟩
noncomputable def qQi (C:Addr):Sp:=fun vs H Q E=>∃(nl:Addr) (ws:List Str) (x:Str),vs=[.ref nl,.str x]∧H nl=some (.lst (strsV ws))∧x.length≤1000∧ws.length≤1000∧(ws.Nodup→∀H',Same H H'→Q .non H')∧(¬ws.Nodup→∀H',Same H H'→E (.ref C) none H')
theorem qNk {C:Addr}(F:Fd K mg "refuse_twice" (top 27) ["names","kind"])(O_NoWorld:PyProof.Rows.OwnCls "NoWorld" C bmV "ValueError.__new__" mg base)(B:Bl mg)(B_set:mg "set" = none):Dx P w K mg base "refuse_twice" 1 ["names","kind"] (qQi C):=by
 refine F.okx qXw (fun vs H Q E h=>?_) (fun f cdv A outer s H vs Q E hr h=>?_)
 ·obtain⟨_,_,_,rfl,_⟩:=h
  rfl
 obtain⟨nl,ws,x,rfl,hn,lx,hl,q1,q2⟩:=h
 refine⟨_,(qJ (zK (qS qQf (xJ (qIb (P:=P) (w:=w)) rfl B.len' zH (qQ (xZ (qIw (P:=P) (w:=w) (K:=K) rfl) rfl B_set qUw (qQ (pv 0) qX)) qX)) (xJ (xR (K:=K)) rfl B.len' zH (qQ (pv 0) qX)) (xE _)) (qJ (yP O_NoWorld (qQ (kZ (.cons qG (.cons (qSn (pv 1)) (.cons qG .nil)))) qX))) qY)),?_⟩
 wtm_at "zw"
 refine⟨nl,ws,rfl,SqL.of hn,hl,fun p n hp hle hnd=>?_⟩
 wtm_at "zw"
 refine⟨p,n,rfl,qW,by omega,?_⟩
 wtm_at "zw"
 by_cases nd:ws.Nodup
 ·have:=hnd.mpr nd
  refine zY (decide_eq_false (by rw[xA];omega)) ?_
  wtm_at "zw"
  exact q1 nd _ (qV hp _)
 ·have:n≠ws.length:=fun z=>nd (hnd.mp z)
  refine zF (decide_eq_true (by rw[xA];omega)) ?_
  wtm_at "zw"
  exact thr3 (fmtS lx fun R r=>⟨_,rfl,r⟩) (by decide) (by omega) (by decide) (q2 nd _ (qV hp _))
theorem yM:xM ["boxes","name","size"] ["boxes"] (xB (top 26)):=⟨rfl,rfl,rfl,by decide +kernel,rfl,by decide +kernel,by decide +kernel⟩
theorem yW:CompOk (xB (top 26)) ["boxes","name","size"] (scAt (xC (top 26)) [1] [1]) ["name","size"] 2 []:=
 ⟨by decide +kernel,by decide +kernel,by decide +kernel,by decide +kernel,by decide +kernel,by decide +kernel,by decide +kernel,by decide +kernel⟩
structure BoxesG (bs:List (Str×Int)):Prop where
 b1:1≤bs.length
 nd:(bs.map (·.1)).Nodup
 no:∀b∈bs,b.1∉cwords
 b25:∀b∈bs,2≤b.2∧b.2≤5
noncomputable def qKj (C:Addr):Sp:=fun vs H Q E=>∃(bx:Addr) (bs:List (Str×Int)) (us:List V),vs=[.ref bx]∧H bx=some (.lst us)∧Paired (BoxIn H) bs us∧bs.length≤1000∧(∀b∈bs,Short b.1)∧(BoxesG bs→∀H',Same H H'→Q .non H')∧(¬BoxesG bs→∀H',Same H H'→E (.ref C) none H')
theorem qHf {C:Addr}(F:Fd K mg "refuse_boxes" (top 26) ["boxes"])(O_NoWorld:PyProof.Rows.OwnCls "NoWorld" C bmV "ValueError.__new__" mg base)(B:Bl mg)(X_refuse_twice:Dx P w K mg base "refuse_twice" 1 ["names","kind"] (qQi C))(D_is_whole:Dn P w K mg base "is_whole" 1 ["thing"] qWa)
  (GL_LEAST_SIZE:Gi mg "LEAST_SIZE" 2) (GL_GREATEST_SIZE:Gi mg "GREATEST_SIZE" 5) (GL_WORDS_OF_CONDITIONS:Gs K mg "WORDS_OF_CONDITIONS" ["not","and","yes"]):Dx P w K mg base "refuse_boxes" 2 ["boxes"] (qKj C):=by
 refine F.okx yM (fun vs H Q E h=>?_) (fun f cdv A outer s H vs Q E hr h=>?_)
 ·obtain⟨_,_,_,rfl,_⟩:=h
  rfl
 obtain⟨bx,bs,us,rfl,ebx,pb,h1000,hsh,q1,q2⟩:=h
 have lb:us.length=bs.length:=pb.length.symm
 refine⟨_,(qZ (zK (qS zM (xJ (xR (K:=K)) rfl B.len' zH (qQ (pv 0) qX)) qF (xE _)) (qJ (yP O_NoWorld (qQ qG qX))) qY)
  (qZ (qR (qE X_refuse_twice hr (qQ (jP rfl yW (xQ (K:=K) (pv 0)) (fun cl fp s H=>(jV (K:=K) (n:=2) rfl (qI (qH (i:=0) yW.nd rfl (Or.inl rfl) (.inr rfl)) (qI (qH (i:=1) yW.nd rfl (Or.inl rfl) (.inr rfl)) qM)))) (fun cl fp s H=>jJ) (fun cl fp s H=>(pv 0))) (qQ qG qX))))
  (qJ (jE PassesOwn.leaving rfl (xQ (K:=K) (pv 0)) (jV (K:=K) (n:=2) rfl (qI (qH (i:=1) yM.nd rfl (by wtm_at "zo")) (qI (qH (i:=2) yM.nd rfl (by wtm_at "zo")) qM))) (qZ (zK (qS (qNo (K:=K)) (pv 1) (xQq GL_WORDS_OF_CONDITIONS) (by with_unfolding_all rfl)) (qJ (yP O_NoWorld (qQ (kZ (.cons qG (.cons (qXf (pv 1)) .nil))) qX))) qY)
  (qJ (zK (PW.pt (qWg (qFc (qKf (qD D_is_whole hr (qQ (pv 2) qX)))) (qWg (qS qQf (pv 2) (qPa GL_LEAST_SIZE) (xE _)) (qJj (qS qMh (pv 2) (qPa GL_GREATEST_SIZE) (xE _)))))) (qJ (yP O_NoWorld (qQ (kZ (.cons qG (.cons (qXf (pv 1)) (.cons qG .nil)))) qX))) qY))))))),?_⟩
 wtm_at "zw"
 by_cases h1:1≤bs.length
 case neg=>
  refine zF (decide_eq_true (by rw[lb];exact congrArg V.int (by omega))) ?_
  wtm_at "zw"
  exact thr1 (q2 (fun g=>h1 g.b1) _ (Same.refl _))
 refine zY (decide_eq_false (by intro z;injection z with z;omega)) ?_
 wtm_at "zw"
 refine⟨_,rfl,bx,rfl,⟨us,SqL.of ebx⟩,qJv ebx pb h1000 fun D H1 S1 eD=>?_⟩
 wtm_at "zw"
 refine⟨D,_,_,rfl,eD,by decide,by rw[List.length_map];omega,fun nd H2 S2=>?_,fun nd H2 S2=>q2 (fun g=>nd g.nd) _ (S1.trans S2)⟩
 have S12:=S1.trans S2
 wtm_at "zw"
 refine⟨_,rfl,bx,rfl,⟨us,SqL.of (S12 _ _ ebx)⟩,?_⟩
 refine jB (xs:=us) (fun i σ' H'=>∃z1 z2:Option V,σ'=[some (.ref bx),z1,z2]∧H'=H2∧∀b∈bs.take i,b.1∉cwords∧2≤b.2∧b.2≤5) ⟨none,none,rfl,rfl,fun b hb=>by cases hb⟩ (fun i σ' H' _ hP=>?_) (fun N rt bk i x σ' H' ex hP hN=>?_) (fun σ' H' hP=>?_)
 ·obtain⟨z1,z2,rfl,rfl,_⟩:=hP
  exact SqL.of (S12 _ _ ebx)
 ·obtain⟨z1,z2,rfl,rfl,hi⟩:=hP
  obtain⟨b,eb⟩:∃b,bs[i]? = some b:=⟨_,List.getElem?_eq_getElem (by rw[← lb];exact(List.getElem?_eq_some_iff.mp ex).1)⟩
  obtain⟨ba,rfl,hba⟩:=xV pb eb ex
  have hb:=List.mem_of_getElem? eb
  have sb:=hsh b hb
  refine⟨ba,_,rfl,SqT.of (S12 _ _ hba),rfl,_,_,rfl,_,_,rfl,rfl,?_⟩
  wtm_at "zw"
  intro p sq
  refine⟨p,_,rfl,.inr sq,rfl,vZ _,?_⟩
  wtm_at "zw"
  rw[if_neg Bool.false_ne_true,wC]
  by_cases hno:b.1∈([("not" : Str),"and","yes"]:List Str)
  ·rw[decide_eq_true hno]
   refine iteT ?_
   wtm_at "zw"
   exact thr2 (fmtR sb fun R r=>⟨_,rfl,r⟩) (by decide) sb.2 (q2 (fun g=>g.no b hb hno) _ S12)
  rw[decide_eq_false hno]
  refine iteF ?_
  wtm_at "zw"
  refine⟨b.2,rfl,?_⟩
  wtm_at "zw"
  by_cases g2:b.2<2
  ·refine zF (decide_eq_true g2) ?_
   wtm_at "zw"
   exact thr3 (fmtR sb fun R r=>⟨_,rfl,r⟩) (by decide) sb.2 (by decide) (q2 (fun g=>by have:=g.b25 b hb;omega) _ S12)
  refine zY (decide_eq_false g2) ?_
  wtm_at "zw"
  by_cases g5:5<b.2
  ·refine zF (decide_eq_true g5) ?_
   wtm_at "zw"
   exact thr3 (fmtR sb fun R r=>⟨_,rfl,r⟩) (by decide) sb.2 (by decide) (q2 (fun g=>by have:=g.b25 b hb;omega) _ S12)
  refine zY (decide_eq_false g5) ?_
  refine hN _ _ ⟨_,_,rfl,rfl,fun c hc=>?_⟩
  rw[List.take_add_one,eb] at hc
  refine(List.mem_append.mp hc).elim (hi c) fun h=>?_
  have h:c∈[b]:=h
  rw[List.mem_singleton.mp h]
  exact⟨hno,by omega,by omega⟩
 ·obtain⟨z1,z2,rfl,rfl,hi⟩:=hP
  rw[lb,List.take_length] at hi
  exact q1 ⟨h1,nd,fun b hb=>(hi b hb).1,fun b hb=>(hi b hb).2⟩ _ S12
theorem yX:xM ["deed_name","ways","names","way","name","expression"] ["deed_name","ways","names"] (xB (top 29)):=⟨rfl,rfl,rfl,by decide +kernel,rfl,by decide +kernel,by decide +kernel⟩
theorem yN:CompOk (xB (top 29)) ["deed_name","ways","names","way","name","expression"] (scAt (xC (top 29)) [1,0] [1]) ["name","expression"] 2 []:=
 ⟨by decide +kernel,by decide +kernel,by decide +kernel,by decide +kernel,by decide +kernel,by decide +kernel,by decide +kernel,by decide +kernel⟩
structure WayG (ws:List Str)(wy:List (Str×Th)):Prop where
 nd:(wy.map (·.1)).Nodup
 ok:∀c∈wy,c.1∈ws∧∀x∈c.2.names,x∈ws
structure WayF (wy:List (Str×Th)):Prop where
 le:wy.length≤100
 ok:∀c∈wy,Short c.1∧Fit c.2
noncomputable def qEm (C:Addr):Sp:=fun vs H Q E=>∃(x:Str) (wa nl:Addr) (us:List V) (ws:List Str) (wys:List (List (Str×Th))),vs=[.str x,.ref wa,.ref nl]∧Short x∧H wa=some (.lst us)∧Paired (WayIn H) wys us∧wys.length≤100∧(∀wy∈wys,WayF wy)∧
 H nl=some (.lst (strsV ws))∧((wys≠[]∧∀wy∈wys,WayG ws wy)→∀H',Same H H'→Q .non H')∧(¬(wys≠[]∧∀wy∈wys,WayG ws wy)→∀H',Same H H'→E (.ref C) none H')
theorem qDa {σ:St}{H:Hp}{Q:VK}{wa:Addr}{us:List V}{wy:List (Str×Th)}(e1:H wa=some (.lst us))(p1:Paired (zD H) wy us)(hl:wy.length≤1000)
  (q:∀(D:Addr) (H':Hp),Same H H'→H' D=some (.lst (strsV (wy.map (·.1))))→Q (.ref D) H'):
  rdC 2 [] (gTup K 2 (gCons (gName 0) (gCons (gName 1) gNil))) tYes (tVar 0) (Itl K wa) σ H Q:=by
 have lb:us.length=wy.length:=p1.length.symm
 refine jQ (xs:=us) (fun D i ys H'=>ys=strsV ((wy.take i).map (·.1))∧∀b o,H b=some o→H' b=some o) (fun D hD=>⟨rfl,qV hD _⟩)
  (fun D i ys H' _ hP=>(show Same H H' from hP.2).seq (SqL.of e1)) (fun D i x ys H' N hD hDy ex hP hN=>?_) (fun wd ys H2 hD hDy hP=>?_)
 ·obtain⟨rfl,hk⟩:=hP
  obtain⟨b,eb⟩:∃b,wy[i]? = some b:=⟨_,List.getElem?_eq_getElem (by rw[← lb];exact(List.getElem?_eq_some_iff.mp ex).1)⟩
  obtain⟨ba,bv,rfl,hba,_⟩:=xV p1 eb ex
  refine⟨ba,_,rfl,SqT.of (hk _ _ hba),rfl,_,_,rfl,_,_,rfl,rfl,⟨[some (.str b.1),some bv],rfl,rfl⟩,?_⟩
  refine⟨_,rfl,hDy,?_,hN _ _ qW ⟨?_,fun b o e=>?_⟩⟩
  ·rw[xA,List.length_map,List.length_take];exact small (by omega)
  ·rw[List.take_add_one,eb,List.map_append,zS];rfl
  ·rw[qA (qB e hD)];exact hk _ _ e
 obtain⟨rfl,hk2⟩:=hP
 rw[lb,List.take_length] at hDy
 exact q wd H2 hk2 hDy
theorem qRa {C:Addr}(F:Fd K mg "refuse_ways" (top 29) ["deed_name","ways","names"])(O_NoWorld:PyProof.Rows.OwnCls "NoWorld" C bmV "ValueError.__new__" mg base)(B:Bl mg)(X_refuse_twice:Dx P w K mg base "refuse_twice" 1 ["names","kind"] (qQi C))(X_refuse_strange_name:Dx P w K mg base "refuse_strange_name" 1 ["name","names"] (vP C))
  (X_refuse_strange_names:Dx P w K mg base "refuse_strange_names" 14 ["thing","names"] (wO C)):Dx P w K mg base "refuse_ways" 15 ["deed_name","ways","names"] (qEm C):=by
 refine F.okx yX (fun vs H Q E h=>?_) (fun f cdv A outer s H vs Q E hr h=>?_)
 ·obtain⟨_,_,_,_,_,_,rfl,_⟩:=h
  rfl
 obtain⟨x,wa,nl,us,ws,wys,rfl,sx,ewa,pw,hle,hok,hn,q1,q2⟩:=h
 have lw:us.length=wys.length:=pw.length.symm
 refine⟨_,(qZ (zK (qS zM (xJ (xR (K:=K)) rfl B.len' zH (qQ (pv 1) qX)) qF (xE _)) (qJ (yP O_NoWorld (qQ (kZ (.cons qG (.cons (qXf (pv 0)) (.cons qG .nil)))) qX))) qY)
  (qJ (jE PassesOwn.leaving rfl (xQ (K:=K) (pv 1)) (qH (i:=3) yX.nd rfl (by wtm_at "zo")) (qZ (qR (qE X_refuse_twice hr (qQ (jP rfl yN (xQ (K:=K) (pv 3)) (fun cl fp s H=>(jV (K:=K) (n:=2) rfl (qI (qH (i:=0) yN.nd rfl (Or.inl rfl) (.inr rfl)) (qI (qH (i:=1) yN.nd rfl (Or.inl rfl) (.inr rfl)) qM)))) (fun cl fp s H=>jJ) (fun cl fp s H=>(pv 0))) (qQ qG qX))))
  (qJ (jE PassesOwn.leaving rfl (xQ (K:=K) (pv 3)) (jV (K:=K) (n:=2) rfl (qI (qH (i:=4) yX.nd rfl (by wtm_at "zo")) (qI (qH (i:=5) yX.nd rfl (by wtm_at "zo")) qM))) (qZ (qR (qE X_refuse_strange_name hr (qQ (pv 4) (qQ (pv 2) qX))))
  (qJ (qR (qE X_refuse_strange_names hr (qQ (pv 5) (qQ (pv 2) qX)))))))))))),?_⟩
 wtm_at "zw"
 by_cases hne:wys=[]
 ·refine zF (decide_eq_true (by rw[lw,hne];rfl)) ?_
  wtm_at "zw"
  exact thr3 (fmtR sx fun R r=>⟨_,rfl,r⟩) (by decide) sx.2 (by decide) (q2 (fun g=>g.1 hne) _ (Same.refl _))
 have l1:=List.length_pos_iff.mpr hne
 refine zY (decide_eq_false (by intro z;injection z with z;omega)) ?_
 wtm_at "zw"
 refine⟨_,rfl,wa,rfl,⟨us,SqL.of ewa⟩,?_⟩
 refine jB (xs:=us) (fun i σ' H'=>∃z1 z2 z3:Option V,σ'=[some (.str x),some (.ref wa),some (.ref nl),z1,z2,z3]∧Same H H'∧∀wy∈wys.take i,WayG ws wy) ⟨none,none,none,rfl,Same.refl _,fun b hb=>by cases hb⟩ (fun i σ' H' _ hP=>?_) (fun N rt bk i u σ' H' ex hP hN=>?_) (fun σ' H' hP=>?_)
 ·obtain⟨_,_,_,rfl,S,_⟩:=hP
  exact SqL.of (S _ _ ewa)
 ·obtain⟨z1,z2,z3,rfl,S1,hi⟩:=hP
  obtain⟨wy,ewy⟩:∃b,wys[i]? = some b:=⟨_,List.getElem?_eq_getElem (by rw[← lw];exact(List.getElem?_eq_some_iff.mp ex).1)⟩
  obtain⟨ya,cs,rfl,eya,pc⟩:=xV pw ewy ex
  have hwy:=List.mem_of_getElem? ewy
  have wok:=hok wy hwy
  have lc:cs.length=wy.length:=pc.length.symm
  have wle:=wok.le
  wtm_at "zw"
  refine⟨_,rfl,ya,rfl,⟨cs,SqL.of (S1 _ _ eya)⟩,qDa (S1 _ _ eya) (Paired.mapP pc fun _ _ y=>y.same S1) (by omega) fun D H2 S2 eD=>?_⟩
  wtm_at "zw"
  refine⟨D,_,_,rfl,eD,by decide,by rw[List.length_map];omega,fun nd H3 S3=>?_,fun nd H3 S3=>q2 (fun g=>nd (g.2 wy hwy).nd) _ (S1.trans (S2.trans S3))⟩
  have S13:=S1.trans (S2.trans S3)
  wtm_at "zw"
  refine⟨_,rfl,ya,rfl,⟨cs,SqL.of (S13 _ _ eya)⟩,?_⟩
  refine jB (xs:=cs) (fun j σ'' H''=>∃z2 z3:Option V,σ''=[some (.str x),some (.ref wa),some (.ref nl),some (.ref ya),z2,z3]∧Same H H''∧∀c∈wy.take j,c.1∈ws∧∀x∈c.2.names,x∈ws) ⟨z2,z3,rfl,S13,fun b hb=>by cases hb⟩ (fun j σ'' H'' _ hP=>?_) (fun N2 rt2 bk2 j u σ'' H'' ex2 hP hN2=>?_) (fun σ'' H'' hP=>?_)
  ·obtain⟨_,_,rfl,S,_⟩:=hP
   exact SqL.of (S _ _ eya)
  ·obtain⟨z2,z3,rfl,S4,hj⟩:=hP
   obtain⟨c,ec⟩:∃b,wy[j]? = some b:=⟨_,List.getElem?_eq_getElem (by rw[← lc];exact(List.getElem?_eq_some_iff.mp ex2).1)⟩
   obtain⟨ca,cv,rfl,eca,cat⟩:=xV pc ec ex2
   have hc:=List.mem_of_getElem? ec
   obtain⟨o1,o2⟩:=wok.ok c hc
   refine⟨ca,_,rfl,SqT.of (S4 _ _ eca),rfl,_,_,rfl,_,_,rfl,rfl,?_⟩
   wtm_at "zw"
   refine⟨c.1,nl,ws,rfl,S4 _ _ hn,o1,fun m1=>?_,fun m1=>q2 (fun g=>m1 ((g.2 wy hwy).ok c hc).1) _ S4⟩
   wtm_at "zw"
   refine⟨c.2,cv,nl,ws,rfl,cat.mono (qC S4),o2,S4 _ _ hn,fun m2 H5 S5=>?_,fun m2 H5 S5=>q2 (fun g=>m2 ((g.2 wy hwy).ok c hc).2) _ (S4.trans S5)⟩
   refine hN2 _ _ ⟨_,_,rfl,S4.trans S5,fun d hd=>?_⟩
   rw[List.take_add_one,ec] at hd
   refine(List.mem_append.mp hd).elim (hj d) fun h=>?_
   have h:d∈[c]:=h
   rw[List.mem_singleton.mp h]
   exact⟨m1,m2⟩
  ·obtain⟨z2,z3,rfl,S4,hj⟩:=hP
   rw[lc,List.take_length] at hj
   refine hN _ _ ⟨_,_,_,rfl,S4,fun d hd=>?_⟩
   rw[List.take_add_one,ewy] at hd
   refine(List.mem_append.mp hd).elim (hi d) fun h=>?_
   have h:d∈[wy]:=h
   rw[List.mem_singleton.mp h]
   exact⟨nd,hj⟩
 ·obtain⟨_,_,_,rfl,S1,hi⟩:=hP
  rw[lw,List.take_length] at hi
  exact q1 ⟨hne,hi⟩ _ S1
theorem kS:xM ["begin","boxes","standing"] ["begin","boxes"] (xB (top 32)):=⟨rfl,rfl,rfl,by decide +kernel,rfl,by decide +kernel,by decide +kernel⟩
noncomputable def Somewhere (bs:List (Str×Int))(t:Th):Prop:=∃vals∈allV bs,t.truth (envOf (kvsOf bs vals))=true
noncomputable def qBz (C:Addr):Sp:=fun vs H Q E=>∃(t:Th) (v:V) (bx:Addr) (bs:List (Str×Int)) (us:List V),vs=[v,.ref bx]∧t.At H v∧Cond' (bs.map (·.1)) t∧t.dep≤12∧H bx=some (.lst us)∧Paired (BoxIn H) bs us∧bs.length≤6∧(∀b∈bs,2≤b.2∧b.2≤5)∧
 (Somewhere bs t→∀H',Same H H'→Q .non H')∧(¬Somewhere bs t→∀H',Same H H'→E (.ref C) none H')
theorem qNw {C:Addr}(F:Fd K mg "refuse_begin" (top 32) ["begin","boxes"])(O_NoWorld:PyProof.Rows.OwnCls "NoWorld" C bmV "ValueError.__new__" mg base)(D_standings_of_boxes:Dn P w K mg base "standings_of_boxes" 1 ["boxes"] qQl)(D_holds:Dn P w K mg base "holds" 26 ["condition","boxes","standing"] qEn):
  Dx P w K mg base "refuse_begin" 27 ["begin","boxes"] (qBz C):=by
 refine F.okx kS (fun vs H Q E h=>?_) (fun f cdv A outer s H vs Q E hr h=>?_)
 ·obtain⟨_,_,_,_,_,rfl,_⟩:=h
  rfl
 obtain⟨t,v,bx,bs,us,rfl,at',cx,dp,ebx,pb,h6,h25,q1,q2⟩:=h
 refine⟨_,(qZ (jE PassesOwn.leaving rfl (xQ (K:=K) (qD D_standings_of_boxes hr (qQ (pv 1) qX))) (qH (i:=2) kS.nd rfl (by wtm_at "zo")) (qJ (zK (qKf (qD D_holds hr (qQ (pv 0) (qQ (pv 1) (qQ (pv 2) qX))))) (qJ qPj) qY)))
  (qJ (yP O_NoWorld (qQ qG qX)))),?_⟩
 wtm_at "zf"
 refine⟨bx,bs,us,rfl,ebx,pb,h6,h25,fun r ss H1 nr S1 er pr=>?_⟩
 have lr:=pr.length
 refine⟨r,rfl,⟨ss,SqL.of er⟩,?_⟩
 refine qYe (xs:=ss) (fun i σ' H'=>∃z:Option V,σ'=[some v,some (.ref bx),z]∧Same H1 H'∧∀x∈(allV bs).take i,t.truth (envOf (kvsOf bs x))=false) ⟨none,rfl,Same.refl _,fun x hx=>by cases hx⟩
  (fun i σ' H' _ hP=>?_) (fun i x σ' H' ex hP=>?_) (fun σ' H' hP=>?_)
 ·obtain⟨_,rfl,S,_⟩:=hP
  exact SqL.of (S _ _ er)
 ·obtain⟨z,rfl,S2,hno⟩:=hP
  obtain⟨vals,ev⟩:∃b,(allV bs)[i]? = some b:=⟨_,List.getElem?_eq_getElem (by rw[lr];exact(List.getElem?_eq_some_iff.mp ex).1)⟩
  obtain⟨st,rfl,est⟩:=xV pr ev ex
  have S12:=S1.trans S2
  have fv:=qAh (List.mem_of_getElem? ev)
  wtm_at "zw"
  refine⟨t,v,bx,st,bs,vals,rfl,at'.mono (qC S12),cx,dp,⟨⟨us,S12 _ _ ebx,xK (qC S12) pb⟩,S2 _ _ est,fv.stands h25,by omega⟩,fun H3 S3=>?_⟩
  wtm_at "zw"
  cases e:t.truth (envOf (kvsOf bs vals)) with
  | true=>
   refine iteT ?_
   exact q1 ⟨vals,List.mem_of_getElem? ev,e⟩ _ (S12.trans S3)
  | false=>
   refine iteF ?_
   refine⟨_,rfl,S2.trans S3,fun x hx=>?_⟩
   rw[List.take_add_one,ev] at hx
   rcases List.mem_append.mp hx with h | h
   ·exact hno x h
   ·have h:x∈[vals]:=h
    rw[List.mem_singleton.mp h];exact e
 ·obtain⟨z,rfl,S2,hno⟩:=hP
  rw[← lr,List.take_length] at hno
  wtm_at "zw"
  exact⟨xF (show 1≤1000000 by decide),q2 (fun⟨vals,hv,ht⟩=>by rw[hno vals hv] at ht;cases ht) _ (S1.trans S2)⟩

noncomputable def LstIn (ok:Addr→Prop)(H:Hp)(cs:List V)(u:V):Prop:=∃l,u=.ref l∧ok l∧H l=some (.lst cs)
noncomputable def DeedAt (ok:Addr→Prop)(H:Hp)(x:Str)(p:Int)(dc:V×List (List V))(u:V):Prop:=∃a wa us,u=.ref a∧H a=some (.tup [.str x,.int p,dc.1,.ref wa])∧ok wa∧H wa=some (.lst us)∧Paired (LstIn ok H) dc.2 us
noncomputable def jH (H:Hp)(d:Deed)(dc:V×List (List V)):Prop:=d.need.At H dc.1∧Paired (fun wy cs=>Paired (zD H) wy cs) d.ways dc.2
theorem LstIn.move {ok ok':Addr→Prop}{H H':Hp}(h:∀b o,ok b→H b=some o→H' b=some o)(i:∀b,ok b→ok' b){cs:List V}{u:V}(x:LstIn ok H cs u):LstIn ok' H' cs u:=let ⟨l,e,o,q⟩:=x;⟨l,e,i l o,h l _ o q⟩
theorem DeedAt.move {ok ok':Addr→Prop}{H H':Hp}(h:∀b o,ok b→H b=some o→H' b=some o)(t:Tups H H')(i:∀b,ok b→ok' b){x:Str}{p:Int}{dc:V×List (List V)}{u:V}(z:DeedAt ok H x p dc u):DeedAt ok' H' x p dc u:=
 let ⟨a,wa,us,e,q,o,q2,r⟩:=z;⟨a,wa,us,e,t _ _ q,i wa o,h wa _ o q2,Paired.mapP r fun _ _ y=>y.move h i⟩
theorem qKh {H:Hp}{wys:List (List (Str×Th))}{us:List V}(p:Paired (WayIn H) wys us):∃css,Paired (fun wy cs=>Paired (zD H) wy cs) wys css∧Paired (LstIn (fun _=>True) H) css us:=by
 induction p with
 | nil=>exact⟨[],.nil,.nil⟩
 | cons h _ ih=>
  obtain⟨a,cs,e,q,r⟩:=h
  obtain⟨css,h1,h2⟩:=ih
  exact⟨cs::css,.cons r h1,.cons ⟨a,e,trivial,q⟩ h2⟩
theorem qWm {ok:Addr→Prop}{H:Hp}{wys:List (List (Str×Th))}{css:List (List V)}{us:List V}(p:Paired (fun wy cs=>Paired (zD H) wy cs) wys css)(h:Paired (LstIn ok H) css us):Paired (WayIn H) wys us:=by
 induction p generalizing us with
 | nil=>cases h;exact .nil
 | cons r _ ih=>
  cases h with
  | cons x t=>
   obtain⟨l,e,_,q⟩:=x
   exact .cons ⟨l,_,e,q,r⟩ (ih t)
theorem qDo {H:Hp}{d:Deed}{u:V}(h:DeedIn H d u):∃dc,jH H d dc∧DeedAt (fun _=>True) H d.name d.price dc u:=by
 obtain⟨a,nv,wa,us,e,q,r,q2,p⟩:=h
 obtain⟨css,h1,h2⟩:=qKh p
 exact⟨(nv,css),⟨r,h1⟩,a,wa,us,e,q,trivial,q2,h2⟩
theorem qHn {ok:Addr→Prop}{H:Hp}{d:Deed}{dc:V×List (List V)}{u:V}(h1:jH H d dc)(h2:DeedAt ok H d.name d.price dc u):DeedIn H d u:=by
 obtain⟨a,wa,us,e,q,_,q2,p⟩:=h2
 exact⟨a,dc.1,wa,us,e,q,h1.1,q2,qWm h1.2 p⟩
theorem qZb {H:Hp}{ds:List Deed}{us:List V}(p:Paired (DeedIn H) ds us):∃ps:List (Deed×V×List (List V)),ps.map (·.1)=ds∧(∀p∈ps,jH H p.1 p.2)∧Paired (fun p u=>DeedAt (fun _=>True) H p.1.name p.1.price p.2 u) ps us:=by
 induction p with
 | nil=>exact⟨[],rfl,(fun p hp=>by cases hp),.nil⟩
 | cons h t ih=>
  obtain⟨ps,e,h1,h2⟩:=ih
  obtain⟨dc,h3,h4⟩:=qDo h
  refine⟨(_,dc)::ps,by rw[List.map_cons,e],fun p hp=>?_,.cons h4 h2⟩
  rcases List.mem_cons.mp hp with rfl | hp
  ·exact h3
  ·exact h1 p hp
theorem wU {ok:Addr→Prop}{H:Hp}{ps:List (Deed×V×List (List V))}{us:List V}(h:∀p∈ps,jH H p.1 p.2)(t:Paired (fun p u=>DeedAt ok H p.1.name p.1.price p.2 u) ps us):Paired (DeedIn H) (ps.map (·.1)) us:=by
 induction t with
 | nil=>exact .nil
 | cons x t ih=>exact .cons (qHn (h _ List.mem_cons_self) x) (ih fun p hp=>h p (List.mem_cons_of_mem _ hp))
theorem qVh {H:Hp}{wy:List (Str×Th)}{cs:List V}(p:Paired (zD H) wy cs):∀(j:Nat) x,cs[j]? = some x→∃y,x=.ref y:=fun j x ex=>by
 obtain⟨b,eb⟩:∃b,wy[j]? = some b:=⟨_,List.getElem?_eq_getElem (by rw[p.length];exact(List.getElem?_eq_some_iff.mp ex).1)⟩
 obtain⟨y,_,ey,_⟩:=xV p eb ex
 exact⟨y,ey⟩
noncomputable def Refs (us:List V):Prop:=∀(j:Nat) x,us[j]? = some x→∃y,x=.ref y
theorem Refs.same {H:Hp}{us:List V}{n:Nat}(h:Refs us):∀(j:Nat) x y,us[j]? = some x→us[j]? = some y→DEq K H n x y:=fun j x y e1 e2=>by
 rw[e1] at e2
 cases e2
 obtain⟨y,rfl⟩:=h j x e1
 exact .same y
theorem At.ref {H:Hp}{t:Th}{v:V}(h:t.At H v):∃a,v=.ref a:=by
 cases t with
 | num _=>obtain⟨a,e,_⟩:=h;exact⟨a,e⟩
 | box _=>obtain⟨a,e,_⟩:=h;exact⟨a,e⟩
 | nul _=>obtain⟨a,e,_⟩:=h;exact⟨a,e⟩
 | un _ _=>obtain⟨a,_,e,_⟩:=h;exact⟨a,e⟩
 | bin _ _ _=>obtain⟨a,_,_,e,_⟩:=h;exact⟨a,e⟩
theorem qHm {H H':Hp}{t:Th}{v:V}{n:Nat}(h:t.At H v):DEq K H' n v v:=by
 obtain⟨a,rfl⟩:=At.ref h
 exact .same a
theorem qGm {ok ok':Addr→Prop}{H:Hp}{css:List (List V)}{us us':List V}(rf:∀cs∈css,Refs cs)(p1:Paired (LstIn ok H) css us)(p2:Paired (LstIn ok' H) css us'):∀(j:Nat) x y,us[j]? = some x→us'[j]? = some y→DEq K H 1 x y:=fun j x y e1 e2=>by
 obtain⟨cs,ec⟩:∃b,css[j]? = some b:=⟨_,List.getElem?_eq_getElem (by rw[p1.length];exact(List.getElem?_eq_some_iff.mp e1).1)⟩
 obtain⟨l,rfl,_,h1⟩:=xV p1 ec e1
 obtain⟨l',rfl,_,h2⟩:=xV p2 ec e2
 exact .lst (SqL.of h1) (SqL.of h2) rfl (rf cs (List.mem_of_getElem? ec)).same
theorem idx4 {C:V→V→Prop}{a b c d a' b' c' d':V}(h0:C a a')(h1:C b b')(h2:C c c')(h3:C d d')(j:Nat)(x y:V)(e1:[a,b,c,d][j]? = some x)(e2:[a',b',c',d'][j]? = some y):C x y:=by
 cases j with
 | zero=>cases e1;cases e2;exact h0
 | succ j=>
  cases j with
  | zero=>cases e1;cases e2;exact h1
  | succ j=>
   cases j with
   | zero=>cases e1;cases e2;exact h2
   | succ j=>
    cases j with
    | zero=>cases e1;cases e2;exact h3
    | succ j=>cases e1
theorem qBo {ok ok':Addr→Prop}{H H0:Hp}{d:Deed}{dc:V×List (List V)}{u u':V}(h:jH H0 d dc)(h1:DeedAt ok H d.name d.price dc u)(h2:DeedAt ok' H d.name d.price dc u'):DEq K H 3 u u':=by
 obtain⟨a,wa,us,rfl,q,_,q2,p⟩:=h1
 obtain⟨a',wa',us',rfl,q',_,q2',p'⟩:=h2
 have rf:∀cs∈dc.2,Refs cs:=fun cs hc=>by
  obtain⟨j,hj⟩:=List.mem_iff_getElem?.mp hc
  obtain⟨wy,ew⟩:∃b,d.ways[j]? = some b:=⟨_,List.getElem?_eq_getElem (by rw[h.2.length];exact(List.getElem?_eq_some_iff.mp hj).1)⟩
  exact qVh (xV h.2 ew hj)
 exact .tup (SqT.of q) (SqT.of q') rfl (idx4 (.str _) (.int _) (qHm h.1) (.lst (SqL.of q2) (SqL.of q2') (by rw[← p.length,← p'.length]) (qGm rf p p')))
theorem _root_.L2.DEq.same' {H H':Hp}(s:Same H H'){n:Nat}{x y:V}(h:DEq K H n x y):DEq K H' n x y:=by
 induction h with
 | int i=>exact .int i
 | str i=>exact .str i
 | bl i=>exact .bl i
 | non=>exact .non
 | same a=>exact .same a
 | lst h1 h2 hl _ ih=>exact .lst (s.seq h1) (s.seq h2) hl ih
 | tup h1 h2 hl _ ih=>exact .tup (Same.tup s h1) (Same.tup s h2) hl ih
theorem jH.same {H H':Hp}(s:Same H H'){d:Deed}{dc:V×List (List V)}(h:jH H d dc):jH H' d dc:=⟨h.1.mono (qC s),Paired.mapP h.2 fun _ _ y=>Paired.mapP y fun _ _ z=>z.same s⟩
theorem qZl:xM ["deed"] ["deed"] (xB (top 24)):=⟨rfl,rfl,rfl,by decide +kernel,rfl,by decide +kernel,by decide +kernel⟩
theorem vV:CompOk (xB (top 24)) ["deed"] (scAt (xC (top 24)) [0] [3]) ["way"] 1 []:=
 ⟨by decide +kernel,by decide +kernel,by decide +kernel,by decide +kernel,by decide +kernel,by decide +kernel,by decide +kernel,by decide +kernel⟩
noncomputable def qYk:Sp:=fun vs H Q _=>∃(u:V) (x:Str) (p:Int) (dc:V×List (List V)),vs=[u]∧DeedAt (fun _=>True) H x p dc u∧dc.2.length≤100∧
 ∀(y:V) (H':Hp),Same H H'→DeedAt (fun b=>H b=none) H' x p dc y→Q y H'
theorem qHi (F:Fd K mg "copied_deed" (top 24) ["deed"])(B:Bl mg):Dn P w K mg base "copied_deed" 1 ["deed"] qYk:=by
 refine F.ok qZl (fun vs H Q E h=>?_) (fun f cdv A outer s H vs Q E hr h=>?_)
 ·obtain⟨_,_,_,_,rfl,_⟩:=h
  rfl
 obtain⟨u,x,p,dc,rfl,⟨a,wa,us,rfl,ea,_,ewa,pus⟩,hl,q⟩:=h
 refine⟨_,(qJ (qO (xG (qQ (xH (qT (K:=K)) (pv 0) qF (fun _ _=>rfl)) (qQ (xH (qT (K:=K)) (pv 0) qF (fun _ _=>rfl)) (qQ (xH (qT (K:=K)) (pv 0) qF (fun _ _=>rfl)) (qQ (jP rfl vV (xQ (K:=K) (xH (qT (K:=K)) (pv 0) qF (fun _ _=>rfl))) (fun cl fp s H=>(qH (i:=0) vV.nd rfl (Or.inl rfl) (.inr rfl))) (fun cl fp s H=>jJ) (fun cl fp s H=>(xZ (yH (K:=K)) rfl B.list' qQz (qQ (pv 0) qX)))) qX))))))),?_⟩
 wtm_at "zf"
 refine⟨wa,rfl,⟨us,SqL.of ewa⟩,?_⟩
 have lu:=pus.length
 refine jQ (xs:=us) (fun D i ys H'=>Paired (LstIn (fun b=>H b=none∧b≠D) H') (dc.2.take i) ys∧∀b o,H b=some o→H' b=some o) (fun D hD=>⟨.nil,qV hD _⟩)
  (fun D i ys H' _ hP=>(show Same H H' from hP.2).seq (SqL.of ewa)) (fun D i x ys H' N hD hDy ex hP hN=>?_) (fun D ys H2 hD hDy hP=>?_)
 ·obtain⟨pl,hk⟩:=hP
  have hi:i<dc.2.length:=by rw[lu];exact(List.getElem?_eq_some_iff.mp ex).1
  obtain⟨cs,ec⟩:∃b,dc.2[i]? = some b:=⟨_,List.getElem?_eq_getElem hi⟩
  obtain⟨l0,rfl,_,el0⟩:=xV pus ec ex
  have ll:=pl.length
  rw[List.length_take] at ll
  refine⟨⟨[some (.ref l0)],rfl,rfl⟩,?_⟩
  refine⟨_,rfl,l0,cs,rfl,.inl (SqL.of (hk _ _ el0)),fun l hl'=>?_⟩
  have Dl:D≠l:=qB hDy hl'
  refine⟨by rw[qA Dl];exact hDy,small (by omega),hN _ _ qW ⟨?_,fun b o e=>?_⟩⟩
  ·rw[List.take_add_one,ec]
   refine Paired.snoc (Paired.mapP pl fun _ _ z=>z.move (fun b o ok e=>?_) fun _ z=>z) ⟨l,rfl,⟨(show Same H H' from hk).free hl',Ne.symm Dl⟩,by rw[qA (Ne.symm Dl)];exact qW⟩
   rw[qA ok.2,qA (qB e hl')];exact e
  ·rw[qA (qB e hD),qA (qB (hk _ _ e) hl')];exact hk _ _ e
 obtain⟨pl,hk⟩:=hP
 rw[← lu,List.take_length] at pl
 refine⟨(by show 4≤sizeLine;decide),fun t ht=>?_⟩
 have S2:Same H (upd H2 t (.tup [.str x,.int p,dc.1,.ref D])):=(show Same H H2 from hk).trans (qV ht _)
 refine q (.ref t) _ S2 ⟨t,D,ys,rfl,qW,hD,qV ht _ _ _ hDy,Paired.mapP pl fun _ _ z=>z.move (fun b o _ e=>qV ht _ _ _ e) fun _ z=>z.1⟩
theorem zO:xM ["boxes","deeds","looks","begin","goal","names","name","price","need","ways","expression"] ["boxes","deeds","looks","begin","goal"] (xB (top 22)):=⟨rfl,rfl,rfl,by decide +kernel,rfl,by decide +kernel,by decide +kernel⟩
theorem qQb:CompOk (xB (top 22)) ["boxes","deeds","looks","begin","goal","names","name","price","need","ways","expression"] (scAt (xC (top 22)) [1] [1,0]) ["deed"] 1 []:=
 ⟨by decide +kernel,by decide +kernel,by decide +kernel,by decide +kernel,by decide +kernel,by decide +kernel,by decide +kernel,by decide +kernel⟩
theorem qQa:CompOk (xB (top 22)) ["boxes","deeds","looks","begin","goal","names","name","price","need","ways","expression"] (scAt (xC (top 22)) [1] [1,1]) ["look"] 1 []:=
 ⟨by decide +kernel,by decide +kernel,by decide +kernel,by decide +kernel,by decide +kernel,by decide +kernel,by decide +kernel,by decide +kernel⟩
theorem vJ:CompOk (xB (top 22)) ["boxes","deeds","looks","begin","goal","names","name","price","need","ways","expression"] (scAt (xC (top 22)) [2] []) ["name","size"] 2 []:=
 ⟨by decide +kernel,by decide +kernel,by decide +kernel,by decide +kernel,by decide +kernel,by decide +kernel,by decide +kernel,by decide +kernel⟩
theorem qQw:CompOk (xB (top 22)) ["boxes","deeds","looks","begin","goal","names","name","price","need","ways","expression"] (scAt (xC (top 22)) [8] [1]) ["deed"] 1 []:=
 ⟨by decide +kernel,by decide +kernel,by decide +kernel,by decide +kernel,by decide +kernel,by decide +kernel,by decide +kernel,by decide +kernel⟩
structure Told (K:PySem.W.Frag)(H:Hp)(bx dx lx bx' dx' lx':Addr):Prop where
 boxes:DEq K H 4 (.ref bx') (.ref bx)
 deeds:DEq K H 4 (.ref dx') (.ref dx)
 looks:DEq K H 4 (.ref lx') (.ref lx)
theorem Told.same {H H':Hp}(s:Same H H'){bx dx lx bx' dx' lx':Addr}(t:Told K H bx dx lx bx' dx' lx'):Told K H' bx dx lx bx' dx' lx':=⟨t.boxes.same' s,t.deeds.same' s,t.looks.same' s⟩
structure WGood (W:Wd):Prop where
 boxes:BoxesG W.bs
 nd:(W.ds.map Deed.name++W.ls.map Look.name).Nodup
 dprice:∀d∈W.ds,1≤d.price
 need:∀d∈W.ds,∀x∈d.need.names,x∈W.ws
 ways:∀d∈W.ds,d.ways≠[]∧∀wy∈d.ways,WayG W.ws wy
 lprice:∀l∈W.ls,1≤l.price
 part:∀l∈W.ls,∀x∈l.part.names,x∈W.ws
 beg:∀x∈W.bt.names,x∈W.ws
 goal:∀x∈W.gt.names,x∈W.ws
 some':Somewhere W.bs W.bt
structure DeedF (d:Deed):Prop where
 sh:Short d.name
 need:Fit d.need
 le:d.ways.length≤100
 ways:∀wy∈d.ways,WayF wy
structure WFit (W:Wd):Prop where
 b6:W.bs.length≤6
 sh:∀b∈W.bs,Short b.1
 dl:W.ds.length≤101
 ll:W.ls.length≤101
 deeds:∀d∈W.ds,DeedF d
 looks:∀l∈W.ls,Short l.name∧Fit l.part
 beg:Fit W.bt
 begC:(∀x∈W.bt.names,x∈W.ws)→Cond' W.ws W.bt
 goal:Fit W.gt
noncomputable def qYq (K:PySem.W.Frag)(C:Addr):Sp:=fun vs H Q E=>∃(W:Wd) (bx dx lx:Addr) (bv gv:V),vs=[.ref bx,.ref dx,.ref lx,bv,gv]∧WAt H W bx dx lx bv gv∧WFit W∧
 (WGood W→∀(p bx' dx' lx':Addr) (H':Hp),Same H H'→H' p=some (.tup [.ref bx',.ref dx',.ref lx',bv,gv])→WAt H' W bx' dx' lx' bv gv→Told K H' bx dx lx bx' dx' lx'→Q (.ref p) H')∧(¬WGood W→∀H',Same H H'→E (.ref C) none H')
theorem kO {σ:St}{H:Hp}{Q:VK}{la:Addr}{us:List V}{xs:List Str}(e1:H la=some (.lst us))(p1:Paired (fun x u=>∃a ys,u=.ref a∧H a=some (.tup (.str x::ys))) xs us)(hl:xs.length≤1000)
  (q:∀(D:Addr) (H':Hp),H D=none→Same H H'→H' D=some (.lst (strsV xs))→Q (.ref D) H'):
  rdC 1 [] (gName 0) tYes (tOp (rIxT K) (tVar 0) (tC (.int 0))) (Itl K la) σ H Q:=by
 have lb:us.length=xs.length:=p1.length.symm
 refine jQ (xs:=us) (fun D i ys H'=>ys=strsV (xs.take i)∧∀b o,H b=some o→H' b=some o) (fun D hD=>⟨rfl,qV hD _⟩)
  (fun D i ys H' _ hP=>(show Same H H' from hP.2).seq (SqL.of e1)) (fun D i x ys H' N hD hDy ex hP hN=>?_) (fun wd ys H2 hD hDy hP=>?_)
 ·obtain⟨rfl,hk⟩:=hP
  obtain⟨b,eb⟩:∃b,xs[i]? = some b:=⟨_,List.getElem?_eq_getElem (by rw[← lb];exact(List.getElem?_eq_some_iff.mp ex).1)⟩
  obtain⟨ba,zs,rfl,hba⟩:=xV p1 eb ex
  refine⟨⟨[some (.ref ba)],rfl,rfl⟩,?_⟩
  refine⟨_,rfl,ba,_,0,.str b,rfl,rfl,SqT.of (hk _ _ hba),qZg _ _,hDy,?_,hN _ _ qW ⟨?_,fun b o e=>?_⟩⟩
  ·rw[xA,List.length_take];exact small (by omega)
  ·rw[List.take_add_one,eb,zS];rfl
  ·rw[qA (qB e hD)];exact hk _ _ e
 obtain⟨rfl,hk2⟩:=hP
 rw[lb,List.take_length] at hDy
 exact q wd H2 hD hk2 hDy
theorem qJi {H:Hp}{bs:List (Str×Int)}{us:List V}(p:Paired (BoxIn H) bs us):Paired (fun x u=>∃a ys,u=.ref a∧H a=some (.tup (.str x::ys))) (bs.map (·.1)) us:=by
 induction p with
 | nil=>exact .nil
 | cons h _ ih=>
  obtain⟨a,e,q⟩:=h
  exact .cons ⟨a,_,e,q⟩ ih
theorem qAd {H:Hp}{ds:List Deed}{us:List V}(p:Paired (DeedIn H) ds us):Paired (fun x u=>∃a ys,u=.ref a∧H a=some (.tup (.str x::ys))) (ds.map Deed.name) us:=by
 induction p with
 | nil=>exact .nil
 | cons h _ ih=>
  obtain⟨a,_,_,_,e,q,_⟩:=h
  exact .cons ⟨a,_,e,q⟩ ih
theorem qAq {H:Hp}{ds:List Look}{us:List V}(p:Paired (LookIn H) ds us):Paired (fun x u=>∃a ys,u=.ref a∧H a=some (.tup (.str x::ys))) (ds.map Look.name) us:=by
 induction p with
 | nil=>exact .nil
 | cons h _ ih=>
  obtain⟨a,_,e,q,_⟩:=h
  exact .cons ⟨a,_,e,q⟩ ih
theorem qVk {H:Hp}{ls:List Look}{us:List V}(p:Paired (LookIn H) ls us):Refs us:=fun j x ex=>by
 obtain⟨b,eb⟩:∃b,ls[j]? = some b:=⟨_,List.getElem?_eq_getElem (by rw[p.length];exact(List.getElem?_eq_some_iff.mp ex).1)⟩
 obtain⟨y,_,ey,_⟩:=xV p eb ex
 exact⟨y,ey⟩
theorem qDn {σ:St}{H:Hp}{Q:VK}{dx:Addr}{us:List V}{ps:List (Deed×V×List (List V))}(e1:H dx=some (.lst us))(p1:Paired (fun p u=>DeedAt (fun _=>True) H p.1.name p.1.price p.2 u) ps us)(hl:ps.length≤1000)
  (h2:∀p∈ps,p.2.2.length≤100)
  (q:∀(D:Addr) (ys:List V) (H':Hp),H D=none→Same H H'→H' D=some (.lst ys)→Paired (fun p u=>DeedAt (fun b=>b≠D) H' p.1.name p.1.price p.2 u) ps ys→Q (.ref D) H'):
  rdC 1 [] (gName 0) tYes (tCall qYk [] E0 (tCons (tVar 0) tNil)) (Itl K dx) σ H Q:=by
 have lb:us.length=ps.length:=p1.length.symm
 refine jQ (xs:=us) (fun D i ys H'=>Paired (fun p u=>DeedAt (fun b=>b≠D) H' p.1.name p.1.price p.2 u) (ps.take i) ys∧∀b o,H b=some o→H' b=some o) (fun D hD=>⟨.nil,qV hD _⟩)
  (fun D i ys H' _ hP=>(show Same H H' from hP.2).seq (SqL.of e1)) (fun D i x ys H' N hD hDy ex hP hN=>?_) (fun D ys H2 hD hDy hP=>?_)
 ·obtain⟨pl,hk⟩:=hP
  have hi:i<ps.length:=by rw[← lb];exact(List.getElem?_eq_some_iff.mp ex).1
  obtain⟨b,eb⟩:∃b,ps[i]? = some b:=⟨_,List.getElem?_eq_getElem hi⟩
  have db:=xV p1 eb ex
  have ll:=pl.length
  rw[List.length_take] at ll
  refine⟨⟨[some x],rfl,rfl⟩,?_⟩
  refine⟨_,rfl,x,b.1.name,b.1.price,b.2,rfl,db.move (fun b o _ e=>hk _ _ e) (qC hk) (fun _ z=>z),h2 b (List.mem_of_getElem? eb),fun y H4 S4 dy=>?_⟩
  have eD:=S4 _ _ hDy
  refine⟨eD,small (by omega),hN _ _ qW ⟨?_,fun b o e=>?_⟩⟩
  ·have T4:Tups H4 (upd H4 D (.lst (ys++[y]))):=fun b xs e=>by rw[qA (kI e eD (by intro z;cases z))];exact e
   rw[List.take_add_one,eb]
   refine Paired.snoc (Paired.mapP pl fun _ _ z=>z.move (fun b o ok e=>?_) ((qC S4).trans T4) fun _ z=>z) (dy.move (fun b o ok e=>?_) T4 fun b ok=>?_)
   ·rw[qA ok];exact S4 _ _ e
   ·rw[qA (fun z=>by subst z;rw[hDy] at ok;cases ok)];exact e
   ·intro z;subst z;rw[hDy] at ok;cases ok
  ·rw[qA (qB e hD)];exact S4 _ _ (hk _ _ e)
 obtain⟨pl,hk⟩:=hP
 rw[lb,List.take_length] at pl
 exact q D ys H2 hD hk hDy pl
theorem qAv {C:Addr}(F:Fd K mg "world_of" (top 22) ["boxes","deeds","looks","begin","goal"])(B:Bl mg)(X_refuse_boxes:Dx P w K mg base "refuse_boxes" 2 ["boxes"] (qKj C))(X_refuse_twice:Dx P w K mg base "refuse_twice" 1 ["names","kind"] (qQi C))
  (X_refuse_price:Dx P w K mg base "refuse_price" 2 ["name","price"] (qBq C)) (X_refuse_strange_names:Dx P w K mg base "refuse_strange_names" 14 ["thing","names"] (wO C)) (X_refuse_ways:Dx P w K mg base "refuse_ways" 15 ["deed_name","ways","names"] (qEm C))
  (X_refuse_begin:Dx P w K mg base "refuse_begin" 27 ["begin","boxes"] (qBz C)) (D_copied_deed:Dn P w K mg base "copied_deed" 1 ["deed"] qYk):Dx P w K mg base "world_of" 28 ["boxes","deeds","looks","begin","goal"] (qYq K C):=by
 refine F.okx zO (fun vs H Q E h=>?_) (fun f cdv A outer s H vs Q E hr h=>?_)
 ·obtain⟨_,_,_,_,_,_,rfl,_⟩:=h
  rfl
 obtain⟨W,bx,dx,lx,bv,gv,rfl,A0,ok,q1,q2⟩:=h
 obtain⟨us,ebx,pb⟩:=A0.boxes
 obtain⟨du,edx,pd⟩:=A0.deeds
 obtain⟨lu,elx,pl⟩:=A0.looks
 have b6:=ok.b6
 have dl:=ok.dl
 have ll:=ok.ll
 refine⟨_,(qZ (qR (qE X_refuse_boxes hr (qQ (pv 0) qX)))
  (qZ (qR (qE X_refuse_twice hr (qQ (xX jC (jP rfl qQb (xQ (K:=K) (pv 1)) (fun cl fp s H=>(qH (i:=0) qQb.nd rfl (Or.inl rfl) (.inr rfl))) (fun cl fp s H=>jJ) (fun cl fp s H=>(xH (qT (K:=K)) (pv 0) qF (fun _ _=>rfl)))) (jP rfl qQa (xQ (K:=K) (pv 2)) (fun cl fp s H=>(qH (i:=0) qQa.nd rfl (Or.inl rfl) (.inr rfl))) (fun cl fp s H=>jJ) (fun cl fp s H=>(xH (qT (K:=K)) (pv 0) qF (fun _ _=>rfl))))) (qQ qG qX))))
  (qZ (yE (i:=5) zO.nd rfl (by wtm_at "zo") rfl vJ (xQ (K:=K) (pv 0)) (fun cl fp s H=>(jV (K:=K) (n:=2) rfl (qI (qH (i:=0) vJ.nd rfl (Or.inl rfl) (.inr rfl)) (qI (qH (i:=1) vJ.nd rfl (Or.inl rfl) (.inr rfl)) qM)))) (fun cl fp s H=>jJ) (fun cl fp s H=>(pv 0)))
  (qZ (jE PassesOwn.leaving rfl (xQ (K:=K) (pv 1)) (jV (K:=K) (n:=4) rfl (qI (qH (i:=6) zO.nd rfl (by wtm_at "zo")) (qI (qH (i:=7) zO.nd rfl (by wtm_at "zo")) (qI (qH (i:=8) zO.nd rfl (by wtm_at "zo")) (qI (qH (i:=9) zO.nd rfl (by wtm_at "zo")) qM))))) (qZ (qR (qE X_refuse_price hr (qQ (pv 6) (qQ (pv 7) qX))))
  (qZ (qR (qE X_refuse_strange_names hr (qQ (pv 8) (qQ (pv 5) qX))))
  (qJ (qR (qE X_refuse_ways hr (qQ (pv 6) (qQ (pv 9) (qQ (pv 5) qX)))))))))
  (qZ (jE PassesOwn.leaving rfl (xQ (K:=K) (pv 2)) (jV (K:=K) (n:=3) rfl (qI (qH (i:=6) zO.nd rfl (by wtm_at "zo")) (qI (qH (i:=7) zO.nd rfl (by wtm_at "zo")) (qI (qH (i:=10) zO.nd rfl (by wtm_at "zo")) qM)))) (qZ (qR (qE X_refuse_price hr (qQ (pv 6) (qQ (pv 7) qX))))
  (qJ (qR (qE X_refuse_strange_names hr (qQ (pv 10) (qQ (pv 5) qX)))))))
  (qZ (qR (qE X_refuse_strange_names hr (qQ (pv 3) (qQ (pv 5) qX))))
  (qZ (qR (qE X_refuse_strange_names hr (qQ (pv 4) (qQ (pv 5) qX))))
  (qZ (qR (qE X_refuse_begin hr (qQ (pv 3) (qQ (pv 0) qX))))
  (qJ (qO (xG (qQ (xZ (yH (K:=K)) rfl B.list' qQz (qQ (pv 0) qX)) (qQ (jP rfl qQw (xQ (K:=K) (pv 1)) (fun cl fp s H=>(qH (i:=0) qQw.nd rfl (Or.inl rfl) (.inr rfl))) (fun cl fp s H=>jJ) (fun cl fp s H=>(qD D_copied_deed hr (qQ (pv 0) qX)))) (qQ (xZ (yH (K:=K)) rfl B.list' qQz (qQ (pv 2) qX)) (qQ (pv 3) (qQ (pv 4) qX)))))))))))))))),?_⟩
 wtm_at "zw"
 refine⟨bx,W.bs,us,rfl,ebx,pb,by omega,ok.sh,fun gb H1 S1=>?_,fun gb H1 S1=>q2 (fun g=>gb g.boxes) _ S1⟩
 wtm_at "zw"
 refine⟨_,rfl,dx,rfl,⟨du,SqL.of (S1 _ _ edx)⟩,kO (S1 _ _ edx) (qAd (Paired.mapP pd fun _ _ y=>y.same S1)) (by rw[List.length_map];omega) fun d1 H2 nd1 S2 ed1=>?_⟩
 have S12:=S1.trans S2
 refine⟨_,rfl,lx,rfl,⟨lu,SqL.of (S12 _ _ elx)⟩,kO (S12 _ _ elx) (qAq (Paired.mapP pl fun _ _ y=>y.same S12)) (by rw[List.length_map];omega) fun d2 H3 nd2 S3 ed2=>?_⟩
 have S13:=S12.trans S3
 refine⟨d1,d2,_,_,rfl,rfl,S3 _ _ ed1,ed2,?_,fun d3 hd3=>?_⟩
 ·rw[xA,xA,List.length_map,List.length_map];exact smallE (by omega)
 have S14:=S13.trans (qV hd3 (.lst (strsV (W.ds.map Deed.name)++strsV (W.ls.map Look.name))))
 wtm_at "zw"
 refine⟨d3,W.ds.map Deed.name++W.ls.map Look.name,_,rfl,by rw[zS];exact qW,by decide,by rw[List.length_append,List.length_map,List.length_map];omega,fun gnd H5 S5=>?_,fun gnd H5 S5=>q2 (fun g=>gnd g.nd) _ (S14.trans S5)⟩
 have S15:=S14.trans S5
 wtm_at "zw"
 refine⟨_,rfl,bx,rfl,⟨us,SqL.of (S15 _ _ ebx)⟩,qJv (S15 _ _ ebx) (xK (qC S15) pb) (by omega) fun nl H6 S6 enl=>?_⟩
 have S16:=S15.trans S6
 wtm_at "zf"
 refine⟨dx,rfl,⟨du,SqL.of (S16 _ _ edx)⟩,?_⟩
 refine jB (xs:=du) (fun i σ' H'=>∃z6 z7 z8 z9 z10:Option V,σ'=[some (.ref bx),some (.ref dx),some (.ref lx),some bv,some gv,some (.ref nl),z6,z7,z8,z9,z10]∧Same H6 H'∧∀d∈W.ds.take i,1≤d.price∧(∀x∈d.need.names,x∈W.ws)∧d.ways≠[]∧∀wy∈d.ways,WayG W.ws wy) ⟨none,none,none,none,none,rfl,Same.refl _,fun b hb=>by cases hb⟩
  (fun i σ' H' _ hP=>?_) (fun N rt bk i x σ' H' ex hP hN=>?_) (fun σ' H' hP=>?_)
 ·obtain⟨_,_,_,_,_,rfl,S,_⟩:=hP
  exact SqL.of (S _ _ (S16 _ _ edx))
 ·obtain⟨z6,z7,z8,z9,z10,rfl,S7,hi⟩:=hP
  obtain⟨d,ed⟩:∃b,W.ds[i]? = some b:=⟨_,List.getElem?_eq_getElem (by rw[pd.length];exact(List.getElem?_eq_some_iff.mp ex).1)⟩
  have S17:=S16.trans S7
  obtain⟨a,nv,wa,wu,rfl,ea,nat,ewa,pw⟩:=(xV pd ed ex).same S17
  have hd:=List.mem_of_getElem? ed
  have dok:=ok.deeds d hd
  wtm_at "zw"
  refine⟨d.name,d.price,rfl,dok.sh,fun g1=>?_,fun g1=>q2 (fun g=>g1 (g.dprice d hd)) _ S17⟩
  wtm_at "zw"
  refine⟨d.need,nv,nl,_,rfl,nat,dok.need,S7 _ _ enl,fun g2 H8 S8=>?_,fun g2 H8 S8=>q2 (fun g=>g2 (g.need d hd)) _ (S17.trans S8)⟩
  wtm_at "zw"
  refine⟨d.name,wa,nl,wu,_,d.ways,rfl,dok.sh,S8 _ _ ewa,Paired.mapP pw fun _ _ y=>y.same S8,dok.le,dok.ways,S8 _ _ (S7 _ _ enl),fun g3 H9 S9=>?_,fun g3 H9 S9=>q2 (fun g=>g3 (g.ways d hd)) _ (S17.trans (S8.trans S9))⟩
  refine hN _ _ ⟨_,_,_,_,_,rfl,S7.trans (S8.trans S9),fun c hc=>?_⟩
  rw[List.take_add_one,ed] at hc
  refine(List.mem_append.mp hc).elim (hi c) fun h=>?_
  have h:c∈[d]:=h
  rw[List.mem_singleton.mp h]
  exact⟨g1,g2,g3⟩
 obtain⟨z6,z7,z8,z9,z10,rfl,S7,gds⟩:=hP
 rw[← pd.length,List.take_length] at gds
 have S17:=S16.trans S7
 wtm_at "zf"
 refine⟨lx,rfl,⟨lu,SqL.of (S17 _ _ elx)⟩,?_⟩
 refine jB (xs:=lu) (fun i σ' H'=>∃z6 z7 z8 z9 z10:Option V,σ'=[some (.ref bx),some (.ref dx),some (.ref lx),some bv,some gv,some (.ref nl),z6,z7,z8,z9,z10]∧Same H6 H'∧∀l∈W.ls.take i,1≤l.price∧∀x∈l.part.names,x∈W.ws) ⟨z6,z7,z8,z9,z10,rfl,S7,fun b hb=>by cases hb⟩
  (fun i σ' H' _ hP=>?_) (fun N rt bk i x σ' H' ex hP hN=>?_) (fun σ' H' hP=>?_)
 ·obtain⟨_,_,_,_,_,rfl,S,_⟩:=hP
  exact SqL.of (S _ _ (S16 _ _ elx))
 ·obtain⟨z6,z7,z8,z9,z10,rfl,S8,hi⟩:=hP
  obtain⟨d,ed⟩:∃b,W.ls[i]? = some b:=⟨_,List.getElem?_eq_getElem (by rw[pl.length];exact(List.getElem?_eq_some_iff.mp ex).1)⟩
  have S18:=S16.trans S8
  obtain⟨a,nv,rfl,ea,nat⟩:=(xV pl ed ex).same S18
  have hd:=List.mem_of_getElem? ed
  have dok:=ok.looks d hd
  wtm_at "zw"
  refine⟨d.name,d.price,rfl,dok.1,fun g1=>?_,fun g1=>q2 (fun g=>g1 (g.lprice d hd)) _ S18⟩
  wtm_at "zw"
  refine⟨d.part,nv,nl,_,rfl,nat,dok.2,S8 _ _ enl,fun g2 H9 S9=>?_,fun g2 H9 S9=>q2 (fun g=>g2 (g.part d hd)) _ (S18.trans S9)⟩
  refine hN _ _ ⟨_,_,_,_,_,rfl,S8.trans S9,fun c hc=>?_⟩
  rw[List.take_add_one,ed] at hc
  refine(List.mem_append.mp hc).elim (hi c) fun h=>?_
  have h:c∈[d]:=h
  rw[List.mem_singleton.mp h]
  exact⟨g1,g2⟩
 obtain⟨z6,z7,z8,z9,z10,rfl,S8,gls⟩:=hP
 rw[← pl.length,List.take_length] at gls
 have S18:=S16.trans S8
 wtm_at "zw"
 refine⟨W.bt,bv,nl,_,rfl,A0.beg.mono (qC S18),ok.beg,S8 _ _ enl,fun gb1 H9 S9=>?_,fun gb1 H9 S9=>q2 (fun g=>gb1 g.beg) _ (S18.trans S9)⟩
 wtm_at "zw"
 have S19:=S18.trans S9
 refine⟨W.gt,gv,nl,_,rfl,A0.goal.mono (qC S19),ok.goal,S9 _ _ (S8 _ _ enl),fun gg H10 S10=>?_,fun gg H10 S10=>q2 (fun g=>gg g.goal) _ (S19.trans S10)⟩
 wtm_at "zw"
 have S110:=S19.trans S10
 refine⟨W.bt,bv,bx,W.bs,us,rfl,A0.beg.mono (qC S110),ok.begC gb1,ok.beg.dp,S110 _ _ ebx,xK (qC S110) pb,ok.b6,gb.b25,fun gs H11 S11=>?_,fun gs H11 S11=>q2 (fun g=>gs g.some') _ (S110.trans S11)⟩
 have S111:=S110.trans S11
 wtm_at "zw"
 refine⟨bx,us,rfl,.inl (SqL.of (S111 _ _ ebx)),fun bx' hbx'=>?_⟩
 have S112:=S111.trans (qV hbx' (.lst us))
 have ebx':upd H11 bx' (.lst us) bx'=some (.lst us):=qW
 generalize upd H11 bx' (.lst us)=H12 at S112 ebx'
 obtain⟨ps,eps,dat,pds⟩:=qZb (Paired.mapP pd fun _ _ y=>y.same S112)
 have lps:ps.length=W.ds.length:=by rw[← eps,List.length_map]
 have p100:∀p∈ps,p.2.2.length≤100:=fun p hp=>by
  have h1:=(dat p hp).2.length
  have h2:=(ok.deeds p.1 (by rw[← eps];exact List.mem_map.mpr ⟨p,hp,rfl⟩)).le
  omega
 refine⟨_,rfl,dx,rfl,⟨du,SqL.of (S112 _ _ edx)⟩,qDn (S112 _ _ edx) pds (by omega) p100 fun dx' ys H13 ndx' S13' edx' pys=>?_⟩
 have S113:=S112.trans S13'
 wtm_at "zw"
 refine⟨lx,lu,rfl,.inl (SqL.of (S113 _ _ elx)),fun lx' hlx'=>?_⟩
 wtm_at "zw"
 refine⟨(by show 5≤sizeLine;decide),fun p hp=>?_⟩
 have Sf:Same H13 (upd (upd H13 lx' (.lst lu)) p (.tup [.ref bx',.ref dx',.ref lx',bv,gv])):=(qV hlx' _).trans (qV hp _)
 have S114:=S113.trans Sf
 have elx':upd (upd H13 lx' (.lst lu)) p (.tup [.ref bx',.ref dx',.ref lx',bv,gv]) lx'=some (.lst lu):=qV hp _ _ _ qW
 have ep:upd (upd H13 lx' (.lst lu)) p (.tup [.ref bx',.ref dx',.ref lx',bv,gv]) p=some (.tup [.ref bx',.ref dx',.ref lx',bv,gv]):=qW
 generalize upd (upd H13 lx' (.lst lu)) p (.tup [.ref bx',.ref dx',.ref lx',bv,gv])=H14 at Sf S114 elx' ep
 have pys':=Paired.mapP pys fun _ _ z=>z.move (ok':=fun b=>b≠dx') (fun b o _ e=>Sf _ _ e) (qC Sf) fun _ z=>z
 have pds':=Paired.mapP pds fun _ _ z=>z.move (ok':=fun _=>True) (fun b o _ e=>Sf _ _ (S13' _ _ e)) (qC (S13'.trans Sf)) fun _ z=>z
 have dat':∀p∈ps,jH H14 p.1 p.2:=fun p hp=>(dat p hp).same (S13'.trans Sf)
 have pdj:=wU dat' pys'
 rw[eps] at pdj
 have good:WGood W:=⟨gb,gnd,fun d hd=>(gds d hd).1,fun d hd=>(gds d hd).2.1,fun d hd=>(gds d hd).2.2,fun l hl=>(gls l hl).1,fun l hl=>(gls l hl).2,gb1,gg,gs⟩
 refine q1 good p bx' dx' lx' H14 S114 ep ⟨⟨us,Sf _ _ (S13' _ _ ebx'),xK (qC S114) pb⟩,⟨ys,Sf _ _ edx',pdj⟩,⟨lu,elx',Paired.mapP pl fun _ _ y=>y.same S114⟩,A0.beg.mono (qC S114),A0.goal.mono (qC S114)⟩
  ⟨.lst (SqL.of (Sf _ _ (S13' _ _ ebx'))) (SqL.of (S114 _ _ ebx)) rfl (Refs.same (qFw pb)),.lst (SqL.of (Sf _ _ edx')) (SqL.of (S114 _ _ edx)) (by rw[← pys.length,← pds.length]) fun j x y e1 e2=>?_,.lst (SqL.of elx') (SqL.of (S114 _ _ elx)) rfl (qVk pl).same⟩
 obtain⟨pp,epp⟩:∃b,ps[j]? = some b:=⟨_,List.getElem?_eq_getElem (by rw[pys.length];exact(List.getElem?_eq_some_iff.mp e1).1)⟩
 have g1:=xV pys' epp e1
 have g2:=xV pds' epp e2
 exact qBo (dat' pp (List.mem_of_getElem? epp)) g1 g2

theorem qDq {x:Int}(h0:0≤x)(h1:x<3):∃m:Int,0<m∧m.natAbs<2 ^ 1000∧atI [V.int 1,V.int 9,V.int (10 ^ (29:Int).toNat)] x=some (.int m):=by
 have:x=0∨x=1∨x=2:=by omega
 rcases this with rfl | rfl | rfl
 ·exact⟨1,by decide,by decide +kernel,rfl⟩
 ·exact⟨9,by decide,by decide +kernel,rfl⟩
 ·exact⟨10 ^ (29:Int).toNat,by decide +kernel,by decide +kernel,rfl⟩
theorem qJk {σ:St}{H:Hp}{Q:VK}{j:Nat}{dk:Addr}{d:Int}(hj:σ[j]? = some (some (.ref dk)))(hd:H dk=some (.lst [.int d]))
  (q:∀(p d':Int) (H':Hp),1≤p→But dk H H'→H' dk=some (.lst [.int d'])→Q (.int p) H'):
  tOp (rI0 fun i j=>V.int (i+j)) (tC (.int 1)) (tCall spTake [] E0 (tCons (tVar j) (tCons (tOp (rIxL K) (tLst (tCons (tC (.int 1)) (tCons (tC (.int 9)) (tCons (tOp (rI CPow fun i j=>V.int (i ^ j.toNat)) (tC (.int 10)) (tC (.int 29))) tNil))))
   (tCall spTake [] E0 (tCons (tVar j) (tCons (tC (.int 3)) tNil)))) tNil))) σ H Q:=by
 refine⟨_,hj,10,29,rfl,rfl,⟨by decide,by decide,by decide⟩,(by show 3≤sizeLine;decide),fun l hl=>?_⟩
 have nld:l≠dk:=fun z=>by subst z;rw[hd] at hl;cases hl
 refine⟨_,hj,dk,3,d,rfl,qV hl _ _ _ hd,by decide,by decide +kernel,fun x d1 hx0 hx1=>?_⟩
 obtain⟨m,m0,m1,em⟩:=qDq hx0 hx1
 refine⟨l,_,x,.int m,rfl,rfl,SqL.of (by rw[qA nld];exact qW),em,?_⟩
 refine⟨dk,m,d1,rfl,qW,m0,m1,fun y d2 hy0 hy1=>⟨1,y,rfl,rfl,?_⟩⟩
 exact q (1+y) d2 _ (by omega) (((qV hl _).but.trans But.upd).trans But.upd) qW
theorem jK:xM ["deck","name","words","price","need","ways","k","way","word"] ["deck","name","words"] (xB (top 47)):=⟨rfl,rfl,rfl,by decide +kernel,rfl,by decide +kernel,by decide +kernel⟩
noncomputable def spDeed:Sp:=fun vs H Q _=>∃(dk wd:Addr) (x:Str) (ws:List Str),vs=[.ref dk,.str x,.ref wd]∧Dk H dk wd ws∧ws.Nodup∧
 ∀(d:Deed) (dc:V×List (List V)) (u:V) (H':Hp),d.name=x→DeedOk ws d→But dk H H'→jH H' d dc→DeedAt (fun b=>H b=none) H' d.name d.price dc u→Q u H'
theorem qCq (ws:List Str)(lo hi:Option Int):∃zs:List Str,cutV (strsV ws) lo hi=strsV zs∧List.Sublist zs ws:=by
 unfold cutV
 refine⟨(ws.drop (HT.sIx (strsV ws).length 0 lo)).take (HT.sIx (strsV ws).length (strsV ws).length hi - HT.sIx (strsV ws).length 0 lo),?_,?_⟩
 ·rw[← List.map_drop,← List.map_take]
 ·exact(List.take_sublist _ _).trans (List.drop_sublist _ _)
theorem qZc {H H':Hp}(t:Tups H H'){wys:List (List (Str×Th))}{css:List (List V)}(p:Paired (fun wy cs=>Paired (zD H) wy cs) wys css):Paired (fun wy cs=>Paired (zD H') wy cs) wys css:=
 Paired.mapP p fun _ _ y=>Paired.mapP y fun _ _ z=>let ⟨a,v,e,q,r⟩:=z;⟨a,v,e,t _ _ q,r.mono t⟩
theorem yS {H H':Hp}(t:Tups H H'){wy:List (Str×Th)}{cs:List V}(p:Paired (zD H) wy cs):Paired (zD H') wy cs:=Paired.mapP p fun _ _ z=>let ⟨a,v,e,q,r⟩:=z;⟨a,v,e,t _ _ q,r.mono t⟩
theorem qRd (F:Fd K mg "_law_deed" (top 47) ["deck","name","words"])(B:Bl mg)(D_law_take:Dn P w K mg base "_law_take" 1 ["deck","many"] spTake)(D_law_cond:Dn P w K mg base "_law_cond" 8 ["deck","words","deep"] (spCond 3))(D_law_expr:Dn P w K mg base "_law_expr" 4 ["deck","words","deep"] (spExpr 3)):
  Dn P w K mg base "_law_deed" 9 ["deck","name","words"] spDeed:=by
 refine F.ok jK (fun vs H Q E h=>?_) (fun f cdv A outer s H vs Q E hr h=>?_)
 ·obtain⟨_,_,_,_,rfl,_⟩:=h
  rfl
 obtain⟨dk,wd,x,ws,rfl,D0,wnd,q⟩:=h
 obtain⟨d0,hd0⟩:=D0.deck
 have wpos:=List.length_pos_iff.mpr D0.ne
 have wle:=D0.le
 refine⟨_,(qZ (qN (i:=3) jK.nd rfl (by wtm_at "zo") (xX zB qF (qD D_law_take hr (qQ (pv 0) (qQ (xH (qU (K:=K)) (xI (qQ qF (qQ qF (qQ (xX yB qF qF) qX)))) (qD D_law_take hr (qQ (pv 0) (qQ qF qX))) (fun _ _=>rfl)) qX)))))
  (qZ (qN (i:=4) jK.nd rfl (by wtm_at "zo") (xG (qQ qG qX)))
  (qK (zK (qS zM (qD D_law_take hr (qQ (pv 0) (qQ qF qX))) qF (xE _)) (qJ (qN (i:=4) jK.nd rfl (by wtm_at "zo") (qD D_law_cond hr (qQ (pv 0) (qQ (pv 2) (qQ qF qX)))))) qY)
  (qZ (qN (i:=5) jK.nd rfl (by wtm_at "zo") (xI qX))
  (qZ (jE PassesOwn.never rfl (jF rfl B.range' (qQ (xX zB qF (qD D_law_take hr (qQ (pv 0) (qQ qF qX)))) qX)) (qH (i:=6) jK.nd rfl (by wtm_at "zo")) (qZ (qN (i:=7) jK.nd rfl (by wtm_at "zo") (xI qX))
  (qZ (jE PassesOwn.never rfl (xQ (K:=K) (xP (zJ (K:=K)) (xP (zJ (K:=K)) (pv 2) (zQ (qD D_law_take hr (qQ (pv 0) (qQ (xJ (xR (K:=K)) rfl B.len' zH (qQ (pv 2) qX)) qX)))) zZ) zZ (zQ qF))) (qH (i:=8) jK.nd rfl (by wtm_at "zo")) (qJ (zK (qS zM (qD D_law_take hr (qQ (pv 0) (qQ qF qX))) qF (xE _)) (qJ (qR (kJ (K:=K) PySem.F.plainAttrs_list PySem.F.slot_list_append PySem.F.type_list_append zU (pv 7) (qQ (xG (qQ (pv 8) (qQ (qD D_law_expr hr (qQ (pv 0) (qQ (pv 2) (qQ qF qX)))) qX))) qX)))) qY)))
  (qJ (qR (kJ (K:=K) PySem.F.plainAttrs_list PySem.F.slot_list_append PySem.F.type_list_append zU (pv 5) (qQ (pv 7) qX)))))))
  (qJ (qO (xG (qQ (pv 1) (qQ (pv 3) (qQ (pv 4) (qQ (pv 5) qX)))))))))))),?_⟩
 refine qJk rfl hd0 fun p d1 H1 hp B1 e1=>?_
 wtm_at "zw"
 refine⟨(by show 1≤sizeLine;decide),fun ya hya=>?_⟩
 have B2:But dk H (upd H1 ya (.tup [.str "yes"])):=B1.trans (qV hya _).but
 have e2:=qV hya (.tup [.str "yes"]) _ _ e1
 have ey:upd H1 ya (.tup [.str "yes"]) ya=some (.tup [.str "yes"]):=qW
 generalize upd H1 ya (.tup [.str "yes"])=H2 at B2 e2 ey
 wtm_at "zw"
 refine⟨fun σ' H'=>∃(nv:V) (t:Th) (d':Int),σ'=[some (.ref dk),some (.str x),some (.ref wd),some (.int p),some nv,none,none,none,none]∧But dk H H'∧H' dk=some (.lst [.int d'])∧t.At H' nv∧Cond' ws t∧t.dep≤12,?_,?_⟩
 ·wtm_at "zw"
  refine⟨dk,2,d1,rfl,e2,by decide,by decide +kernel,fun y d3 hy0 hy1=>?_⟩
  have B3:But dk H (upd H2 dk (.lst [.int d3])):=B2.trans But.upd
  have e3:upd H2 dk (.lst [.int d3]) dk=some (.lst [.int d3]):=qW
  have ey3:upd H2 dk (.lst [.int d3]) ya=some (.tup [.str "yes"]):=by rw[qA (kI ey e2 (by intro z;cases z))];exact ey
  generalize upd H2 dk (.lst [.int d3])=H3 at B3 e3 ey3
  wtm_at "zw"
  refine ite2 (fun _=>?_) (fun _=>?_)
  ·wtm_at "zw"
   refine⟨dk,wd,ws,1,rfl,D0.but B3 e3,by decide,by decide,fun t v H4 B4 D4 At Cx Dep=>?_⟩
   obtain⟨d4,e4⟩:=D4.deck
   have e5:(1:Int).toNat+4=5:=rfl
   exact⟨v,t,d4,rfl,B3.trans B4,e4,At,Cx,by omega⟩
  ·exact⟨.ref ya,.nul "yes",d3,rfl,B3,e3,⟨ya,rfl,ey3⟩,rfl,by show 1≤12;decide⟩
 rintro σ' H3 ⟨nv,nt,d3,rfl,B3,e3,nat,ncx,ndep⟩
 wtm_at "zw"
 refine⟨(by show 0≤sizeLine;decide),fun wa hwa=>?_⟩
 have nwa:H wa=none:=by
  cases z:H wa with
  | none=>rfl
  | some o=>
   by_cases hz:wa=dk
   ·subst hz;rw[e3] at hwa;cases hwa
   ·rw[B3 _ _ hz z] at hwa;cases hwa
 have B4:But dk H (upd H3 wa (.lst [])):=B3.trans (qV hwa _).but
 have e4:=qV hwa (.lst []) _ _ e3
 have nat4:=nat.mono (qC (qV hwa (.lst [])))
 have ewa:upd H3 wa (.lst []) wa=some (.lst []):=qW
 have wad:wa≠dk:=fun z=>by subst z;rw[e3] at hwa;cases hwa
 generalize upd H3 wa (.lst [])=H4 at B4 e4 nat4 ewa
 wtm_at "zf"
 refine⟨dk,4,d3,rfl,e4,by decide,by decide +kernel,fun y d5 hy0 hy1=>?_⟩
 have B5:But dk H (upd H4 dk (.lst [.int d5])):=B4.trans But.upd
 have e5:upd H4 dk (.lst [.int d5]) dk=some (.lst [.int d5]):=qW
 have nat5:nt.At (upd H4 dk (.lst [.int d5])) nv:=nat4.mono (yO But.upd e4)
 have ewa5:upd H4 dk (.lst [.int d5]) wa=some (.lst []):=by rw[qA wad];exact ewa
 generalize upd H4 dk (.lst [.int d5])=H5 at B5 e5 nat5 ewa5
 wtm_at "zw"
 refine⟨_,rfl,by omega,by omega,?_⟩
 refine yG (fun i σ' H'=>∃(wus:List V) (css:List (List V)) (wys:List (List (Str×Th))) (d':Int) (z6 z7 z8:Option V),σ'=[some (.ref dk),some (.str x),some (.ref wd),some (.int p),some nv,some (.ref wa),z6,z7,z8]∧
   But dk H H'∧H' dk=some (.lst [.int d'])∧nt.At H' nv∧H' wa=some (.lst wus)∧Paired (LstIn (fun b=>H b=none∧b≠wa) H') css wus∧Paired (fun wy cs=>Paired (zD H') wy cs) wys css∧(∀wy∈wys,WayOk ws wy)∧wys.length=i)
  ⟨[],[],[],d5,none,none,none,rfl,B5,e5,nat5,ewa5,.nil,.nil,(fun wy hw=>by cases hw),rfl⟩ ?_ ?_
 ·rintro N rt bk i σ' H6 hi ⟨wus,css,wys,d6,z6,z7,z8,rfl,B6,e6,nat6,ewa6,pl,pd,wok,wl⟩ hN
  have lpl:=pl.length
  have lpd:=pd.length
  wtm_at "zw"
  refine⟨(by show 0≤sizeLine;decide),fun yy hyy=>?_⟩
  have yd:yy≠dk:=fun z=>by subst z;rw[e6] at hyy;cases hyy
  have yw:yy≠wa:=fun z=>by subst z;rw[ewa6] at hyy;cases hyy
  have nyy:H yy=none:=by
   cases z:H yy with
   | none=>rfl
   | some o=>rw[B6 _ _ yd z] at hyy;cases hyy
  have B7:But dk H (upd H6 yy (.lst [])):=B6.trans (qV hyy _).but
  have D7:Dk (upd H6 yy (.lst [])) dk wd ws:=D0.but B7 (qV hyy _ _ _ e6)
  have ewd7:=D7.words
  wtm_at "zf"
  refine⟨dk,_,d6,rfl,qV hyy _ _ _ e6,by rw[xA];omega,by rw[xA];exact big _ (by omega) (Int.lt_of_le_of_lt (b:=100) (by omega) (by decide +kernel)),fun y2 d7 hy20 hy21=>?_⟩
  wtm_at "zw"
  have ewd8:upd (upd H6 yy (.lst [])) dk (.lst [.int d7]) wd=some (.lst (strsV ws)):=by rw[qA D7.ap];exact D7.words
  refine⟨wd,_,rfl,SqL.of ewd8,fun s1 hs1=>?_⟩
  obtain⟨zs1,ez1,sub1⟩:=qCq ws (some y2) none
  rw[ez1]
  wtm_at "zw"
  refine⟨s1,_,rfl,SqL.of qW,fun s2 hs2=>?_⟩
  obtain⟨zs,ez,sub2⟩:=qCq zs1 none (some 4)
  rw[ez]
  have sub:=sub2.trans sub1
  have znd:=sub.nodup wnd
  have zle:=sub.length_le
  have B9:But dk H6 (upd (upd (upd (upd H6 yy (.lst [])) dk (.lst [.int d7])) s1 (.lst (strsV zs1))) s2 (.lst (strsV zs))):=(((qV hyy _).but.trans But.upd).trans (qV hs1 _).but).trans (qV hs2 _).but
  have e9:upd (upd (upd (upd H6 yy (.lst [])) dk (.lst [.int d7])) s1 (.lst (strsV zs1))) s2 (.lst (strsV zs)) dk=some (.lst [.int d7]):=qV hs2 _ _ _ (qV hs1 _ _ _ qW)
  have ey9:upd (upd (upd (upd H6 yy (.lst [])) dk (.lst [.int d7])) s1 (.lst (strsV zs1))) s2 (.lst (strsV zs)) yy=some (.lst []):=qV hs2 _ _ _ (qV hs1 _ _ _ (by rw[qA yd];exact qW))
  have es9:upd (upd (upd (upd H6 yy (.lst [])) dk (.lst [.int d7])) s1 (.lst (strsV zs1))) s2 (.lst (strsV zs)) s2=some (.lst (strsV zs)):=qW
  have sd:s2≠dk:=fun z=>by subst z;rw[qV hs1 _ _ _ qW] at hs2;cases hs2
  have sy:s2≠yy:=fun z=>by subst z;rw[qV hs1 _ _ _ (show upd (upd H6 s2 (.lst [])) dk (.lst [.int d7]) s2=some (.lst []) by rw[qA yd];exact qW)] at hs2;cases hs2
  generalize upd (upd (upd (upd H6 yy (.lst [])) dk (.lst [.int d7])) s1 (.lst (strsV zs1))) s2 (.lst (strsV zs))=H9 at B9 e9 ey9 es9
  refine⟨s2,rfl,⟨_,SqL.of es9⟩,?_⟩
  refine jB (xs:=strsV zs) (fun j σ'' H'=>∃(cs:List V) (wy:List (Str×Th)) (d':Int) (z8:Option V),σ''=[some (.ref dk),some (.str x),some (.ref wd),some (.int p),some nv,some (.ref wa),some (.int (0+(i:Int))),some (.ref yy),z8]∧
    But dk H6 H'∧H' dk=some (.lst [.int d'])∧H' s2=some (.lst (strsV zs))∧H' yy=some (.lst cs)∧Paired (zD H') wy cs∧List.Sublist (wy.map (·.1)) (zs.take j)∧∀c∈wy,c.1∈ws∧Expr' ws c.2∧c.2.dep≤12)
   ⟨[],[],d7,z8,rfl,B9,e9,es9,ey9,.nil,List.nil_sublist _,fun c hc=>by cases hc⟩ (fun j σ'' H' _ hP=>?_) (fun N2 rt2 bk2 j u σ'' H10 ex hP hN2=>?_) (fun σ'' H10 hP=>?_)
  ·obtain⟨_,_,_,_,_,_,_,e,_⟩:=hP
   exact SqL.of e
  ·obtain⟨cs,wy,d10,z8,rfl,B10,e10,es10,ey10,pc,sb,cok⟩:=hP
   obtain⟨word,hword,rfl⟩:∃word,zs[j]? = some word∧u=.str word:=by
    rw[List.getElem?_map] at ex
    cases z:zs[j]? with
    | none=>rw[z] at ex;cases ex
    | some v=>rw[z] at ex;exact⟨v,rfl,(Option.some.inj ex).symm⟩
   have lsb:=sb.length_le
   rw[List.length_map,List.length_take] at lsb
   have lpc:=pc.length
   wtm_at "zw"
   refine⟨dk,2,d10,rfl,e10,by decide,by decide +kernel,fun y3 d11 hy30 hy31=>?_⟩
   have B11:But dk H10 (upd H10 dk (.lst [.int d11])):=But.upd
   have e11:upd H10 dk (.lst [.int d11]) dk=some (.lst [.int d11]):=qW
   have es11:upd H10 dk (.lst [.int d11]) s2=some (.lst (strsV zs)):=by rw[qA sd];exact es10
   have ey11:upd H10 dk (.lst [.int d11]) yy=some (.lst cs):=by rw[qA yd];exact ey10
   have pc11:Paired (zD (upd H10 dk (.lst [.int d11]))) wy cs:=yS (yO B11 e10) pc
   generalize upd H10 dk (.lst [.int d11])=H11 at B11 e11 es11 ey11 pc11
   wtm_at "zw"
   refine ite2 (fun _=>?_) (fun _=>?_)
   ·wtm_at "zw"
    refine⟨.inl ⟨rfl,_,SqL.of ey11⟩,?_⟩
    wtm_at "zw"
    have B06:But dk H H11:=B6.trans (B10.trans B11)
    refine⟨dk,wd,ws,1,rfl,D0.but B06 e11,by decide,by decide,fun t v H12 B12 D12 At Ex Dep=>?_⟩
    obtain⟨d12,e12⟩:=D12.deck
    wtm_at "zw"
    refine⟨(by show 2≤sizeLine;decide),fun ta hta=>?_⟩
    have T12:Tups H11 H12:=yO B12 e11
    have ey12:=B12 _ _ yd ey11
    have yta:yy≠ta:=qB ey12 hta
    refine⟨yy,cs,.ref ta,rfl,rfl,qV hta _ _ _ ey12,small (by omega),?_⟩
    have T13:Tups H12 (upd (upd H12 ta (.tup [.str word,v])) yy (.lst (cs++[.ref ta]))):=fun b xs e=>by
     rw[qA (kI e ey12 (by intro z;cases z))];exact qV hta _ _ _ e
    have e5:(1:Int).toNat+1=2:=rfl
    refine hN2 _ _ ⟨cs++[.ref ta],wy++[(word,t)],d12,_,rfl,fun b o hb e=>?_,?_,?_,qW,Paired.snoc (yS T13 (yS T12 pc11)) ⟨ta,v,rfl,by rw[qA (Ne.symm yta)];exact qW,At.mono T13⟩,?_,fun c hc=>?_⟩
    ·rw[qA (qB e hyy)];exact qV hta _ _ _ (B12 _ _ hb (B11 _ _ hb (B10 _ _ hb e)))
    ·rw[qA (Ne.symm yd)];exact qV hta _ _ _ e12
    ·rw[qA sy];exact qV hta _ _ _ (B12 _ _ sd es11)
    ·rw[List.map_append,List.take_add_one,hword]
     exact List.Sublist.append sb (List.Sublist.refl _)
    ·rcases List.mem_append.mp hc with h | h
     ·exact cok c h
     ·rw[List.mem_singleton.mp h]
      exact⟨sub.subset (List.mem_of_getElem? hword),Ex,by show t.dep≤12;omega⟩
   ·refine hN2 _ _ ⟨cs,wy,d11,_,rfl,B10.trans B11,e11,es11,ey11,pc11,sb.trans ?_,cok⟩
    rw[List.take_add_one];exact List.sublist_append_left _ _
  ·obtain⟨cs,wy,d10,z8,rfl,B10,e10,es10,ey10,pc,sb,cok⟩:=hP
   have ewa10:=B10 _ _ wad ewa6
   have T10:Tups H6 H10:=yO B10 e6
   wtm_at "zw"
   refine⟨.inl ⟨rfl,_,SqL.of ewa10⟩,?_⟩
   wtm_at "zw"
   refine⟨wa,wus,.ref yy,rfl,rfl,ewa10,small (by omega),?_⟩
   have T11:Tups H10 (upd H10 wa (.lst (wus++[.ref yy]))):=fun b xs e=>by rw[qA (kI e ewa10 (by intro z;cases z))];exact e
   refine hN _ _ ⟨wus++[.ref yy],css++[cs],wys++[wy],d10,_,_,_,rfl,fun b o hb e=>?_,by rw[qA (Ne.symm wad)];exact e10,nat6.mono (T10.trans T11),qW,?_,?_,fun wy' hw=>?_,by simp[wl]⟩
   ·rw[qA (qB e nwa)];exact B10 _ _ hb (B6 _ _ hb e)
   ·refine Paired.snoc (Paired.mapP pl fun _ _ z=>z.move (fun b o okb e=>?_) fun _ z=>z) ⟨yy,rfl,⟨nyy,yw⟩,by rw[qA yw];exact ey10⟩
    have bd:b≠dk:=fun z=>by subst z;rw[hd0] at okb;cases okb.1
    rw[qA okb.2];exact B10 _ _ bd e
   ·exact Paired.snoc (qZc (T10.trans T11) pd) (yS T11 pc)
   ·rcases List.mem_append.mp hw with h | h
    ·exact wok wy' h
    ·rw[List.mem_singleton.mp h]
     have lz:(zs.take (strsV zs).length).length≤100:=by rw[List.length_take];omega
     have:=sb.length_le
     rw[List.length_map] at this
     exact⟨(sb.trans (List.take_sublist _ _)).nodup znd,by omega,cok⟩
 ·rintro σ' H6 ⟨wus,css,wys,d6,z6,z7,z8,rfl,B6,e6,nat6,ewa6,pl,pd,wok,wl⟩
  wtm_at "zw"
  refine⟨(by show 4≤sizeLine;decide),fun a ha=>?_⟩
  have S7:Same H6 (upd H6 a (.tup [.str x,.int p,nv,.ref wa])):=qV ha _
  have T7:=qC S7
  refine q ⟨x,p,nt,wys⟩ (nv,css) (.ref a) _ rfl ⟨hp,ncx,ndep,?_,?_,wok⟩ (B6.trans S7.but) ⟨nat6.mono T7,qZc T7 pd⟩ ⟨a,wa,wus,rfl,qW,nwa,S7 _ _ ewa6,Paired.mapP pl fun _ _ z=>z.move (fun b o _ e=>S7 _ _ e) fun _ z=>z.1⟩
  ·show wys≠[]
   intro z
   rw[z] at wl
   simp only[List.length_nil] at wl
   omega
  ·show wys.length≤100
   omega

theorem xS:xM ["script","boxes","words","deck","begin","goal","drawn","names","deeds","k","looks","price"] ["script"] (xB (top 48)):=⟨rfl,rfl,rfl,by decide +kernel,rfl,by decide +kernel,by decide +kernel⟩
theorem wF:CompOk (xB (top 48)) ["script","boxes","words","deck","begin","goal","drawn","names","deeds","k","looks","price"] (scAt (xC (top 48)) [1] []) ["box"] 1 []:=
 ⟨by decide +kernel,by decide +kernel,by decide +kernel,by decide +kernel,by decide +kernel,by decide +kernel,by decide +kernel,by decide +kernel⟩
theorem wE:CompOk (xB (top 48)) ["script","boxes","words","deck","begin","goal","drawn","names","deeds","k","looks","price"] (scAt (xC (top 48)) [5] [0]) ["one","begin","boxes"] 1 [4,1]:=
 ⟨by decide +kernel,by decide +kernel,by decide +kernel,by decide +kernel,by decide +kernel,by decide +kernel,by decide +kernel,by decide +kernel⟩
noncomputable def qBx (K:PySem.W.Frag):Sp:=fun vs H Q _=>∃(a:Addr) (ns:List Int),vs=[.ref a]∧SqL K H a (ns.map V.int)∧ns.length≤63∧
 ∀(p:Addr) (W:Wd) (bx dx lx:Addr) (bv gv:V) (H':Hp),Same H H'→H' p=some (.tup [.ref bx,.ref dx,.ref lx,bv,gv])→WAt H' W bx dx lx bv gv→WOk W→Q (.ref p) H'
theorem qNe (ws:List Str)(k:Nat):cutV (strsV ws) none (some (k:Int))=strsV (ws.take k):=by
 unfold cutV
 rw[HT.sIx_none,HT.sIx_nat,List.drop_zero,Nat.sub_zero,← List.map_take,xA]
 have e:ws.take (min k ws.length)=ws.take k:=by
  by_cases h:k≤ws.length
  ·rw[Nat.min_eq_left h]
  ·rw[Nat.min_eq_right (by omega),List.take_of_length_le (Nat.le_refl _),List.take_of_length_le (by omega)]
 rw[e]
theorem qNh (ws:List Str)(k:Nat):cutV (strsV ws) (some (k:Int)) none=strsV (ws.drop k):=by
 unfold cutV
 rw[HT.sIx_none,HT.sIx_nat,← List.map_drop,← List.map_take,xA]
 have e:(ws.drop (min k ws.length)).take (ws.length - min k ws.length)=ws.drop k:=by
  rw[List.take_of_length_le (by rw[List.length_drop];exact Nat.le_refl _)]
  by_cases h:k≤ws.length
  ·rw[Nat.min_eq_left h]
  ·rw[Nat.min_eq_right (by omega),List.drop_eq_nil_of_le (Nat.le_refl _),List.drop_eq_nil_of_le (by omega)]
 rw[e]
theorem qGe {ws:List Str}(p:Plain ws):(([("not" : Str),"and","yes"]:List Str)++ws.take 5++([("way" : Str),"end","one"]:List Str)++ws.drop 5).Nodup:=by
 have h1:(odd3++ws).Nodup:=List.nodup_append.mpr ⟨by decide +kernel,p.nd,fun a ha b hb e=>p.no b hb (e▸ha)⟩
 have e0:odd3++ws=([("not" : Str),"and","yes"]:List Str)++([("way" : Str),"end","one"]:List Str)++ws.take 5++ws.drop 5:=by
  rw[List.append_assoc,List.take_append_drop];rfl
 rw[e0] at h1
 refine(List.Perm.nodup_iff ?_).mp h1
 refine List.Perm.append_right _ ?_
 rw[List.append_assoc,List.append_assoc]
 exact List.Perm.append_left _ List.perm_append_comm
theorem qGf:∀x∈([("not" : Str),"and","yes"]:List Str)++[("way" : Str),"end","one"],x.length≤100∧∀c∈x.cps.toList,(Builtin.Str.reprChar 34 c).length≤1∧(Builtin.Str.reprChar 39 c).length≤1:=by decide +kernel
theorem qRf (bs:List (Str×Int))(h:∀b∈bs,2≤b.2∧b.2≤5):∃v,v∈allV bs:=by
 have key:∀i:Nat,i≤bs.length→0<(allV (bs.take i)).length:=by
  intro i
  induction i with
  | zero=>intro _;simp[allV]
  | succ i ih=>
   intro hi
   have hb:bs[i]? = some (bs[i]'(by omega)):=List.getElem?_eq_getElem (by omega)
   rw[kC hb,vB]
   have:=h _ (List.getElem_mem (h:=(by omega:i<bs.length)))
   exact Nat.mul_pos (ih (by omega)) (by omega)
 have:=key bs.length (Nat.le_refl _)
 rw[List.take_length] at this
 exact⟨_,List.getElem_mem (h:=this)⟩
theorem qJc {H H':Hp}(t:Tups H H'){ls:List Look}{us:List V}(p:Paired (LookIn H) ls us):Paired (LookIn H') ls us:=Paired.mapP p fun _ _ z=>let ⟨a,v,e,q,r⟩:=z;⟨a,v,e,t _ _ q,r.mono t⟩
theorem jH.tups {H H':Hp}(t:Tups H H'){d:Deed}{dc:V×List (List V)}(h:jH H d dc):jH H' d dc:=⟨h.1.mono t,qZc t h.2⟩
theorem qHg (F:Fd K mg "_law_world" (top 48) ["script"])(B:Bl mg)(D_law_cell_at:Dn P w K mg base "_law_cell_at" 1 ["script","k"] (spCell K))(D_law_boxes:Dn P w K mg base "_law_boxes" 3 ["cell"] qEo)
  (D_law_deck:Dn P w K mg base "_law_deck" 2 ["cell"] spDeck) (D_law_cond:Dn P w K mg base "_law_cond" 8 ["deck","words","deep"] (spCond 3)) (D_law_expr:Dn P w K mg base "_law_expr" 4 ["deck","words","deep"] (spExpr 3)) (D_law_take:Dn P w K mg base "_law_take" 1 ["deck","many"] spTake)
  (D_law_standings:Dn P w K mg base "_law_standings" 1 ["boxes"] qQl) (D_law_holds:Dn P w K mg base "_law_holds" 13 ["cond","values"] (qQn 12)) (D_law_values:Dn P w K mg base "_law_values" 1 ["boxes","standing"] qQh)
  (D_law_drawn:Dn P w K mg base "_law_drawn" 2 ["cell","sizes"] qYj) (D_law_unlike:Dn P w K mg base "_law_unlike" 1 ["number","many"] qYx) (D_law_deed:Dn P w K mg base "_law_deed" 9 ["deck","name","words"] spDeed):
  Dn P w K mg base "_law_world" 14 ["script"] (qBx K):=by
 refine F.ok xS (fun vs H Q E h=>?_) (fun f cdv A outer s H vs Q E hr h=>?_)
 ·obtain⟨_,_,rfl,_⟩:=h
  rfl
 obtain⟨a,ns,rfl,hS,h63,q⟩:=h
 refine⟨_,(qZ (qN (i:=1) xS.nd rfl (by wtm_at "zo") (qD D_law_boxes hr (qQ (qD D_law_cell_at hr (qQ (pv 0) (qQ qF qX))) qX)))
  (qZ (yE (i:=2) xS.nd rfl (by wtm_at "zo") rfl wF (xQ (K:=K) (pv 1)) (fun cl fp s H=>(qH (i:=0) wF.nd rfl (Or.inl rfl) (.inr rfl))) (fun cl fp s H=>jJ) (fun cl fp s H=>(xH (qT (K:=K)) (pv 0) qF (fun _ _=>rfl))))
  (qZ (qN (i:=3) xS.nd rfl (by wtm_at "zo") (qD D_law_deck hr (qQ (qD D_law_cell_at hr (qQ (pv 0) (qQ qF qX))) qX)))
  (qZ (qN (i:=4) xS.nd rfl (by wtm_at "zo") (qD D_law_cond hr (qQ (pv 3) (qQ (pv 2) (qQ qF qX)))))
  (qZ (qN (i:=5) xS.nd rfl (by wtm_at "zo") (qD D_law_cond hr (qQ (pv 3) (qQ (pv 2) (qQ qF qX)))))
  (qK (zK (qS (qXl (K:=K) hr.units) (jP rfl wE (xQ (K:=K) (qD D_law_standings hr (qQ (pv 1) qX))) (fun cl fp s H=>(qH (i:=0) wE.nd rfl (Or.inl rfl) (.inr rfl))) (fun cl fp s H=>(qFb (qKf (qD D_law_holds hr (qQ (pv 1) (qQ (qD D_law_values hr (qQ (pv 2) (qQ (pv 0) qX))) qX)))))) (fun cl fp s H=>(pv 0))) (xI qX) (xE _)) (qJ (qN (i:=4) xS.nd rfl (by wtm_at "zo") (xG (qQ qG qX)))) qY)
  (qZ (qN (i:=6) xS.nd rfl (by wtm_at "zo") (qD D_law_drawn hr (qQ (qD D_law_cell_at hr (qQ (pv 0) (qQ qF qX))) (qQ (xI (qQ (xX yB qF qF) (qQ qF (qQ qF qX)))) qX))))
  (qZ (qN (i:=7) xS.nd rfl (by wtm_at "zo") (qD D_law_unlike hr (qQ (xH (qU (K:=K)) (pv 6) qF (fun _ _=>rfl)) (qQ qF qX))))
  (qK (zK (qS zM (xX xT (xH (qU (K:=K)) (pv 6) qF (fun _ _=>rfl)) qF) qF (xE _)) (qJ (qN (i:=7) xS.nd rfl (by wtm_at "zo") (xX jC (xX jC (xX jC (xI (qQ qG (qQ qG (qQ qG qX)))) (xP (zJ (K:=K)) (pv 7) zZ (zQ qF))) (xI (qQ qG (qQ qG (qQ qG qX))))) (xP (zJ (K:=K)) (pv 7) (zQ qF) zZ)))) qY)
  (qZ (qN (i:=8) xS.nd rfl (by wtm_at "zo") (xI qX))
  (qZ (jE PassesOwn.never rfl (jF rfl B.range' (qQ (xH (qU (K:=K)) (pv 6) qF (fun _ _=>rfl)) qX)) (qH (i:=9) xS.nd rfl (by wtm_at "zo")) (qJ (qR (kJ (K:=K) PySem.F.plainAttrs_list PySem.F.slot_list_append PySem.F.type_list_append zU (pv 8) (qQ (qD D_law_deed hr (qQ (qD D_law_deck hr (qQ (xX zB (qD D_law_cell_at hr (qQ (pv 0) (qQ (xX zB qF (pv 9)) qX))) (pv 9)) qX)) (qQ (xH (qU (K:=K)) (pv 7) (pv 9) (fun _ _=>rfl)) (qQ (pv 2) qX)))) qX)))))
  (qZ (qN (i:=10) xS.nd rfl (by wtm_at "zo") (xI qX))
  (qZ (jE PassesOwn.never rfl (jF rfl B.range' (qQ (xH (qU (K:=K)) (pv 6) qF (fun _ _=>rfl)) qX)) (qH (i:=9) xS.nd rfl (by wtm_at "zo")) (qZ (qN (i:=3) xS.nd rfl (by wtm_at "zo") (qD D_law_deck hr (qQ (xX zB (qD D_law_cell_at hr (qQ (pv 0) (qQ (xX zB qF (pv 9)) qX))) (xX yV qF (pv 9))) qX)))
  (qZ (qN (i:=11) xS.nd rfl (by wtm_at "zo") (xX zB qF (qD D_law_take hr (qQ (pv 3) (qQ (xH (qU (K:=K)) (xI (qQ qF (qQ qF (qQ (xX yB qF qF) qX)))) (qD D_law_take hr (qQ (pv 3) (qQ qF qX))) (fun _ _=>rfl)) qX)))))
  (qJ (qR (kJ (K:=K) PySem.F.plainAttrs_list PySem.F.slot_list_append PySem.F.type_list_append zU (pv 10) (qQ (xG (qQ (xH (qU (K:=K)) (pv 7) (xX zB qF (pv 9)) (fun _ _=>rfl)) (qQ (pv 11) (qQ (qD D_law_expr hr (qQ (pv 3) (qQ (pv 2) (qQ qF qX)))) qX)))) qX)))))))
  (qJ (qO (xG (qQ (pv 1) (qQ (pv 8) (qQ (pv 10) (qQ (pv 4) (qQ (pv 5) qX))))))))))))))))))))),?_⟩
 wtm_at "zw"
 refine⟨a,ns,0,rfl,hS,Int.le_refl 0,fun c=>?_⟩
 wtm_at "zw"
 refine⟨c,rfl,fun bx bs us H1 hr1 S1 e1 p1 hb1 hb6 hb25 hb200 nmd=>?_⟩
 wtm_at "zw"
 refine⟨_,rfl,bx,rfl,⟨us,SqL.of e1⟩,qCd e1 p1 (by omega) fun wd H2 S2 ewd=>?_⟩
 have S02:=S1.trans S2
 wtm_at "zw"
 refine⟨a,ns,1,rfl,S02.seq hS,by decide,fun c1=>?_⟩
 wtm_at "zw"
 refine⟨c1,rfl,fun dk d hdk=>?_⟩
 have S3:Same H2 (upd H2 dk (.lst [.int d])):=qV hdk _
 have e3:upd H2 dk (.lst [.int d]) dk=some (.lst [.int d]):=qW
 generalize upd H2 dk (.lst [.int d])=H3 at S3 e3
 have wne:bs.map (·.1)≠[]:=by intro z;have:=congrArg List.length z;rw[List.length_map,List.length_nil] at this;omega
 have wle:(bs.map (·.1)).length≤100:=by rw[List.length_map];omega
 have D3:Dk H3 dk wd (bs.map (·.1)):=⟨⟨d,e3⟩,S3 _ _ ewd,wne,wle,qB ewd hdk⟩
 wtm_at "zw"
 refine⟨dk,wd,bs.map (·.1),2,rfl,D3,by decide,by decide,fun bt bv H4 B4 D4 bat bcx bdep=>?_⟩
 obtain⟨d4,e4⟩:=D4.deck
 wtm_at "zw"
 refine⟨dk,wd,bs.map (·.1),2,rfl,D4,by decide,by decide,fun gt gv H5 B5 D5 gat gcx gdep=>?_⟩
 obtain⟨d5,e5⟩:=D5.deck
 have i6:(2:Int).toNat+4=6:=rfl
 have S25:Same H2 H5:=fun b o e=>B5 _ _ (qB e hdk) (B4 _ _ (qB e hdk) (S3 _ _ e))
 have bat5:=bat.mono (yO B5 e4)
 have ebx5:=S25 _ _ (S2 _ _ e1)
 have pbx5:Paired (BoxIn H5) bs us:=xK (qC (S2.trans S25)) p1
 wtm_at "zw"
 refine⟨fun σ' H'=>∃(bv':V) (bt':Th),σ'=[some (.ref a),some (.ref bx),some (.ref wd),some (.ref dk),some bv',some gv,none,none,none,none,none,none]∧Same H2 H'∧bt'.At H' bv'∧gt.At H' gv∧Cond' (bs.map (·.1)) bt'∧bt'.dep≤11∧
   ∃vals∈allV bs,bt'.truth (envOf (kvsOf bs vals))=true,?_,?_⟩
 ·wtm_at "zf"
  refine⟨bx,bs,us,rfl,ebx5,pbx5,hb6,hb25,fun r ss H6 nr S6 er pr=>?_⟩
  have lr:=pr.length
  have lal:=qXz hb25 bs.length (Nat.le_refl _)
  rw[List.take_length] at lal
  have p5:=pow56 hb6
  refine⟨r,rfl,⟨ss,SqL.of er⟩,?_⟩
  refine jQ (xs:=ss) (fun D i ys H'=>(∀b o,H6 b=some o→H' b=some o)∧ys.length≤i∧(ys≠[]→∃vals∈allV bs,bt.truth (envOf (kvsOf bs vals))=true)) (fun D hD=>⟨qV hD _,Nat.le_refl _,fun z=>absurd rfl z⟩)
   (fun D i ys H' _ hP=>(show Same H6 H' from hP.1).seq (SqL.of er)) (fun D i x ys H' N hD hDy ex hP hN=>?_) (fun D ys H7 hD hDy hP=>?_)
  ·obtain⟨hk,hyl,hys⟩:=hP
   obtain⟨vals,ev⟩:∃b,(allV bs)[i]? = some b:=⟨_,List.getElem?_eq_getElem (by rw[lr];exact(List.getElem?_eq_some_iff.mp ex).1)⟩
   obtain⟨st,rfl,est⟩:=xV pr ev ex
   have hi:i<ss.length:=(List.getElem?_eq_some_iff.mp ex).1
   have S7:Same H5 H':=S6.trans hk
   have fv:=qAh (List.mem_of_getElem? ev)
   refine⟨⟨[some (.ref st)],rfl,rfl⟩,?_⟩
   refine⟨_,rfl,_,rfl,_,rfl,bx,st,bs,vals,rfl,⟨⟨us,S7 _ _ ebx5,xK (qC S7) pbx5⟩,hk _ _ est,fv.stands hb25,by omega⟩,fun p H8 S8 e8=>?_⟩
   refine⟨bt,bv,p,_,bs.map (·.1),envOf (kvsOf bs vals),rfl,bat5.mono (qC (S7.trans S8)),bcx,by omega,by omega,e8,qHe (fv.stands hb25),fun H9 S9=>?_⟩
   have S89:=S8.trans S9
   refine⟨_,rfl,?_⟩
   cases et:bt.truth (envOf (kvsOf bs vals)) with
   | true=>
    refine iteT ?_
    refine⟨_,rfl,S89 _ _ hDy,small2 (by omega),hN _ _ qW ⟨fun b o e=>?_,by rw[List.length_append];show ys.length+1≤i+1;omega,fun _=>⟨vals,List.mem_of_getElem? ev,et⟩⟩⟩
    rw[qA (qB e hD)];exact S89 _ _ (hk _ _ e)
   | false=>
    refine iteF ?_
    exact hN _ _ (S89 _ _ hDy) ⟨fun b o e=>S89 _ _ (hk _ _ e),by omega,hys⟩
  ·obtain⟨hk,hyl,hys⟩:=hP
   have S27:Same H5 H7:=S6.trans hk
   wtm_at "zw"
   refine⟨(by show 0≤sizeLine;decide),fun e0 he0=>?_⟩
   have S8:=S27.trans (qV he0 (.lst []))
   refine⟨D,e0,ys,rfl,rfl,SqL.of (qV he0 _ _ _ hDy),SqL.of qW,?_⟩
   generalize upd H7 e0 (.lst [])=H8 at S8
   cases ys with
   | nil=>
    refine⟨true,rfl,iteT ?_⟩
    wtm_at "zw"
    refine⟨(by show 1≤sizeLine;decide),fun t ht=>?_⟩
    obtain⟨v0,hv0⟩:=qRf bs hb25
    exact⟨.ref t,.nul "yes",rfl,S25.trans (S8.trans (qV ht _)),⟨t,rfl,qW⟩,gat.mono (qC (S8.trans (qV ht _))),rfl,by show 1≤11;decide,v0,hv0,rfl⟩
   | cons y0 yr=>
    refine⟨false,rfl,iteF ?_⟩
    exact⟨bv,bt,rfl,S25.trans S8,bat5.mono (qC S8),gat.mono (qC S8),bcx,by omega,hys (by simp)⟩
 rintro σ' H7 ⟨bv',bt',rfl,S7,bat',gat',bcx',bdep',hsome⟩
 have S07:=S02.trans S7
 wtm_at "zw"
 refine⟨a,ns,2,rfl,S07.seq hS,by decide,fun c2=>?_⟩
 wtm_at "zw"
 refine w_I ⟨by decide,by decide,by decide⟩ ?_
 wtm_at "zw"
 refine⟨(by show 3≤sizeLine;decide),fun l hl=>?_⟩
 wtm_at "zw"
 refine⟨c2,l,[10 ^ 9,9,7],rfl,qW,by decide,by decide,fun dr xs hdr hxl hxb=>?_⟩
 match xs,hxl,hxb with
 | [x0,x1,x2],_,hxb=>
 have b0:=hxb 0 x0 (10 ^ 9) rfl rfl
 have b1:=hxb 1 x1 9 rfl rfl
 have b2:=hxb 2 x2 7 rfl rfl
 have S8:=((qV hl (.lst [.int (10 ^ (9:Int).toNat),.int 9,.int 7])).trans (qV hdr (.lst (intsV [x0,x1,x2]))))
 have edr:upd (upd H7 l (.lst [.int (10 ^ (9:Int).toNat),.int 9,.int 7])) dr (.lst (intsV [x0,x1,x2])) dr=some (.lst (intsV [x0,x1,x2])):=qW
 generalize upd (upd H7 l (.lst [.int (10 ^ (9:Int).toNat),.int 9,.int 7])) dr (.lst (intsV [x0,x1,x2]))=H8 at S8 edr
 wtm_at "zw"
 refine⟨x0,14,rfl,b0.1,by decide,by decide,fun na nm hna hnl plain=>?_⟩
 have S9:=S8.trans (qV hna (.lst (strsV nm)))
 have edr9:=qV hna (.lst (strsV nm)) _ _ edr
 have ena:upd H8 na (.lst (strsV nm)) na=some (.lst (strsV nm)):=qW
 generalize upd H8 na (.lst (strsV nm))=H9 at S9 edr9 ena
 have nl14:nm.length=14:=hnl
 wtm_at "zw"
 refine⟨fun σ' H'=>∃(na:Addr) (nm:List Str),σ'=[some (.ref a),some (.ref bx),some (.ref wd),some (.ref dk),some bv',some gv,some (.ref dr),some (.ref na),none,none,none,none]∧Same H9 H'∧H' na=some (.lst (strsV nm))∧nm.Nodup∧14≤nm.length∧(∀x∈nm,Lw x),?_,?_⟩
 ·wtm_at "zw"
  refine w_I (show(0:Int)<8 by decide) ?_
  wtm_at "zw"
  refine ite2 (fun _=>?_) (fun _=>?_)
  ·wtm_at "zw"
   refine⟨(by show 3≤sizeLine;decide),fun l1 hl1=>?_⟩
   wtm_at "zw"
   refine⟨na,_,rfl,SqL.of (qV hl1 _ _ _ ena),fun l2 hl2=>?_⟩
   rw[show cutV (strsV nm) none (some 5)=strsV (nm.take 5) from qNe nm 5]
   refine⟨l1,l2,_,_,rfl,rfl,qV hl2 _ _ _ qW,qW,?_,fun l3 hl3=>?_⟩
   ·rw[xA,List.length_take];exact smallE (by show 3+_≤_;omega)
   wtm_at "zw"
   refine⟨(by show 3≤sizeLine;decide),fun l4 hl4=>?_⟩
   refine⟨l3,l4,_,_,rfl,rfl,qV hl4 _ _ _ qW,qW,?_,fun l5 hl5=>?_⟩
   ·rw[List.length_append,xA,List.length_take];exact smallE (by show 3+_+3≤_;omega)
   have Sx:=(((((qV hl1 (.lst [.str "not",.str "and",.str "yes"])).trans (qV hl2 (.lst (strsV (nm.take 5))))).trans (qV hl3 (.lst ([.str "not",.str "and",.str "yes"]++strsV (nm.take 5))))).trans
    (qV hl4 (.lst [.str "way",.str "end",.str "one"]))).trans (qV hl5 (.lst ([.str "not",.str "and",.str "yes"]++strsV (nm.take 5)++[.str "way",.str "end",.str "one"]))))
   wtm_at "zw"
   refine⟨na,_,rfl,SqL.of (Sx _ _ ena),fun l6 hl6=>?_⟩
   rw[show cutV (strsV nm) (some 5) none=strsV (nm.drop 5) from qNh nm 5]
   refine⟨l5,l6,_,_,rfl,rfl,qV hl6 _ _ _ qW,qW,?_,fun l7 hl7=>?_⟩
   ·rw[List.length_append,List.length_append,xA,xA,List.length_take,List.length_drop];exact smallE (by show 3+_+3+_≤_;omega)
   refine⟨l7,([("not" : Str),"and","yes"]:List Str)++nm.take 5++([("way" : Str),"end","one"]:List Str)++nm.drop 5,rfl,Sx.trans ((qV hl6 _).trans (qV hl7 _)),?_,qGe plain,?_,fun x hx=>?_⟩
   ·rw[qW,zS,zS,zS];rfl
   ·rw[List.length_append,List.length_append,List.length_append,List.length_take,List.length_drop]
    show 14≤3+_+3+_
    omega
   ·rcases List.mem_append.mp hx with h | h
    ·rcases List.mem_append.mp h with h | h
     ·rcases List.mem_append.mp h with h | h
      ·exact qGf x (List.mem_append.mpr (.inl h))
      ·exact⟨plain.le x (List.mem_of_mem_take h),plain.low x (List.mem_of_mem_take h)⟩
     ·exact qGf x (List.mem_append.mpr (.inr h))
    ·exact⟨plain.le x (List.mem_of_mem_drop h),plain.low x (List.mem_of_mem_drop h)⟩
  ·exact⟨na,nm,rfl,Same.refl _,ena,plain.nd,by omega,fun x hx=>⟨plain.le x hx,plain.low x hx⟩⟩
 rintro σ' H10 ⟨na,nm,rfl,S10,ena,ndn,nl,shn⟩
 have edr10:=S10 _ _ edr9
 have S0A:Same H H10:=S07.trans (S9.trans S10)
 have S2A:Same H2 H10:=S7.trans (S9.trans S10)
 have ewdA:=S2A _ _ ewd
 wtm_at "zw"
 refine⟨(by show 0≤sizeLine;decide),fun da hda=>?_⟩
 have edr11:=qV hda (.lst []) _ _ edr10
 wtm_at "zf"
 refine⟨x1,rfl,by omega,by omega,?_⟩
 refine yG (fun i σ' H'=>∃(du:List V) (ps:List (Deed×V×List (List V))) (z9:Option V),σ'=[some (.ref a),some (.ref bx),some (.ref wd),some (.ref dk),some bv',some gv,some (.ref dr),some (.ref na),some (.ref da),z9,none,none]∧
   (∀b o,H10 b=some o→H' b=some o)∧H' da=some (.lst du)∧Paired (fun p u=>DeedAt (fun b=>b≠da) H' p.1.name p.1.price p.2 u) ps du∧(∀p∈ps,jH H' p.1 p.2∧DeedOk (bs.map (·.1)) p.1)∧ps.map (fun p=>p.1.name)=nm.take i)
  ⟨[],[],none,rfl,qV hda _,qW,.nil,(fun p hp=>by cases hp),rfl⟩ ?_ ?_
 ·rintro N rt bk i σ' H11 hi ⟨du,ps,z9,rfl,k11,eda,pds,pok,pnm⟩ hN
  have S11:Same H10 H11:=k11
  have hi8:i<8:=by omega
  have ldu:=pds.length
  have lps:=congrArg List.length pnm
  rw[List.length_map,List.length_take] at lps
  obtain⟨nmi,enmi⟩:∃x,nm[i]? = some x:=⟨_,List.getElem?_eq_getElem (by omega)⟩
  have atn:atI (strsV nm) (0+(i:Int))=some (.str nmi):=by rw[Int.zero_add];exact jR (by rw[List.getElem?_map,enmi];rfl)
  wtm_at "zw"
  refine⟨.inl ⟨rfl,_,SqL.of eda⟩,?_⟩
  wtm_at "zw"
  refine⟨a,ns,_,rfl,(S0A.trans S11).seq hS,by omega,fun c3=>?_⟩
  wtm_at "zw"
  refine⟨_,rfl,fun dk2 d2 hdk2=>?_⟩
  have ewd12:=qV hdk2 (.lst [.int d2]) _ _ (S11 _ _ ewdA)
  have ndd:da≠dk2:=qB eda hdk2
  wtm_at "zw"
  refine⟨dk2,wd,nmi,bs.map (·.1),rfl,⟨⟨d2,qW⟩,ewd12,wne,wle,qB (S11 _ _ ewdA) hdk2⟩,nmd.nd,fun dd dc u H12 en dok B12 dat dat2=>?_⟩
  have K12:∀b o,H11 b=some o→H12 b=some o:=fun b o e=>B12 _ _ (qB e hdk2) (qV hdk2 _ _ _ e)
  have eda12:=K12 _ _ eda
  refine⟨da,du,u,rfl,rfl,eda12,small (by omega),?_⟩
  have T12:Tups H12 (upd H12 da (.lst (du++[u]))):=fun b xs e=>by rw[qA (kI e eda12 (by intro z;cases z))];exact e
  have T11:Tups H11 (upd H12 da (.lst (du++[u]))):=(qC (show Same H11 H12 from K12)).trans T12
  refine hN _ _ ⟨du++[u],ps++[(dd,dc)],_,rfl,fun b o e=>?_,qW,?_,fun p hp=>?_,?_⟩
  ·rw[qA (qB e hda)];exact K12 _ _ (k11 _ _ e)
  ·refine Paired.snoc (Paired.mapP pds fun _ _ z=>z.move (fun b o okb e=>?_) T11 fun _ z=>z) (dat2.move (fun b o okb e=>?_) T12 fun b okb=>?_)
   ·rw[qA okb];exact K12 _ _ e
   ·rw[qA (fun z=>by subst z;rw[qV hdk2 _ _ _ eda] at okb;cases okb)];exact e
   ·intro z;subst z;rw[qV hdk2 _ _ _ eda] at okb;cases okb
  ·rcases List.mem_append.mp hp with h | h
   ·exact⟨(pok p h).1.tups T11,(pok p h).2⟩
   ·rw[List.mem_singleton.mp h];exact⟨dat.tups T12,dok⟩
  ·rw[List.map_append,pnm,List.take_add_one,enmi,← en];rfl
 rintro σ' H11 ⟨du,ps,z9,rfl,k11,eda,pds,pok,pnm⟩
 have S11:Same H10 H11:=k11
 have edr12:=S11 _ _ edr10
 wtm_at "zw"
 refine⟨(by show 0≤sizeLine;decide),fun la hla=>?_⟩
 have edr13:=qV hla (.lst []) _ _ edr12
 wtm_at "zf"
 refine⟨x2,rfl,by omega,by omega,?_⟩
 refine yG (fun i σ' H'=>∃(lu:List V) (lks:List Look) (z3 z9 z11:Option V),σ'=[some (.ref a),some (.ref bx),some (.ref wd),z3,some bv',some gv,some (.ref dr),some (.ref na),some (.ref da),z9,some (.ref la),z11]∧
   (∀b o,H11 b=some o→H' b=some o)∧H' la=some (.lst lu)∧Paired (LookIn H') lks lu∧(∀l∈lks,LookOk (bs.map (·.1)) l)∧lks.map Look.name=(nm.drop 8).take i)
  ⟨[],[],_,_,none,rfl,qV hla _,qW,.nil,(fun p hp=>by cases hp),rfl⟩ ?_ ?_
 ·rintro N rt bk i σ' H12 hi ⟨lu,lks,z3,z9,z11,rfl,k12,ela,pls,lok,lnm⟩ hN
  have S12:Same H11 H12:=k12
  have hi6:i<6:=by omega
  have llu:=pls.length
  have lls:=congrArg List.length lnm
  rw[List.length_map,List.length_take,List.length_drop] at lls
  obtain⟨nmi,enmi⟩:∃x,(nm.drop 8)[i]? = some x:=⟨_,List.getElem?_eq_getElem (by rw[List.length_drop];omega)⟩
  have atn:atI (strsV nm) (8+(0+(i:Int)))=some (.str nmi):=by
   have e:(8:Int)+(0+(i:Int))=((8+i:Nat):Int):=by omega
   rw[e]
   exact jR (by rw[List.getElem?_map,← List.getElem?_drop,enmi];rfl)
  wtm_at "zw"
  refine⟨a,ns,_,rfl,(S0A.trans (S11.trans S12)).seq hS,by omega,fun c3=>?_⟩
  wtm_at "zw"
  refine w_I ⟨by decide +kernel,big _ (by omega) (Int.lt_of_le_of_lt (b:=100) (by omega) (by decide +kernel))⟩ ?_
  wtm_at "zw"
  refine⟨_,rfl,fun dk2 d2 hdk2=>?_⟩
  have ewd12:=qV hdk2 (.lst [.int d2]) _ _ (S12 _ _ (S11 _ _ ewdA))
  have nwd:=qB (S12 _ _ (S11 _ _ ewdA)) hdk2
  refine qJk rfl qW fun pr d3 H13 hpr B13 e13=>?_
  have K13:∀b o,H12 b=some o→H13 b=some o:=fun b o e=>B13 _ _ (qB e hdk2) (qV hdk2 _ _ _ e)
  have S13:Same H12 H13:=K13
  have ena13:=S13 _ _ (S12 _ _ (S11 _ _ ena))
  wtm_at "zw"
  refine⟨.inl ⟨rfl,_,SqL.of (S13 _ _ ela)⟩,?_⟩
  wtm_at "zw"
  refine⟨dk2,wd,bs.map (·.1),2,rfl,⟨⟨d3,e13⟩,S13 _ _ (S12 _ _ (S11 _ _ ewdA)),wne,wle,nwd⟩,by decide,by decide,fun t v H14 B14 D14 At Ex Dep=>?_⟩
  have K14:∀b o,H12 b=some o→H14 b=some o:=fun b o e=>B14 _ _ (qB e hdk2) (K13 _ _ e)
  wtm_at "zw"
  refine⟨(by show 3≤sizeLine;decide),fun ta hta=>?_⟩
  have ela14:=K14 _ _ ela
  have lta:la≠ta:=qB ela14 hta
  refine⟨la,lu,.ref ta,rfl,rfl,qV hta _ _ _ ela14,small (by omega),?_⟩
  have T14:Tups H14 (upd (upd H14 ta (.tup [.str nmi,.int pr,v])) la (.lst (lu++[.ref ta]))):=fun b xs e=>by
   rw[qA (kI e ela14 (by intro z;cases z))];exact qV hta _ _ _ e
  have i3:(2:Int).toNat+1=3:=rfl
  refine hN _ _ ⟨lu++[.ref ta],lks++[⟨nmi,pr,t⟩],_,_,_,rfl,fun b o e=>?_,qW,Paired.snoc (qJc ((qC (show Same H12 H14 from K14)).trans T14) pls) ⟨ta,v,rfl,by rw[qA (Ne.symm lta)];exact qW,At.mono T14⟩,fun l hl=>?_,?_⟩
  ·rw[qA (qB e hla)];exact qV hta _ _ _ (K14 _ _ (k12 _ _ e))
  ·rcases List.mem_append.mp hl with h | h
   ·exact lok l h
   ·rw[List.mem_singleton.mp h];exact⟨hpr,Ex,by show t.dep≤12;omega⟩
  ·rw[List.map_append,lnm,List.take_add_one,enmi];rfl
 rintro σ' H12 ⟨lu,lks,z3,z9,z11,rfl,k12,ela,pls,lok,lnm⟩
 have S12:Same H11 H12:=k12
 wtm_at "zw"
 refine⟨(by show 5≤sizeLine;decide),fun p hp=>?_⟩
 have Sf:=qV hp (.tup [.ref bx,.ref da,.ref la,bv',gv])
 have SB:Same H11 (upd H12 p (.tup [.ref bx,.ref da,.ref la,bv',gv])):=S12.trans Sf
 have ep:upd H12 p (.tup [.ref bx,.ref da,.ref la,bv',gv]) p=some (.tup [.ref bx,.ref da,.ref la,bv',gv]):=qW
 have ela':=Sf _ _ ela
 have pls':=qJc (qC Sf) pls
 generalize upd H12 p (.tup [.ref bx,.ref da,.ref la,bv',gv])=H13 at SB ep ela' pls' Sf
 have S2B:Same H2 H13:=S2A.trans (S11.trans SB)
 have S7B:Same H7 H13:=(S9.trans S10).trans (S11.trans SB)
 have pds':=Paired.mapP pds fun _ _ z=>z.move (ok':=fun b=>b≠da) (fun b o _ e=>SB _ _ e) (qC SB) fun _ z=>z
 have pdj:=wU (fun p hp=>(pok p hp).1.same SB) pds'
 have lps:=congrArg List.length pnm
 have lls:=congrArg List.length lnm
 rw[List.length_map,List.length_take] at lps lls
 refine q p ⟨bs,ps.map (·.1),lks,bt',gt⟩ bx da la bv' gv H13 (S0A.trans (S11.trans SB)) ep
  ⟨⟨us,S2B _ _ (S2 _ _ e1),xK (qC (S2.trans S2B)) p1⟩,⟨du,SB _ _ eda,pdj⟩,⟨lu,ela',pls'⟩,bat'.mono (qC S7B),gat'.mono (qC S7B)⟩
  ⟨hb1,hb6,hb25,hb200,nmd,?_,?_,?_,fun d hd=>?_,lok,bcx',bdep',gcx,by show gt.dep≤12;omega,hsome,fun x hx=>?_⟩
 ·show(ps.map (·.1)).length≤100
  rw[List.length_map];omega
 ·show lks.length≤100
  omega
 ·show((ps.map (·.1)).map Deed.name++lks.map Look.name).Nodup
  rw[List.map_map,lnm]
  have e:ps.map (Deed.name∘fun x=>x.1)=nm.take x1.toNat:=pnm
  rw[e]
  refine List.Sublist.nodup ?_ ndn
  have e8:nm=nm.take 8++nm.drop 8:=(List.take_append_drop 8 nm).symm
  rw[show List.Sublist (nm.take x1.toNat++(nm.drop 8).take x2.toNat) nm↔List.Sublist (nm.take x1.toNat++(nm.drop 8).take x2.toNat) (nm.take 8++nm.drop 8) by rw[← e8]]
  refine List.Sublist.append ?_ (List.take_sublist _ _)
  have:nm.take x1.toNat=(nm.take 8).take x1.toNat:=by rw[List.take_take,Nat.min_eq_left (by omega)]
  rw[this]
  exact List.take_sublist _ _
 ·obtain⟨pp,hpp,rfl⟩:=List.mem_map.mp hd
  exact(pok pp hpp).2
 ·have hx:x∈(ps.map (·.1)).map Deed.name++lks.map Look.name:=hx
  rw[List.map_map,lnm] at hx
  have e:ps.map (Deed.name∘fun x=>x.1)=nm.take x1.toNat:=pnm
  rw[e] at hx
  rcases List.mem_append.mp hx with h | h
  ·exact shn x (List.mem_of_mem_take h)
  ·exact shn x (List.mem_of_mem_drop (List.mem_of_mem_take h))

theorem qEg {H:Hp}{bx dx lx bx' dx' lx':Addr}{bv gv:V}{bt gt:Th}(t:Told K H bx dx lx bx' dx' lx')(hb:bt.At H bv)(hg:gt.At H gv):∀(j:Nat) x y,[V.ref bx',V.ref dx',V.ref lx',bv,gv][j]? = some x→[V.ref bx,V.ref dx,V.ref lx,bv,gv][j]? = some y→DEq K H 4 x y:=fun j x y e1 e2=>by
 cases j with
 | zero=>cases e1;cases e2;exact t.boxes
 | succ j=>exact idx4 t.deeds t.looks (qHm hb) (qHm hg) j x y e1 e2
theorem qFx {z:Str}{l u:Option Int}:∀c∈(Txt.slice z l u).cps.toList,c∈z.cps.toList:=by
 unfold Txt.slice
 split
 ·exact fun c h=>h
 ·intro c h
  have h:c∈(List.filterMap _ _).toArray.toList:=h
  rw[List.toList_toArray] at h
  obtain⟨i,_,e⟩:=List.mem_filterMap.mp h
  exact Array.mem_toList_iff.mpr (Array.mem_of_getElem? e)
noncomputable def Lo (x:Str):Prop:=∀c∈x.cps.toList,Low c
theorem Lo.slice {z:Str}{l u:Option Int}(h:Lo z):Lo (Txt.slice z l u):=fun c hc=>h c (qFx c hc)
theorem Lo.app {x y:Str}(h:Lo x)(g:Lo y):Lo (x++y):=fun c hc=>by
 rw[qIj] at hc
 exact(List.mem_append.mp hc).elim (h c) (g c)
theorem xQv {x:Str}(h:(x.cps.toList.all fun c=>decide ((Builtin.Str.reprChar 34 c).length≤1∧(Builtin.Str.reprChar 39 c).length≤1))=true):Lo x:=fun c hc=>(show(Builtin.Str.reprChar 34 c).length≤1∧(Builtin.Str.reprChar 39 c).length≤1 from of_decide_eq_true (List.all_eq_true.mp h c hc))
theorem yT {us:List V}(n:Int)(h:us≠[]):∃(j:Nat) (v:V),us[j]? = some v∧n % ((us.length:Nat):Int)=(j:Int)∧atI us (n % ((us.length:Nat):Int))=some v:=by
 have l1:=List.length_pos_iff.mpr h
 have m0:=Int.emod_nonneg n (b:=((us.length:Nat):Int)) (by omega)
 have m1:=Int.emod_lt_of_pos n (b:=((us.length:Nat):Int)) (by omega)
 have e:n % ((us.length:Nat):Int)=(((n % ((us.length:Nat):Int)).toNat:Nat):Int):=by omega
 have hj:(n % ((us.length:Nat):Int)).toNat<us.length:=by omega
 obtain⟨v,ev⟩:∃v,us[(n % ((us.length:Nat):Int)).toNat]? = some v:=⟨_,List.getElem?_eq_getElem hj⟩
 refine⟨_,v,ev,e,?_⟩
 have:=jR ev
 rwa [← e] at this
theorem qZf {ws:List Str}(n:Int)(h:ws≠[]):∃y∈ws,atI (strsV ws) (n % (((strsV ws).length:Nat):Int))=some (.str y):=by
 obtain⟨j,v,e,_,a⟩:=yT (us:=strsV ws) n (fun z=>h (List.map_eq_nil_iff.mp z))
 rw[List.getElem?_map] at e
 obtain⟨y,ey,rfl⟩:=Option.map_eq_some_iff.mp e
 exact⟨y,List.mem_of_getElem? ey,a⟩
theorem qRv {σ:St}{H:Hp}{Q:VK}{js:List Nat}{tt:TT}{a:Addr}{ws:List Str}{p:Str→Bool}(ea:H a=some (.lst (strsV ws)))(hl:ws.length≤1000)
  (htt:∀(x:Str) (H':Hp) (R:Bool→Hp→Prop),x∈ws→Same H H'→(∀H'',Same H' H''→R (p x) H'')→tt ([some (.str x)]++frees js σ) H' R)
  (q:∀(D:Addr) (H':Hp),Same H H'→H' D=some (.lst (strsV (ws.filter p)))→Q (.ref D) H'):rdC 1 js (gName 0) tt (tVar 0) (Itl K a) σ H Q:=by
 refine jQ (xs:=strsV ws) (fun D i ys H'=>ys=strsV ((ws.take i).filter p)∧∀b o,H b=some o→H' b=some o) (fun D hD=>⟨rfl,qV hD _⟩)
  (fun D i ys H' _ hP=>SqL.of (hP.2 _ _ ea)) (fun D i x ys H' N hD hDy ex hP hN=>?_) (fun D ys H5 hD hDy hP=>?_)
 ·obtain⟨rfl,hk⟩:=hP
  rw[List.getElem?_map] at ex
  obtain⟨y,ey,rfl⟩:=Option.map_eq_some_iff.mp ex
  have lf:((ws.take i).filter p).length≤1000:=Nat.le_trans (List.length_filter_le _ _) (by rw[List.length_take];omega)
  refine⟨⟨[some (.str y)],rfl,rfl⟩,?_⟩
  refine htt y H' _ (List.mem_of_getElem? ey) hk fun H4 S4=>?_
  have eD:=S4 _ _ hDy
  have fs:(ws.take (i+1)).filter p=(ws.take i).filter p++[y].filter p:=by rw[List.take_add_one,ey,List.filter_append];rfl
  cases e:p y with
  | false=>
   refine iteF (hN _ _ eD ⟨?_,fun b o z=>S4 _ _ (hk _ _ z)⟩)
   rw[fs,List.filter_cons,e,if_neg Bool.false_ne_true,List.filter_nil,List.append_nil]
  | true=>
   refine iteT ⟨_,rfl,eD,by rw[xA];exact small (by omega),hN _ _ qW ⟨?_,fun b o z=>?_⟩⟩
   ·rw[fs,List.filter_cons,e,if_pos rfl,List.filter_nil,zS];rfl
   ·rw[qA (qB z hD)];exact S4 _ _ (hk _ _ z)
 ·obtain⟨rfl,hk⟩:=hP
  rw[xA,List.take_length] at hDy
  exact q D H5 hk hDy
noncomputable def cands (wd:Str):List Str:=[Txt.slice wd none (some (-1)),Txt.slice wd (some 1) none,wd++Str.ofString "q",Txt.slice wd none (some (-1))++Str.ofString "w",Str.ofString "qo" ++ Txt.slice wd none (some 6),Txt.slice wd none (some 7)++Str.ofString "z",Str.ofString "a",Str.ofString "oq"]
theorem qIv (wd:Str):(cands wd).length=8:=rfl
theorem qNl {wd:Str}(h:wd.length≤100):∀x∈cands wd,x.length≤200:=by
 have sl:=fun l u=>Txt.slice_le wd l u
 have l1:=sl none (some (-1))
 have l2:=sl (some 1) none
 have l3:=sl none (some 6)
 have l4:=sl none (some 7)
 have k1:(Str.ofString "q").length=1:=by decide
 have k2:(Str.ofString "w").length=1:=by decide
 have k3:(Str.ofString "qo").length=2:=by decide
 have k4:(Str.ofString "z").length=1:=by decide
 have k5:(Str.ofString "a").length=1:=by decide
 have k6:(Str.ofString "oq").length=2:=by decide
 simp only[cands,List.mem_cons,List.not_mem_nil,or_false,forall_eq_or_imp,forall_eq,Str.length_append]
 omega
theorem qNi {wd:Str}(lo:Lo wd):∀x∈cands wd,Lo x:=by
 have c:∀y∈[Str.ofString "q",Str.ofString "w",Str.ofString "qo",Str.ofString "z",Str.ofString "a",Str.ofString "oq"],Lo y:=fun y hy=>xQv (by revert y;decide +kernel)
 simp only[cands,List.mem_cons,List.not_mem_nil,or_false,forall_eq_or_imp,forall_eq] at c ⊢
 exact⟨lo.slice,lo.slice,lo.app c.1,lo.slice.app c.2.1,c.2.2.1.app lo.slice,lo.slice.app c.2.2.2.1,c.2.2.2.2.1,c.2.2.2.2.2⟩
theorem jD:xM ["boxes","number","known","word","some"] ["boxes","number"] (xB (top 50)):=⟨rfl,rfl,rfl,by decide +kernel,rfl,by decide +kernel,by decide +kernel⟩
theorem vK:CompOk (xB (top 50)) ["boxes","number","known","word","some"] (scAt (xC (top 50)) [0] []) ["box"] 1 []:=
 ⟨by decide +kernel,by decide +kernel,by decide +kernel,by decide +kernel,by decide +kernel,by decide +kernel,by decide +kernel,by decide +kernel⟩
theorem vY:CompOk (xB (top 50)) ["boxes","number","known","word","some"] (scAt (xC (top 50)) [3] []) ["one","known"] 1 [2]:=
 ⟨by decide +kernel,by decide +kernel,by decide +kernel,by decide +kernel,by decide +kernel,by decide +kernel,by decide +kernel,by decide +kernel⟩
noncomputable def qJq:Sp:=fun vs H Q _=>∃(bx:Addr) (bs:List (Str×Int)) (us:List V) (n:Int),vs=[.ref bx,.int n]∧H bx=some (.lst us)∧Paired (BoxIn H) bs us∧1≤bs.length∧bs.length≤6∧Named (bs.map (·.1))∧
 ∀(x:Str) (H':Hp),Same H H'→Lw x→x∉bs.map (·.1)→Q (.str x) H'
theorem qAa (F:Fd K mg "_law_strange" (top 50) ["boxes","number"])(B:Bl mg):Dn P w K mg base "_law_strange" 1 ["boxes","number"] qJq:=by
 refine F.ok jD (fun vs H Q E h=>?_) (fun f cdv A outer s H vs Q E hr h=>?_)
 ·obtain⟨_,_,_,_,rfl,_⟩:=h
  rfl
 obtain⟨bx,bs,us,n,rfl,ebx,pb,b1,b6,nmd,q⟩:=h
 refine⟨_,(qZ (qN (i:=2) jD.nd rfl (by wtm_at "zo") (jP rfl vK (xQ (K:=K) (pv 0)) (fun cl fp s H=>(qH (i:=0) vK.nd rfl (Or.inl rfl) (.inr rfl))) (fun cl fp s H=>jJ) (fun cl fp s H=>(xH (qT (K:=K)) (pv 0) qF (fun _ _=>rfl)))))
  (qZ (qN (i:=3) jD.nd rfl (by wtm_at "zo") (xH (qU (K:=K)) (pv 2) (xX xT (pv 1) (xJ (xR (K:=K)) rfl B.len' zH (qQ (pv 2) qX))) (fun _ _=>rfl)))
  (qZ (qN (i:=4) jD.nd rfl (by wtm_at "zo") (xI (qQ (xP qKc (pv 3) zZ (zQ (qYb wZ qF))) (qQ (xP qKc (pv 3) (zQ qF) zZ) (qQ (xX yF (pv 3) qG) (qQ (xX yF (xP qKc (pv 3) zZ (zQ (qYb wZ qF))) qG) (qQ (xX yF qG (xP qKc (pv 3) zZ (zQ qF))) (qQ (xX yF (xP qKc (pv 3) zZ (zQ qF)) qG) (qQ qG (qQ qG qX))))))))))
  (qZ (yE (i:=4) jD.nd rfl (by wtm_at "zo") rfl vY (xQ (K:=K) (pv 4)) (fun cl fp s H=>(qH (i:=0) vY.nd rfl (Or.inl rfl) (.inr rfl))) (fun cl fp s H=>(qFb (PW.pt (qKe (qS (qKl (K:=K)) (pv 0) (xX jC (pv 1) (xI (qQ qG (qQ qG (qQ qG (qQ qG qX)))))) (by with_unfolding_all rfl)) (qXe (qS qQf (xJ qVl rfl B.len' zH (qQ (pv 0) qX)) qF (xE _))))))) (fun cl fp s H=>(pv 0)))
  (qJ (qO (xH (qU (K:=K)) (pv 4) (xX xT (xX xO (pv 1) qF) (xJ (xR (K:=K)) rfl B.len' zH (qQ (pv 4) qX))) (fun _ _=>rfl)))))))),?_⟩
 wtm_at "zw"
 refine⟨_,rfl,bx,rfl,⟨us,SqL.of ebx⟩,kO ebx (qJi pb) (by rw[List.length_map];omega) fun kn H1 _ S1 ekn=>?_⟩
 have lk:(bs.map (·.1)).length=bs.length:=List.length_map ..
 have lp:(0:Int)<((bs.map (·.1)).length:Int):=by omega
 wtm_at "zw"
 refine w_I (show(0:Int)<((strsV (bs.map (·.1))).length:Int) by rw[xA];exact lp) ?_
 obtain⟨wd,hwd,awd⟩:=qZf n (ws:=bs.map (·.1)) (fun z=>by rw[z] at lk;simp at lk;omega)
 have lw:=nmd.sh wd hwd
 have l8:=lw.1
 have sl:=fun l u=>Txt.slice_le wd l u
 refine⟨kn,_,_,_,rfl,rfl,SqL.of ekn,awd,?_⟩
 wtm_at "zw"
 refine⟨wd,rfl,by omega,?_⟩
 wtm_at "zw"
 refine⟨wd,rfl,by omega,?_⟩
 wtm_at "zw"
 refine⟨_,_,rfl,rfl,xF (show wd.length+1≤1000000 by omega),?_⟩
 wtm_at "zw"
 refine⟨wd,rfl,by omega,?_⟩
 wtm_at "zw"
 refine⟨_,_,rfl,rfl,xF (by have:=sl none (some (-1));show _+1≤1000000;omega),?_⟩
 wtm_at "zw"
 refine⟨wd,rfl,by omega,?_⟩
 wtm_at "zw"
 refine⟨_,_,rfl,rfl,xF (by have:=sl none (some 6);show 2+_≤1000000;omega),?_⟩
 wtm_at "zw"
 refine⟨wd,rfl,by omega,?_⟩
 wtm_at "zw"
 refine⟨_,_,rfl,rfl,xF (by have:=sl none (some 7);show _+1≤1000000;omega),?_⟩
 wtm_at "zw"
 refine⟨xF (show 8≤1000000 by decide),fun so hso=>?_⟩
 have e1:upd H1 so (.lst [V.str (Txt.slice wd none (some (-1))),V.str (Txt.slice wd (some 1) none),V.str (wd++Str.ofString "q"),V.str (Txt.slice wd none (some (-1))++Str.ofString "w"),V.str (Str.ofString "qo" ++ Txt.slice wd none (some 6)),V.str (Txt.slice wd none (some 7)++Str.ofString "z"),V.str (Str.ofString "a"),V.str (Str.ofString "oq")]) so=some (.lst (strsV (cands wd))):=qW
 have S2:Same H1 (upd H1 so (.lst [V.str (Txt.slice wd none (some (-1))),V.str (Txt.slice wd (some 1) none),V.str (wd++Str.ofString "q"),V.str (Txt.slice wd none (some (-1))++Str.ofString "w"),V.str (Str.ofString "qo" ++ Txt.slice wd none (some 6)),V.str (Txt.slice wd none (some 7)++Str.ofString "z"),V.str (Str.ofString "a"),V.str (Str.ofString "oq")])):=qV hso _
 generalize upd H1 so (.lst [V.str (Txt.slice wd none (some (-1))),V.str (Txt.slice wd (some 1) none),V.str (wd++Str.ofString "q"),V.str (Txt.slice wd none (some (-1))++Str.ofString "w"),V.str (Str.ofString "qo" ++ Txt.slice wd none (some 6)),V.str (Txt.slice wd none (some 7)++Str.ofString "z"),V.str (Str.ofString "a"),V.str (Str.ofString "oq")])=H2 at e1 S2
 have S12:=S1.trans S2
 wtm_at "zf"
 refine qOe (SqL.of e1) ?_
 refine qRv (p:=fun x=>decide (x∉bs.map (·.1)++[Str.ofString "",Str.ofString "not",Str.ofString "and",Str.ofString "yes"]) && decide (x.length<9)) e1 (by rw[qIv];decide) (fun x H' R hx S3 hR=>?_) fun D H3 S3 eD=>?_
 ·have lx:=qNl l8 x hx
  have ekn':=S3 _ _ (S2 _ _ ekn)
  wtm_at "zw"
  refine⟨xF (show 4≤1000000 by decide),fun p hp=>?_⟩
  refine⟨kn,p,_,_,rfl,rfl,qV hp _ _ _ ekn',qW,xF (by rw[xA,lk];show bs.length+4≤1000000;omega),fun p2 hp2=>?_⟩
  refine⟨p2,strsV (bs.map (·.1)++[Str.ofString "",Str.ofString "not",Str.ofString "and",Str.ofString "yes"]),rfl,.inl (by rw[zS];exact SqL.of qW),rfl,vZ _,?_⟩
  refine⟨_,rfl,?_⟩
  have S4:=(qV hp (.lst (strsV [Str.ofString "",Str.ofString "not",Str.ofString "and",Str.ofString "yes"]))).trans (qV hp2 (.lst (strsV (bs.map (·.1))++strsV [Str.ofString "",Str.ofString "not",Str.ofString "and",Str.ofString "yes"])))
  rw[if_pos rfl,wC]
  by_cases m:x∈bs.map (·.1)++[Str.ofString "",Str.ofString "not",Str.ofString "and",Str.ofString "yes"]
  ·rw[decide_eq_true m]
   refine iteF ?_
   have:=hR _ S4
   rw[decide_eq_false (not_not_intro m),Bool.false_and] at this
   exact this
  ·rw[decide_eq_false m]
   refine iteT ?_
   wtm_at "zw"
   refine⟨x,rfl,xF (by omega),?_⟩
   wtm_at "zw"
   have:=hR _ S4
   rw[decide_eq_true m,Bool.true_and] at this
   have e9:decide (((x.length:Nat):Int)<9)=decide (x.length<9):=decide_eq_decide.mpr ⟨fun h=>by omega,fun h=>by omega⟩
   rw[e9]
   exact this
 have hne:(cands wd).filter (fun x=>decide (x∉bs.map (·.1)++[Str.ofString "",Str.ofString "not",Str.ofString "and",Str.ofString "yes"]) && decide (x.length<9))≠[]:=by
  intro z
  have no:=List.filter_eq_nil_iff.mp z
  have c4:∀y∈[Str.ofString "a",Str.ofString "oq"],y∉[Str.ofString "",Str.ofString "not",Str.ofString "and",Str.ofString "yes"]∧y.length<9:=by decide +kernel
  have key:∀y∈[Str.ofString "a",Str.ofString "oq"],y∈cands wd→y∈bs.map (·.1):=fun y hy hc=>by
   refine Classical.byContradiction fun h=>no y hc ?_
   have:=c4 y hy
   rw[Bool.and_eq_true,decide_eq_true_iff,decide_eq_true_iff]
   exact⟨fun m=>(List.mem_append.mp m).elim h this.1,this.2⟩
  exact nmd.ao ⟨key _ (by simp) (by simp[cands]),key _ (by simp) (by simp[cands])⟩
 wtm_at "zw"
 refine w_I ⟨by decide,by decide +kernel⟩ ?_
 wtm_at "zw"
 obtain⟨y,hy,ay⟩:=qZf (n / 6) hne
 have ly:=List.length_pos_iff.mpr hne
 refine w_I (show(0:Int)<(((strsV _).length:Nat):Int) by rw[xA];omega) ?_
 refine⟨D,_,_,_,rfl,rfl,SqL.of eD,ay,?_⟩
 obtain⟨h1,h2⟩:=List.mem_filter.mp hy
 rw[Bool.and_eq_true,decide_eq_true_iff,decide_eq_true_iff] at h2
 exact q y H3 (S12.trans S3) ⟨by omega,qNi lw.2 y h1⟩ fun m=>h2.1 (List.mem_append.mpr (.inl m))

theorem qRm {ta:TA}{σ:St}{H:Hp}{W:It→Hp→Prop}(q:ta σ H fun vs H1=>∃i j:Int,vs=[.int i,.int j]∧(-(2 ^ 62)≤i∧i<2 ^ 62∧-(2 ^ 62)≤j∧j<2 ^ 62)∧W (Itr i (j - i).toNat) H1):iRng2 ta σ H W:=q
theorem qBc {X:Cx}{K:PySem.W.Frag}(hK:X.K=K:=by rfl):OpR X (binaryOp .Add) (rCatT K):=by subst hK;exact qGz
namespace Th
noncomputable def paths:Th→List (List Int)
 | num _=>[[]]
 | box _=>[[]]
 | nul _=>[]
 | un _ a=>a.paths.map (1::·)
 | bin _ a b=>a.paths.map (1::·)++b.paths.map (2::·)
noncomputable def put:Th→List Int→Th→Th
 | t,[],r=>r
 | un k a,_::q,r=>un k (a.put q r)
 | bin k a b,i::q,r=>if i=1 then bin k (a.put q r) b else bin k a (b.put q r)
 | t,_::_,_=>t
theorem paths_le:∀t:Th,t.paths.length≤t.cnt
 | num _=>Nat.le_refl _
 | box _=>Nat.le_refl _
 | nul _=>Nat.zero_le _
 | un _ a=>by have:=paths_le a;show(a.paths.map (1::·)).length≤a.cnt+1;rw[List.length_map];omega
 | bin _ a b=>by
  have:=paths_le a
  have:=paths_le b
  show(a.paths.map (1::·)++b.paths.map (2::·)).length≤a.cnt+b.cnt+1
  rw[List.length_append,List.length_map,List.length_map];omega
end Th
structure Mis (t:Th)(x:Str)(t':Th):Prop where
 ok:t'.Ok
 dp:t'.dep≤max t.dep 3
 has:x∈t'.names
 sub:∀y∈t'.names,y∈t.names∨y=x
theorem qYa {x:Str}:∀{t:Th} {q:List Int},t.Ok→q∈t.paths→(t.put q (.box x)).Ok∧(t.put q (.box x)).dep≤t.dep∧x∈(t.put q (.box x)).names∧∀y∈(t.put q (.box x)).names,y∈t.names∨y=x
 | .num _,q,_,h=>by
  cases List.mem_singleton.mp h
  exact⟨trivial,Nat.le_refl _,List.mem_singleton.mpr rfl,fun y hy=>.inr (List.mem_singleton.mp hy)⟩
 | .box _,q,_,h=>by
  cases List.mem_singleton.mp h
  exact⟨trivial,Nat.le_refl _,List.mem_singleton.mpr rfl,fun y hy=>.inr (List.mem_singleton.mp hy)⟩
 | .nul _,q,_,h=>by cases h
 | .un k a,q,ok,h=>by
  obtain⟨q',hq,rfl⟩:=List.mem_map.mp h
  obtain⟨h1,h2,h3,h4⟩:=qYa (x:=x) ok.2 hq
  exact⟨⟨ok.1,h1⟩,Nat.succ_le_succ h2,h3,h4⟩
 | .bin k a b,q,ok,h=>by
  rcases List.mem_append.mp h with h | h
  ·obtain⟨q',hq,rfl⟩:=List.mem_map.mp h
   obtain⟨h1,h2,h3,h4⟩:=qYa (x:=x) ok.2.1 hq
   have e:Th.put (.bin k a b) (1::q') (.box x)=.bin k (a.put q' (.box x)) b:=rfl
   rw[e]
   refine⟨⟨ok.1,h1,ok.2.2⟩,by show max _ _+1≤max _ _+1;omega,List.mem_append.mpr (.inl h3),fun y hy=>?_⟩
   rcases List.mem_append.mp hy with h | h
   ·exact(h4 y h).imp (fun z=>List.mem_append.mpr (.inl z)) id
   ·exact .inl (List.mem_append.mpr (.inr h))
  ·obtain⟨q',hq,rfl⟩:=List.mem_map.mp h
   obtain⟨h1,h2,h3,h4⟩:=qYa (x:=x) ok.2.2 hq
   have e:Th.put (.bin k a b) (2::q') (.box x)=.bin k a (b.put q' (.box x)):=rfl
   rw[e]
   refine⟨⟨ok.1,ok.2.1,h1⟩,by show max _ _+1≤max _ _+1;omega,List.mem_append.mpr (.inr h3),fun y hy=>?_⟩
   rcases List.mem_append.mp hy with h | h
   ·exact .inl (List.mem_append.mpr (.inl h))
   ·exact(h4 y h).imp (fun z=>List.mem_append.mpr (.inr z)) id
theorem yC:xM ["thing","path","found","k"] ["thing","path"] (xB (top 51)):=⟨rfl,rfl,rfl,by decide +kernel,rfl,by decide +kernel,by decide +kernel⟩
noncomputable def IntsIn (H:Hp)(q:List Int)(u:V):Prop:=∃a,u=.ref a∧H a=some (.lst (intsV q))
theorem IntsIn.same {H H':Hp}(s:Same H H'){q:List Int}{u:V}(h:IntsIn H q u):IntsIn H' q u:=let ⟨a,e,z⟩:=h;⟨a,e,s _ _ z⟩
noncomputable def qQm (n:Nat):Sp:=fun vs H Q _=>∃(t:Th) (v:V) (pa:Addr) (ps:List Int),vs=[v,.ref pa]∧t.At H v∧t.Ok∧t.dep≤n∧t.dep≤12∧H pa=some (.lst (intsV ps))∧ps.length+t.dep≤100∧
 ∀(r:Addr) (us:List V) (H':Hp),Same H H'→H' r=some (.lst us)→Paired (IntsIn H') (t.paths.map (ps++·)) us→Q (.ref r) H'
noncomputable def zN:Int→List Th→List (List Int)
 | _,[]=>[]
 | j,t::ts=>t.paths.map (j::·)++zN (j+1) ts
theorem vF (t:Th):∀(j:Int) (ts:List Th),zN j (ts++[t])=zN j ts++t.paths.map ((j+ts.length)::·)
 | j,[]=>by simp[zN]
 | j,u::ts=>by
  have:=vF t (j+1) ts
  simp only[List.cons_append,zN,this,List.append_assoc,List.length_cons]
  have e:j+1+(ts.length:Int)=j+((ts.length+1:Nat):Int):=by omega
  rw[e]
theorem qQk:∀(j:Int) (ts:List Th),(zN j ts).length≤(ts.map Th.cnt).sum
 | _,[]=>Nat.le_refl _
 | j,t::ts=>by
  have:=qQk (j+1) ts
  have:=t.paths_le
  simp only[zN,List.length_append,List.length_map,List.map_cons,List.sum_cons]
  omega
theorem qAo (ts:List Th)(i:Nat):((ts.take i).map Th.cnt).sum≤(ts.map Th.cnt).sum:=by
 have e:(ts.map Th.cnt).sum=((ts.take i).map Th.cnt).sum+((ts.drop i).map Th.cnt).sum:=by rw[← List.sum_append,← List.map_append,List.take_append_drop]
 omega
theorem view5 {H:Hp}{t:Th}{v:V}(h:t.At H v)(ok:t.Ok):(t.paths=[[]]∧∃a k y,v=.ref a∧H a=some (.tup [.str k,y])∧k∈[Str.ofString "number",Str.ofString "box"])∨
  ∃a k us ts,v=.ref a∧H a=some (.tup (.str k::us))∧k∉[Str.ofString "number",Str.ofString "box"]∧us.length=ts.length∧us.length≤2∧(∀(i:Nat) u r,us[i]? = some u→ts[i]? = some r→r.At H u∧r.Ok∧r.dep+1≤t.dep)∧(ts.map Th.cnt).sum+1=t.cnt∧t.paths=zN 1 ts:=by
 have no:∀k,Th.Op k→k∉[Str.ofString "number",Str.ofString "box"]:=fun k o z=>by
  simp only[List.mem_cons,List.not_mem_nil,or_false] at z
  exact z.elim (fun e=>o.2 e) fun e=>o.1 e
 cases t with
 | num n=>
  obtain⟨a,e,q⟩:=h
  exact .inl ⟨rfl,a,_,_,e,q,List.mem_cons_self⟩
 | box x=>
  obtain⟨a,e,q⟩:=h
  exact .inl ⟨rfl,a,_,_,e,q,List.mem_cons_of_mem _ List.mem_cons_self⟩
 | nul k=>
  obtain⟨a,e,q⟩:=h
  exact .inr ⟨a,k,[],[],e,q,no k ok,rfl,by decide,(fun i u r z=>by simp at z),rfl,rfl⟩
 | un k t1=>
  obtain⟨a,u,e,q,r⟩:=h
  refine .inr ⟨a,k,[u],[t1],e,q,no k ok.1,rfl,(show 1≤2 by decide),(fun i u' r' h1 h2=>?_),by simp[Th.cnt],by simp[zN,Th.paths]⟩
  cases i with
  | zero=>cases h1;cases h2;exact⟨r,ok.2,Nat.le_refl _⟩
  | succ i=>simp at h1
 | bin k t1 t2=>
  obtain⟨a,u,w,e,q,r1,r2⟩:=h
  refine .inr ⟨a,k,[u,w],[t1,t2],e,q,no k ok.1,rfl,(show 2≤2 by decide),(fun i u' r' h1 h2=>?_),by simp[Th.cnt],by simp[zN,Th.paths]⟩
  cases i with
  | zero=>cases h1;cases h2;exact⟨r1,ok.2.1,by show t1.dep+1≤max t1.dep t2.dep+1;omega⟩
  | succ i=>
   cases i with
   | zero=>cases h1;cases h2;exact⟨r2,ok.2.2,by show t2.dep+1≤max t1.dep t2.dep+1;omega⟩
   | succ i=>simp at h1
theorem qDh {n:Nat}(F:Fd K mg "_law_leaves" (top 51) ["thing","path"])(B:Bl mg)(D_law_leaves:Dn P w K mg base "_law_leaves" (n+1) ["thing","path"] (qQm n)):Dn P w K mg base "_law_leaves" (n+2) ["thing","path"] (qQm (n+1)):=by
 refine F.ok yC (fun vs H Q E h=>?_) (fun f cdv A outer s H vs Q E hr h=>?_)
 ·obtain⟨_,_,_,_,rfl,_⟩:=h
  rfl
 obtain⟨t,v,pa,ps,rfl,at',ok,hn,h12,epa,hl,q⟩:=h
 refine⟨_,(qZ (zK (qS (qNo (K:=K)) (xH (qT (K:=K)) (pv 0) qF (fun _ _=>rfl)) (xG (qQ qG (qQ qG qX))) (by with_unfolding_all rfl)) (qJ (qO (xI (qQ (pv 1) qX)))) qY)
  (qZ (qN (i:=2) yC.nd rfl (by wtm_at "zo") (xI qX))
  (qZ (jE PassesOwn.never rfl (qFe rfl B.range' (qQ qF (qQ (xJ (xR (K:=K)) rfl B.len' zH (qQ (pv 0) qX)) qX))) (qH (i:=3) yC.nd rfl (by wtm_at "zo")) (qJ (qN (i:=2) yC.nd rfl (by wtm_at "zo") (xX jC (pv 2) (qD D_law_leaves hr (qQ (xH (qT (K:=K)) (pv 0) (pv 3) (fun _ _=>rfl)) (qQ (xX jC (pv 1) (xI (qQ (pv 3) qX))) qX)))))))
  (qJ (qO (pv 2)))))),?_⟩
 have c12:=Th.cnt_small h12
 have ip:=fun u:Nat=>show((u:Nat):Int).toNat=u by omega
 rcases view5 at' ok with⟨ep,a,k,y,rfl,ea,hk⟩ | ⟨a,k,us0,ts,rfl,ea,hk,l1,l2,hts,hcnt,hpt⟩
 ·wtm_at "zw"
  refine⟨xF (show 2≤1000000 by decide),fun p hp=>?_⟩
  refine⟨p,strsV [Str.ofString "number",Str.ofString "box"],rfl,.inr (SqT.of qW),rfl,vZ _,?_⟩
  refine⟨_,rfl,?_⟩
  rw[if_neg Bool.false_ne_true,wC,decide_eq_true hk]
  refine iteT ?_
  wtm_at "zw"
  refine⟨xF (show 1≤1000000 by decide),fun r hr'=>?_⟩
  refine q r [.ref pa] _ ((qV hp _).trans (qV hr' _)) qW ?_
  rw[ep]
  exact .cons ⟨pa,rfl,by show _=some (HO.lst (intsV (ps++[])));rw[List.append_nil];exact qV hr' _ _ _ (qV hp _ _ _ epa)⟩ .nil
 wtm_at "zw"
 refine⟨xF (show 2≤1000000 by decide),fun p hp=>?_⟩
 have S0:=qV hp (.tup [V.str (Str.ofString "number"),V.str (Str.ofString "box")])
 refine⟨p,strsV [Str.ofString "number",Str.ofString "box"],rfl,.inr (SqT.of qW),rfl,vZ _,?_⟩
 refine⟨_,rfl,?_⟩
 rw[if_neg Bool.false_ne_true,wC,decide_eq_false hk]
 refine iteF ?_
 generalize upd H p (.tup [V.str (Str.ofString "number"),V.str (Str.ofString "box")])=H0 at S0
 wtm_at "zw"
 refine⟨xF (show 0≤1000000 by decide),fun fo hfo=>?_⟩
 have S1:=S0.trans (qV hfo (.lst []))
 have efo:upd H0 fo (.lst []) fo=some (.lst []):=qW
 generalize upd H0 fo (.lst [])=H1 at S1 efo
 have ea1:=S1 _ _ ea
 wtm_at "zf"
 refine qRm ?_
 wtm_at "zw"
 have lt:(V.str k::us0).length=ts.length+1:=by rw[List.length_cons,l1]
 refine⟨1,_,rfl,⟨by decide,by decide,by omega,by omega⟩,?_⟩
 have er:((((V.str k::us0).length:Nat):Int) - 1).toNat=ts.length:=by omega
 rw[er]
 refine yG (fun i σ' H'=>∃(fo:Addr) (us:List V) (z:Option V),σ'=[some (.ref a),some (.ref pa),some (.ref fo),z]∧Same H H'∧H' fo=some (.lst us)∧Paired (IntsIn H') ((zN 1 (ts.take i)).map (ps++·)) us)
  ⟨fo,[],none,rfl,S1,efo,.nil⟩ ?_ ?_
 ·rintro N rt bk i σ' H' hi ⟨fo,us,z,rfl,S2,efo,pu⟩ hN
  obtain⟨r,er⟩:∃r,ts[i]? = some r:=⟨_,List.getElem?_eq_getElem hi⟩
  obtain⟨u,eu⟩:∃u,us0[i]? = some u:=⟨_,List.getElem?_eq_getElem (by omega)⟩
  obtain⟨ra,rok,rdp⟩:=hts i u r eu er
  have ea2:=S2 _ _ ea
  have epa2:=S2 _ _ epa
  have ati:atI (V.str k::us0) (1+(i:Int))=some u:=by
   have e:(1:Int)+(i:Int)=((i+1:Nat):Int):=by omega
   rw[e]
   exact jR (by simpa using eu)
  wtm_at "zw"
  refine⟨xF (show 1≤1000000 by decide),fun l1' hl1=>?_⟩
  have S3:=qV hl1 (.lst [V.int (1+(i:Int))])
  refine⟨pa,l1',_,_,rfl,rfl,S3 _ _ epa2,qW,xF (by rw[yY];show ps.length+1≤1000000;omega),fun pb hpb=>?_⟩
  have S4:=S3.trans (qV hpb (.lst (intsV ps++[V.int (1+(i:Int))])))
  have epb:upd (upd H' l1' (.lst [V.int (1+(i:Int))])) pb (.lst (intsV ps++[V.int (1+(i:Int))])) pb=some (.lst (intsV (ps++[1+(i:Int)]))):=by rw[wS];exact qW
  generalize upd (upd H' l1' (.lst [V.int (1+(i:Int))])) pb (.lst (intsV ps++[V.int (1+(i:Int))]))=H4 at S4 epb
  wtm_at "zw"
  refine⟨r,u,pb,ps++[1+(i:Int)],rfl,(ra.mono (qC S2)).mono (qC S4),rok,by omega,by omega,epb,by rw[List.length_append];show ps.length+1+r.dep≤100;omega,fun q1 us1 H5 S5 eq1 p1=>?_⟩
  have pc:=qAo ts i
  have pl:=qQk 1 (ts.take i)
  have plu:=pu.length
  have plu1:=p1.length
  have rc:=r.paths_le
  have rc2:r.cnt≤(ts.map Th.cnt).sum:=by
   have:=qAo ts (i+1)
   rw[List.take_add_one,er,List.map_append,List.sum_append] at this
   have:((ts.take i).map Th.cnt).sum+(r.cnt+0)≤(ts.map Th.cnt).sum:=this
   omega
  rw[List.length_map] at plu plu1
  refine⟨fo,q1,us,us1,rfl,rfl,(S4.trans S5) _ _ efo,eq1,xF (by omega),fun f2 hf2=>?_⟩
  have S6:=S5.trans (qV hf2 (.lst (us++us1)))
  have S26:=S4.trans S6
  refine hN _ _ ⟨f2,us++us1,_,rfl,S2.trans S26,qW,?_⟩
  have e1:zN 1 (ts.take (i+1))=zN 1 (ts.take i)++r.paths.map ((1+(i:Int))::·):=by
   rw[List.take_add_one,er]
   have:=vF r 1 (ts.take i)
   rw[List.length_take,Nat.min_eq_left (by omega)] at this
   exact this
  rw[e1,List.map_append,List.map_map]
  refine jT (Paired.mapP pu fun _ _ y=>y.same S26) ?_
  have e2:r.paths.map ((ps++[1+(i:Int)])++·)=r.paths.map ((ps++·)∘((1+(i:Int))::·)):=List.map_congr_left fun x _=>by simp
  rw[e2] at p1
  exact Paired.mapP p1 fun _ _ y=>y.same (qV hf2 _)
 ·rintro σ' H' ⟨fo,us,z,rfl,S2,efo,pu⟩
  rw[List.take_length,← hpt] at pu
  wtm_at "zw"
  exact q fo us H' S2 efo pu
theorem qVf (F:Fd K mg "_law_leaves" (top 51) ["thing","path"])(B:Bl mg):∀n:Nat,Dn P w K mg base "_law_leaves" (n+1) ["thing","path"] (qQm n)
 | 0=>F.never fun vs H Q E h=>by
  obtain⟨t,_,_,_,_,_,_,h1,_⟩:=h
  have:=t.dep_pos
  omega
 | n+1=>qDh F B (qVf F B n)
theorem qCl:xM ["thing","path","part"] ["thing","path","part"] (xB (top 52)):=⟨rfl,rfl,rfl,by decide +kernel,rfl,by decide +kernel,by decide +kernel⟩
noncomputable def spPut (n:Nat):Sp:=fun vs H Q _=>∃(t r:Th) (v pw:V) (pa:Addr) (ps:List Int),vs=[v,.ref pa,pw]∧t.At H v∧t.dep≤n∧r.At H pw∧H pa=some (.lst (intsV ps))∧ps∈t.paths∧
 ∀(u:V) (H':Hp),Same H H'→(t.put ps r).At H' u→Q u H'
theorem qZd {xs:List V}{j:Nat}(h:j≤xs.length):cutV xs none (some (j:Int))=xs.take j:=by
 unfold cutV
 rw[HT.sIx_none,HT.sIx_nat,List.drop_zero,Nat.sub_zero,Nat.min_eq_left h]
theorem kP {xs:List V}{j:Nat}(h:j≤xs.length):cutV xs (some (j:Int)) none=xs.drop j:=by
 unfold cutV
 rw[HT.sIx_none,HT.sIx_nat,Nat.min_eq_left h,List.take_of_length_le (by rw[List.length_drop];exact Nat.le_refl _)]
theorem qNf (i:Int)(ps:List Int):cutV (intsV (i::ps)) (some 1) none=intsV ps:=cut1 _ _
theorem qRc {n:Nat}(F:Fd K mg "_law_put" (top 52) ["thing","path","part"])(D_law_put:Dn P w K mg base "_law_put" (n+1) ["thing","path","part"] (spPut n)):Dn P w K mg base "_law_put" (n+2) ["thing","path","part"] (spPut (n+1)):=by
 refine F.ok qCl (fun vs H Q E h=>?_) (fun f cdv A outer s H vs Q E hr h=>?_)
 ·obtain⟨_,_,_,_,_,_,rfl,_⟩:=h
  rfl
 obtain⟨t,r,v,pw,pa,ps,rfl,at',hn,rat,epa,hps,q⟩:=h
 refine⟨_,(qZ (zK (qS (qXl (K:=K) hr.units) (pv 1) (xI qX) (xE _)) (qJ (qO (pv 2))) qY)
  (qJ (qO (xX (qBc (K:=K)) (xX (qBc (K:=K)) (xP (qWb (K:=K)) (pv 0) zZ (zQ (xH (qU (K:=K)) (pv 1) qF (fun _ _=>rfl)))) (xG (qQ (qD D_law_put hr (qQ (xH (qT (K:=K)) (pv 0) (xH (qU (K:=K)) (pv 1) qF (fun _ _=>rfl)) (fun _ _=>rfl)) (qQ (xP (zJ (K:=K)) (pv 1) (zQ qF) zZ) (qQ (pv 2) qX)))) qX))) (xP (qWb (K:=K)) (pv 0) (zQ (xX zB (xH (qU (K:=K)) (pv 1) qF (fun _ _=>rfl)) qF)) zZ))))),?_⟩
 wtm_at "zw"
 refine⟨xF (show 0≤1000000 by decide),fun l0 hl0=>?_⟩
 have S0:=qV hl0 (.lst [])
 refine⟨pa,l0,_,rfl,rfl,SqL.of (S0 _ _ epa),SqL.of qW,?_⟩
 generalize upd H l0 (.lst [])=H0 at S0
 have epa0:=S0 _ _ epa
 cases ps with
 | nil=>
  wtm_at "zw"
  refine zF rfl ?_
  wtm_at "zw"
  have e:t.put [] r=r:=by cases t <;> rfl
  exact q pw H0 S0 (by rw[e];exact rat.mono (qC S0))
 | cons i q'=>
  wtm_at "zw"
  refine zY rfl ?_
  have dat:∃(a:Addr) (xs:List V) (u:V) (t1:Th) (j:Nat),v=.ref a∧H a=some (.tup xs)∧i=(j:Int)∧1≤j∧xs[j]? = some u∧xs.length≤3∧t1.At H u∧t1.dep≤n∧q'∈t1.paths∧
    ∀(p:Addr) (u':V) (H':Hp),Same H H'→(t1.put q' r).At H' u'→H' p=some (.tup (xs.take j++[u']++xs.drop (j+1)))→(t.put (i::q') r).At H' (.ref p):=by
   cases t with
   | num _=>cases List.mem_singleton.mp hps
   | box _=>cases List.mem_singleton.mp hps
   | nul _=>cases hps
   | un k t1=>
    obtain⟨a,u,ev,ea,a1⟩:=at'
    obtain⟨q2,hq,e⟩:=List.mem_map.mp hps
    cases e
    have hn:t1.dep+1≤n+1:=hn
    exact⟨a,_,u,t1,1,ev,ea,rfl,Nat.le_refl _,rfl,(show 2≤3 by decide),a1,by omega,hq,fun p u' H' S' h e=>⟨p,u',rfl,e,h⟩⟩
   | bin k t1 t2=>
    obtain⟨a,u1,u2,ev,ea,a1,a2⟩:=at'
    have hn:max t1.dep t2.dep+1≤n+1:=hn
    rcases List.mem_append.mp hps with h | h
    ·obtain⟨q2,hq,e⟩:=List.mem_map.mp h
     cases e
     exact⟨a,_,u1,t1,1,ev,ea,rfl,Nat.le_refl _,rfl,(show 3≤3 by decide),a1,by omega,hq,fun p u' H' S' h e=>⟨p,u',u2,rfl,e,h,a2.mono (qC S')⟩⟩
    ·obtain⟨q2,hq,e⟩:=List.mem_map.mp h
     cases e
     exact⟨a,_,u2,t2,2,ev,ea,rfl,(by decide),rfl,(show 3≤3 by decide),a2,by omega,hq,fun p u' H' S' h e=>⟨p,u1,u',rfl,e,a1.mono (qC S'),h⟩⟩
  obtain⟨a,xs,u,t1,j,rfl,ea,ej,j1,eu,lx,a1,hn1,hq',fin⟩:=dat
  have jl:j<xs.length:=(List.getElem?_eq_some_iff.mp eu).1
  have e0:atI (intsV (i::q')) 0=some (.int i):=qZg _ _
  have ea0:=S0 _ _ ea
  have ati:atI xs i=some u:=by rw[ej];exact jR eu
  wtm_at "zw"
  refine⟨a,xs,rfl,SqT.of ea0,(by rw[HT.sIx_none,ej,HT.sIx_nat];omega),fun p1 hp1=>?_⟩
  rw[ej,qZd (by omega)]
  have S1:=qV hp1 (.tup (xs.take j))
  have ep1:upd H0 p1 (.tup (xs.take j)) p1=some (.tup (xs.take j)):=qW
  generalize upd H0 p1 (.tup (xs.take j))=H1 at S1 ep1
  have ea1:=S1 _ _ ea0
  have epa1:=S1 _ _ epa0
  rw[ej] at epa1 ati
  wtm_at "zw"
  refine⟨pa,_,rfl,SqL.of epa1,fun l2 hl2=>?_⟩
  rw[qNf]
  have S2:=qV hl2 (.lst (intsV q'))
  have el2:upd H1 l2 (.lst (intsV q')) l2=some (.lst (intsV q')):=qW
  generalize upd H1 l2 (.lst (intsV q'))=H2 at S2 el2
  have S02:=S0.trans (S1.trans S2)
  wtm_at "zw"
  refine⟨t1,r,u,pw,l2,q',rfl,a1.mono (qC S02),hn1,rat.mono (qC S02),el2,hq',fun u' H3 S3 hu'=>?_⟩
  have S03:=S02.trans S3
  have ep13:=S3 _ _ (S2 _ _ ep1)
  wtm_at "zw"
  refine⟨xF (show 1≤1000000 by decide),fun p2 hp2=>?_⟩
  have S4:=qV hp2 (.tup [u'])
  have ep2:upd H3 p2 (.tup [u']) p2=some (.tup [u']):=qW
  generalize upd H3 p2 (.tup [u'])=H4 at S4 ep2
  refine⟨p1,p2,_,_,rfl,rfl,SqT.of (S4 _ _ ep13),SqT.of ep2,(by intro z;have:=congrArg List.length z;rw[List.length_take,List.length_nil] at this;omega),xF (by rw[List.length_take];show _+1≤1000000;omega),(fun z=>by cases z),fun _ p3 hp3=>?_⟩
  have S5:=qV hp3 (.tup (xs.take j++[u']))
  have ep3:upd H4 p3 (.tup (xs.take j++[u'])) p3=some (.tup (xs.take j++[u'])):=qW
  generalize upd H4 p3 (.tup (xs.take j++[u']))=H5 at S5 ep3
  have S35:=S4.trans S5
  have S05:=S03.trans S35
  have ea5:=S05 _ _ ea
  have epa5:=S05 _ _ epa
  rw[ej] at epa5
  wtm_at "zw"
  have ej1:((j:Int)+1)=((j+1:Nat):Int):=by omega
  refine⟨a,xs,rfl,SqT.of ea5,(by rw[HT.sIx_none,ej1,HT.sIx_nat];omega),fun p4 hp4=>?_⟩
  rw[ej1,kP (by omega)]
  have S6:=qV hp4 (.tup (xs.drop (j+1)))
  have ep4:upd H5 p4 (.tup (xs.drop (j+1))) p4=some (.tup (xs.drop (j+1))):=qW
  generalize upd H5 p4 (.tup (xs.drop (j+1)))=H6 at S6 ep4
  have S06:=S05.trans S6
  have hu6:=hu'.mono (qC (S35.trans S6))
  refine⟨p3,p4,_,_,rfl,rfl,SqT.of (S6 _ _ ep3),SqT.of ep4,(by simp),xF (by rw[List.length_append,List.length_take,List.length_drop];show _+1+_≤1000000;omega),fun z=>?_,fun _ p5 hp5=>?_⟩
  ·exact q _ _ S06 (fin p3 u' H6 S06 hu6 (by rw[z,List.append_nil];exact S6 _ _ ep3))
  ·have S7:=qV hp5 (.tup (xs.take j++[u']++xs.drop (j+1)))
   exact q _ _ (S06.trans S7) (fin p5 u' _ (S06.trans S7) (hu6.mono (qC S7)) qW)
theorem qOv (F:Fd K mg "_law_put" (top 52) ["thing","path","part"]):∀n:Nat,Dn P w K mg base "_law_put" (n+1) ["thing","path","part"] (spPut n)
 | 0=>F.never fun vs H Q E h=>by
  obtain⟨t,_,_,_,_,_,_,_,h1,_⟩:=h
  have:=t.dep_pos
  omega
 | n+1=>qRc F (qOv F n)
theorem kT:xM ["thing","strange","number","paths"] ["thing","strange","number"] (xB (top 53)):=⟨rfl,rfl,rfl,by decide +kernel,rfl,by decide +kernel,by decide +kernel⟩
noncomputable def spMis:Sp:=fun vs H Q _=>∃(t:Th) (v:V) (x:Str) (n:Int),vs=[v,.str x,.int n]∧t.At H v∧t.Ok∧t.dep≤12∧∀(t':Th) (u:V) (H':Hp),Same H H'→t'.At H' u→Mis t x t'→Q u H'
theorem qUj (F:Fd K mg "_law_misnamed" (top 53) ["thing","strange","number"])(B:Bl mg)(D_law_leaves:Dn P w K mg base "_law_leaves" 13 ["thing","path"] (qQm 12))(D_law_put:Dn P w K mg base "_law_put" 13 ["thing","path","part"] (spPut 12)):Dn P w K mg base "_law_misnamed" 14 ["thing","strange","number"] spMis:=by
 refine F.ok kT (fun vs H Q E h=>?_) (fun f cdv A outer s H vs Q E hr h=>?_)
 ·obtain⟨_,_,_,_,rfl,_⟩:=h
  rfl
 obtain⟨t,v,x,n,rfl,at',ok,dp,q⟩:=h
 refine⟨_,(qZ (qN (i:=3) kT.nd rfl (by wtm_at "zo") (qD D_law_leaves hr (qQ (pv 0) (qQ (xI qX) qX))))
  (qZ (zK (qS (qXl (K:=K) hr.units) (pv 3) (xI qX) (xE _)) (qJ (qO (xG (qQ qG (qQ (xG (qQ qG (qQ (xG (qQ qG (qQ qF qX))) (qQ (xG (qQ qG (qQ (pv 1) qX))) qX)))) qX))))) qY)
  (qJ (qO (qD D_law_put hr (qQ (pv 0) (qQ (xH (qU (K:=K)) (pv 3) (xX xT (pv 2) (xJ (xR (K:=K)) rfl B.len' zH (qQ (pv 3) qX))) (fun _ _=>rfl)) (qQ (xG (qQ qG (qQ (pv 1) qX))) qX)))))))),?_⟩
 wtm_at "zw"
 refine⟨xF (show 0≤1000000 by decide),fun l0 hl0=>?_⟩
 have S0:=qV hl0 (.lst [])
 have el0:upd H l0 (.lst []) l0=some (.lst []):=qW
 generalize upd H l0 (.lst [])=H0 at S0 el0
 wtm_at "zw"
 refine⟨t,v,l0,[],rfl,at'.mono (qC S0),ok,dp,dp,el0,by show 0+t.dep≤100;omega,fun pl us H1 S1 epl pp=>?_⟩
 have S01:=S0.trans S1
 wtm_at "zw"
 refine⟨xF (show 0≤1000000 by decide),fun l1 hl1=>?_⟩
 have S2:=qV hl1 (.lst [])
 refine⟨pl,l1,_,rfl,rfl,SqL.of (S2 _ _ epl),SqL.of qW,?_⟩
 generalize upd H1 l1 (.lst [])=H2 at S2
 have S02:=S01.trans S2
 have epl2:=S2 _ _ epl
 have lp:=pp.length
 rw[List.length_map] at lp
 cases us with
 | nil=>
  refine⟨_,rfl,?_⟩
  refine zF rfl ?_
  wtm_at "zw"
  refine⟨xF (show 2≤1000000 by decide),fun p1 hp1=>?_⟩
  have S3:=qV hp1 (.tup [V.str (Str.ofString "number"),V.int 1])
  have e1:upd H2 p1 (.tup [V.str (Str.ofString "number"),V.int 1]) p1=some _:=qW
  generalize upd H2 p1 (.tup [V.str (Str.ofString "number"),V.int 1])=H3 at S3 e1
  wtm_at "zw"
  refine⟨xF (show 2≤1000000 by decide),fun p2 hp2=>?_⟩
  have S4:=qV hp2 (.tup [V.str (Str.ofString "box"),V.str x])
  have e2:upd H3 p2 (.tup [V.str (Str.ofString "box"),V.str x]) p2=some _:=qW
  generalize upd H3 p2 (.tup [V.str (Str.ofString "box"),V.str x])=H4 at S4 e2
  wtm_at "zw"
  refine⟨xF (show 3≤1000000 by decide),fun p3 hp3=>?_⟩
  have S5:=qV hp3 (.tup [V.str (Str.ofString "under"),.ref p1,.ref p2])
  have e3:upd H4 p3 (.tup [V.str (Str.ofString "under"),.ref p1,.ref p2]) p3=some _:=qW
  generalize upd H4 p3 (.tup [V.str (Str.ofString "under"),.ref p1,.ref p2])=H5 at S5 e3
  wtm_at "zw"
  refine⟨xF (show 2≤1000000 by decide),fun p4 hp4=>?_⟩
  have S6:=qV hp4 (.tup [V.str (Str.ofString "not"),.ref p3])
  have e4:upd H5 p4 (.tup [V.str (Str.ofString "not"),.ref p3]) p4=some _:=qW
  generalize upd H5 p4 (.tup [V.str (Str.ofString "not"),.ref p3])=H6 at S6 e4
  refine q (.un "not" (.bin "under" (.num 1) (.box x))) (.ref p4) H6 (S02.trans (S3.trans (S4.trans (S5.trans S6)))) ⟨p4,.ref p3,rfl,e4,p3,.ref p1,.ref p2,rfl,S6 _ _ e3,⟨p1,rfl,S6 _ _ (S5 _ _ (S4 _ _ e1))⟩,⟨p2,rfl,S6 _ _ (S5 _ _ e2)⟩⟩ ⟨?_,Nat.le_max_right _ _,List.mem_singleton.mpr rfl,fun y hy=>.inr (List.mem_singleton.mp hy)⟩
  exact⟨by unfold Th.Op;decide +kernel,by unfold Th.Op;decide +kernel,trivial,trivial⟩
 | cons u0 us'=>
  refine⟨_,rfl,?_⟩
  refine zY rfl ?_
  wtm_at "zw"
  refine w_I (show(0:Int)<(((u0::us').length:Nat):Int) by rw[List.length_cons];omega) ?_
  obtain⟨j,uj,ej,_,aj⟩:=yT (us:=u0::us') n (List.cons_ne_nil _ _)
  obtain⟨qp,eqp⟩:∃b,(t.paths.map (([]:List Int)++·))[j]? = some b:=⟨_,List.getElem?_eq_getElem (by rw[pp.length];exact(List.getElem?_eq_some_iff.mp ej).1)⟩
  obtain⟨qa,rfl,eqa⟩:=xV pp eqp ej
  rw[List.getElem?_map] at eqp
  obtain⟨q0,eq0,eqq⟩:=Option.map_eq_some_iff.mp eqp
  have eqq:q0=qp:=eqq
  subst eqq
  refine⟨pl,_,_,_,rfl,rfl,SqL.of epl2,aj,?_⟩
  wtm_at "zw"
  refine⟨xF (show 2≤1000000 by decide),fun p2 hp2=>?_⟩
  have S3:=qV hp2 (.tup [V.str (Str.ofString "box"),V.str x])
  have e2:upd H2 p2 (.tup [V.str (Str.ofString "box"),V.str x]) p2=some _:=qW
  generalize upd H2 p2 (.tup [V.str (Str.ofString "box"),V.str x])=H3 at S3 e2
  have S03:=S02.trans S3
  have hq0:=List.mem_of_getElem? eq0
  refine⟨t,.box x,v,.ref p2,qa,q0,rfl,at'.mono (qC S03),dp,⟨p2,rfl,e2⟩,S3 _ _ (S2 _ _ eqa),hq0,fun u H4 S4 hu=>?_⟩
  obtain⟨h1,h2,h3,h4⟩:=qYa (x:=x) ok hq0
  exact q _ u H4 (S03.trans S4) hu ⟨h1,by omega,h3,h4⟩

theorem wY:xM ["things","thing","number","at"] ["things","thing","number"] (xB (top 54)):=⟨rfl,rfl,rfl,by decide +kernel,rfl,by decide +kernel,by decide +kernel⟩
noncomputable def vR:Sp:=fun vs H Q _=>∃(l:Addr) (us:List V) (u:V) (n:Int),vs=[.ref l,u,.int n]∧H l=some (.lst us)∧us.length≤1000∧∀(r:Addr) (k:Nat) (H':Hp),Same H H'→k≤us.length→H' r=some (.lst (us.take k++u::us.drop k))→Q (.ref r) H'
theorem qNc (F:Fd K mg "_law_put_in" (top 54) ["things","thing","number"])(B:Bl mg):Dn P w K mg base "_law_put_in" 1 ["things","thing","number"] vR:=by
 refine F.ok wY (fun vs H Q E h=>?_) (fun f cdv A outer s H vs Q E hr h=>?_)
 ·obtain⟨_,_,_,_,rfl,_⟩:=h
  rfl
 obtain⟨l,us,u,n,rfl,el,hl,q⟩:=h
 refine⟨_,(qZ (qN (i:=3) wY.nd rfl (by wtm_at "zo") (xX xT (pv 2) (xX zB (xJ (xR (K:=K)) rfl B.len' zH (qQ (pv 0) qX)) qF)))
  (qJ (qO (xX jC (xX jC (xP (zJ (K:=K)) (pv 0) zZ (zQ (pv 3))) (xI (qQ (pv 1) qX))) (xP (zJ (K:=K)) (pv 0) (zQ (pv 3)) zZ))))),?_⟩
 wtm_at "zw"
 have m0:=Int.emod_nonneg n (b:=((us.length:Nat):Int)+1) (by omega)
 have m1:=Int.emod_lt_of_pos n (b:=((us.length:Nat):Int)+1) (by omega)
 obtain⟨k,ek⟩:∃k:Nat,n % (((us.length:Nat):Int)+1)=(k:Int):=⟨(n % (((us.length:Nat):Int)+1)).toNat,by omega⟩
 refine w_I (show(0:Int)<((us.length:Nat):Int)+1 by omega) ?_
 rw[ek] at m1 ⊢
 have kl:k≤us.length:=by omega
 wtm_at "zw"
 refine⟨l,us,rfl,SqL.of el,fun p1 hp1=>?_⟩
 rw[qZd kl]
 have S1:=qV hp1 (.lst (us.take k))
 have e1:upd H p1 (.lst (us.take k)) p1=some _:=qW
 generalize upd H p1 (.lst (us.take k))=H1 at S1 e1
 wtm_at "zw"
 refine⟨xF (show 1≤1000000 by decide),fun p2 hp2=>?_⟩
 have S2:=qV hp2 (.lst [u])
 have e2:upd H1 p2 (.lst [u]) p2=some _:=qW
 generalize upd H1 p2 (.lst [u])=H2 at S2 e2
 refine⟨p1,p2,_,_,rfl,rfl,S2 _ _ e1,e2,xF (by rw[List.length_take];show _+1≤1000000;omega),fun p3 hp3=>?_⟩
 have S3:=qV hp3 (.lst (us.take k++[u]))
 have e3:upd H2 p3 (.lst (us.take k++[u])) p3=some _:=qW
 generalize upd H2 p3 (.lst (us.take k++[u]))=H3 at S3 e3
 have S13:=S1.trans (S2.trans S3)
 wtm_at "zw"
 refine⟨l,us,rfl,SqL.of (S13 _ _ el),fun p4 hp4=>?_⟩
 rw[kP kl]
 have S4:=qV hp4 (.lst (us.drop k))
 have e4:upd H3 p4 (.lst (us.drop k)) p4=some _:=qW
 generalize upd H3 p4 (.lst (us.drop k))=H4 at S4 e4
 refine⟨p3,p4,_,_,rfl,rfl,S4 _ _ e3,e4,xF (by rw[List.length_append,List.length_take,List.length_drop];show _+1+_≤1000000;omega),fun p5 hp5=>?_⟩
 exact q p5 k _ (S13.trans (S4.trans (qV hp5 _))) kl (by rw[qW,List.append_assoc];rfl)
theorem qQq (xs:List V)(k:Nat):cutV xs none (some (k:Int))=xs.take k:=by
 by_cases h:k≤xs.length
 ·exact qZd h
 ·unfold cutV
  rw[HT.sIx_none,HT.sIx_nat,List.drop_zero,Nat.sub_zero,Nat.min_eq_right (by omega),List.take_of_length_le (Nat.le_refl _),List.take_of_length_le (by omega)]
theorem jX:xM ["way","words","strange","number","at","word","box","part"] ["way","words","strange","number"] (xB (top 55)):=⟨rfl,rfl,rfl,by decide +kernel,rfl,by decide +kernel,by decide +kernel⟩
theorem jW {α β:Type}{F:α→β→Prop}:∀{a:List α} {b:List β} (k:Nat),Paired F a b→Paired F (a.take k) (b.take k)
 | _,_,0,_=>by rw[List.take_zero,List.take_zero];exact .nil
 | _,_,k+1,.nil=>.nil
 | _,_,k+1,.cons f p=>.cons f (jW k p)
theorem kH {α β:Type}{F:α→β→Prop}:∀{a:List α} {b:List β} (k:Nat),Paired F a b→Paired F (a.drop k) (b.drop k)
 | _,_,0,p=>p
 | _,_,k+1,.nil=>.nil
 | _,_,k+1,.cons f p=>kH k p
theorem vX {α β:Type}{F:α→β→Prop}{a:List α}{b:List β}{x:α}{y:β}(k:Nat)(p:Paired F a b)(h:F x y):Paired F (a.take k++x::a.drop k) (b.take k++y::b.drop k):=jT (jW k p) (.cons h (kH k p))
theorem wV {α β:Type}{F:α→β→Prop}{a:List α}{b:List β}{x:α}{y:β}(k:Nat)(p:Paired F a b)(h:F x y):Paired F (a.take k++x::a.drop (k+1)) (b.take k++y::b.drop (k+1)):=jT (jW k p) (.cons h (kH (k+1) p))
theorem qVx {α:Type}{a:List α}{x y:α}{k:Nat}(h:y∈a.take k++x::a.drop k):y=x∨y∈a:=by
 rcases List.mem_append.mp h with h | h
 ·exact .inr (List.mem_of_mem_take h)
 ·exact(List.mem_cons.mp h).imp id List.mem_of_mem_drop
theorem qBg {α:Type}{a:List α}{x y:α}{k:Nat}(h:y∈a.take k++x::a.drop (k+1)):y=x∨y∈a:=by
 rcases List.mem_append.mp h with h | h
 ·exact .inr (List.mem_of_mem_take h)
 ·exact(List.mem_cons.mp h).imp id List.mem_of_mem_drop
theorem qBn {α β:Type}{f:α→β}{a:List α}{x y:α}{k:Nat}(hy:y∈a)(e:f x=f y):¬((a.take k++x::a.drop k).map f).Nodup:=by
 intro nd
 rw[List.map_append,List.map_cons] at nd
 have p:(((a.take k).map f)++f x::((a.drop k).map f)).Perm (f x::(((a.take k).map f)++((a.drop k).map f))):=List.perm_middle
 have nd2:=(p.nodup_iff).mp nd
 rw[← List.map_append,List.take_append_drop] at nd2
 exact(List.nodup_cons.mp nd2).1 (e▸List.mem_map.mpr ⟨y,hy,rfl⟩)
noncomputable def qBj:Sp:=fun vs H Q _=>∃(wa wd:Addr) (cs:List V) (wy:List (Str×Th)) (ws:List Str) (x:Str) (n:Int),vs=[.ref wa,.ref wd,.str x,.int n]∧H wa=some (.lst cs)∧Paired (zD H) wy cs∧WayF wy∧H wd=some (.lst (strsV ws))∧ws≠[]∧(∀y∈ws,Short y)∧Short x∧x∉ws∧
 ∀(r:Addr) (wy':List (Str×Th)) (cs':List V) (H':Hp),Same H H'→H' r=some (.lst cs')→Paired (zD H') wy' cs'→WayF wy'→¬WayG ws wy'→Q (.ref r) H'
theorem qYf (n:Int):Fit (.num n):=⟨trivial,by show 1≤12;decide,fun x h=>by cases h⟩
theorem qRk {x:Str}(s:Short x):Fit (.box x):=⟨trivial,by show 1≤12;decide,fun y h=>by rw[List.mem_singleton.mp h];exact s⟩
theorem Mis.fit {t t':Th}{x:Str}(m:Mis t x t')(f:Fit t)(s:Short x):Fit t':=⟨m.ok,by have:=m.dp;have:=f.dp;omega,fun y hy=>(m.sub y hy).elim (f.sh y) fun e=>e▸s⟩
theorem qHl (F:Fd K mg "_law_bad_way" (top 55) ["way","words","strange","number"])(B:Bl mg)(B_max:mg "max" = none)(D_law_put_in:Dn P w K mg base "_law_put_in" 1 ["things","thing","number"] vR)(D_law_misnamed:Dn P w K mg base "_law_misnamed" 14 ["thing","strange","number"] spMis):Dn P w K mg base "_law_bad_way" 15 ["way","words","strange","number"] qBj:=by
 refine F.ok jX (fun vs H Q E h=>?_) (fun f cdv A outer s H vs Q E hr h=>?_)
 ·obtain⟨_,_,_,_,_,_,_,rfl,_⟩:=h
  rfl
 obtain⟨wa,wd,cs,wy,ws,x,n,rfl,ewa,pc,wf,ewd,wne,wsh,sx,xno,q⟩:=h
 have lc:wy.length=cs.length:=pc.length
 have l90:=wf.le
 have lw:=List.length_pos_iff.mpr wne
 refine⟨_,(qZ (qN (i:=4) jX.nd rfl (by wtm_at "zo") (xX xT (xX xO (pv 3) qF) (xJ (qIa rfl) rfl B_max qUa (qQ qF (qQ (xJ (xR (K:=K)) rfl B.len' zH (qQ (pv 0) qX)) qX)))))
  (qZ (qN (i:=5) jX.nd rfl (by wtm_at "zo") (xH (qU (K:=K)) (pv 1) (xX xT (xX xO (pv 3) qF) (xJ (xR (K:=K)) rfl B.len' zH (qQ (pv 1) qX))) (fun _ _=>rfl)))
  (qZ (zK (qS zM (xX xT (pv 3) qF) qF (xE _)) (qJ (qO (qD D_law_put_in hr (qQ (xP (zJ (K:=K)) (pv 0) zZ (zQ qF)) (qQ (xG (qQ (pv 2) (qQ (xG (qQ qG (qQ qF qX))) qX))) (qQ (xX xO (pv 3) qF) qX)))))) qY)
  (qZ (zK (PW.pt (qKe (qS zM (xX xT (pv 3) qF) qF (xE _)) (qXe (qS (qXh (K:=K) hr.units) (pv 0) (xI qX) (xE _))))) (qZ (qP (xH (qU (K:=K)) (pv 0) (pv 4) (fun _ _=>rfl)) (jV (K:=K) (n:=2) rfl (qI (qH (i:=6) jX.nd rfl (by wtm_at "zo")) (qI (qH (i:=7) jX.nd rfl (by wtm_at "zo")) qM))))
  (qJ (qO (xX jC (xX jC (xP (zJ (K:=K)) (pv 0) zZ (zQ (pv 4))) (xI (qQ (xG (qQ (pv 6) (qQ (qD D_law_misnamed hr (qQ (pv 7) (qQ (pv 2) (qQ (xX xO (pv 3) qF) qX)))) qX))) qX))) (xP (zJ (K:=K)) (pv 0) (zQ (xX zB (pv 4) qF)) zZ))))) qY)
  (qZ (zK (qS zM (xX xT (pv 3) qF) qF (xE _)) (qJ (qO (xI (qQ (xG (qQ (pv 5) (qQ (xG (qQ qG (qQ (xG (qQ qG (qQ (pv 5) qX))) (qQ (xG (qQ qG (qQ (pv 2) qX))) qX)))) qX))) qX)))) qY)
  (qZ (zK (qS (qXl (K:=K) hr.units) (pv 0) (xI qX) (xE _)) (qJ (qO (xI (qQ (xG (qQ (pv 5) (qQ (xG (qQ qG (qQ qF qX))) qX))) (qQ (xG (qQ (pv 5) (qQ (xG (qQ qG (qQ (pv 5) qX))) qX))) qX))))) qY)
  (qZ (qN (i:=4) jX.nd rfl (by wtm_at "zo") (xX xT (pv 4) (xJ (wH rfl) rfl B.min' qCv (qQ qF (qQ (xJ (xR (K:=K)) rfl B.len' zH (qQ (pv 0) qX)) qX)))))
  (qJ (qO (qD D_law_put_in hr (qQ (xP (zJ (K:=K)) (pv 0) zZ (zQ qF)) (qQ (xG (qQ (xH (qT (K:=K)) (xH (qU (K:=K)) (pv 0) (pv 4) (fun _ _=>rfl)) qF (fun _ _=>rfl)) (qQ (xG (qQ qG (qQ (xX xT (xX xO (pv 3) qF) qF) qX))) qX))) (qQ (xX xO (pv 3) qF) qX))))))))))))),?_⟩
 wtm_at "zw"
 refine w_I ⟨by decide,by decide +kernel⟩ ?_
 wtm_at "zw"
 refine⟨_,_,rfl,?_⟩
 generalize hM:(if ((cs.length:Nat):Int)>1 then ((cs.length:Nat):Int) else 1)=M
 have M0:0<M:=by subst hM;split <;> omega
 have MA:cs≠[]→M=((cs.length:Nat):Int):=fun h=>by
  have:=List.length_pos_iff.mpr h
  subst hM;split <;> omega
 refine w_I M0 ?_
 wtm_at "zw"
 refine w_I ⟨by decide,by decide +kernel⟩ ?_
 wtm_at "zw"
 refine w_I (show(0:Int)<(((strsV ws).length:Nat):Int) by rw[xA];omega) ?_
 obtain⟨wd1,hw1,aw1⟩:=qZf (n / 16) wne
 refine⟨wd,_,_,_,rfl,rfl,SqL.of ewd,aw1,?_⟩
 have sw:=wsh _ hw1
 wtm_at "zw"
 refine w_I (by decide) ?_
 wtm_at "zw"
 have l3:(wy.take 3).length≤3:=by rw[List.length_take];omega
 have p3:=jW 3 pc
 by_cases h0:n % 4=0
 ·refine zF (decide_eq_true (by rw[h0])) ?_
  wtm_at "zw"
  refine⟨wa,cs,rfl,SqL.of ewa,fun p1 hp1=>?_⟩
  rw[show cutV cs none (some 3)=cs.take 3 from qQq cs 3]
  have Sp1:=qV hp1 (.lst (cs.take 3))
  have ep1:upd H p1 (.lst (cs.take 3)) p1=some (.lst (cs.take 3)):=qW
  generalize upd H p1 (.lst (cs.take 3))=H1 at Sp1 ep1
  wtm_at "zw"
  refine⟨xF (show 2≤1000000 by decide),fun p2 hp2=>?_⟩
  have Sp2:=qV hp2 (.tup [V.str (Str.ofString "number"),V.int 1])
  have ep2:upd H1 p2 (.tup [V.str (Str.ofString "number"),V.int 1]) p2=some (.tup [V.str (Str.ofString "number"),V.int 1]):=qW
  generalize upd H1 p2 (.tup [V.str (Str.ofString "number"),V.int 1])=H2 at Sp2 ep2
  wtm_at "zw"
  refine⟨xF (show 2≤1000000 by decide),fun p4 hp4=>?_⟩
  have Sp4:=qV hp4 (.tup [V.str x,.ref p2])
  have ep4:upd H2 p4 (.tup [V.str x,.ref p2]) p4=some (.tup [V.str x,.ref p2]):=qW
  generalize upd H2 p4 (.tup [V.str x,.ref p2])=H3 at Sp4 ep4
  wtm_at "zw"
  refine w_I ⟨by decide,by decide +kernel⟩ ?_
  wtm_at "zw"
  have S13:=Sp1.trans (Sp2.trans Sp4)
  refine⟨p1,_,_,_,rfl,Sp4 _ _ (Sp2 _ _ ep1),by rw[List.length_take];omega,fun r k H4 S4 _ er=>?_⟩
  have S14:=S13.trans S4
  refine q r _ _ H4 S14 er (vX k (Paired.mapP p3 fun _ _ y=>y.same S14) (x:=(x,Th.num 1)) ⟨p4,.ref p2,rfl,S4 _ _ ep4,p2,rfl,S4 _ _ (Sp4 _ _ ep2)⟩) ⟨?_,fun c hc=>?_⟩ fun g=>?_
  ·rw[List.length_append,List.length_cons,List.length_take,List.length_drop];omega
  ·rcases qVx hc with rfl | h
   ·exact⟨sx,qYf 1⟩
   ·exact wf.ok c (List.mem_of_mem_take h)
  ·exact xno (g.ok (x,.num 1) (List.mem_append.mpr (.inr List.mem_cons_self))).1
 refine zY (decide_eq_false (by intro z;injection z with z;exact h0 z)) ?_
 wtm_at "zw"
 refine w_I (by decide) ?_
 wtm_at "zw"
 by_cases h1:n % 4=1
 ·refine zF (decide_eq_true (by rw[h1])) ?_
  wtm_at "zw"
  refine⟨xF (show 0≤1000000 by decide),fun l0 hl0=>?_⟩
  have Sl0:=qV hl0 (.lst [])
  have el0:upd H l0 (.lst []) l0=some (.lst []):=qW
  generalize upd H l0 (.lst [])=H0 at Sl0 el0
  refine⟨wa,l0,_,rfl,rfl,SqL.of (Sl0 _ _ ewa),SqL.of el0,?_⟩
  by_cases hc:cs=[]
  ·refine⟨_,rfl,zY (by rw[hc];rfl) ?_⟩
   wtm_at "zw"
   refine w_I (by decide) ?_
   wtm_at "zw"
   refine zF (decide_eq_true (by rw[h1])) ?_
   wtm_at "zw"
   refine⟨xF (show 2≤1000000 by decide),fun p1 hp1=>?_⟩
   have Sp1:=qV hp1 (.tup [V.str (Str.ofString "box"),V.str wd1])
   have ep1:upd H0 p1 (.tup [V.str (Str.ofString "box"),V.str wd1]) p1=some (.tup [V.str (Str.ofString "box"),V.str wd1]):=qW
   generalize upd H0 p1 (.tup [V.str (Str.ofString "box"),V.str wd1])=H1 at Sp1 ep1
   wtm_at "zw"
   refine⟨xF (show 2≤1000000 by decide),fun p2 hp2=>?_⟩
   have Sp2:=qV hp2 (.tup [V.str (Str.ofString "box"),V.str x])
   have ep2:upd H1 p2 (.tup [V.str (Str.ofString "box"),V.str x]) p2=some (.tup [V.str (Str.ofString "box"),V.str x]):=qW
   generalize upd H1 p2 (.tup [V.str (Str.ofString "box"),V.str x])=H2 at Sp2 ep2
   wtm_at "zw"
   refine⟨xF (show 3≤1000000 by decide),fun p3 hp3=>?_⟩
   have Sp3:=qV hp3 (.tup [V.str (Str.ofString "less"),.ref p1,.ref p2])
   have ep3:upd H2 p3 (.tup [V.str (Str.ofString "less"),.ref p1,.ref p2]) p3=some (.tup [V.str (Str.ofString "less"),.ref p1,.ref p2]):=qW
   generalize upd H2 p3 (.tup [V.str (Str.ofString "less"),.ref p1,.ref p2])=H3 at Sp3 ep3
   wtm_at "zw"
   refine⟨xF (show 2≤1000000 by decide),fun p4 hp4=>?_⟩
   have Sp4:=qV hp4 (.tup [V.str wd1,.ref p3])
   have ep4:upd H3 p4 (.tup [V.str wd1,.ref p3]) p4=some (.tup [V.str wd1,.ref p3]):=qW
   generalize upd H3 p4 (.tup [V.str wd1,.ref p3])=H4 at Sp4 ep4
   wtm_at "zw"
   refine⟨xF (show 1≤1000000 by decide),fun p5 hp5=>?_⟩
   have S5:=qV hp5 (.lst [V.ref p4])
   refine q p5 [(wd1,.bin "less" (.box wd1) (.box x))] _ _ (Sl0.trans (Sp1.trans (Sp2.trans (Sp3.trans (Sp4.trans S5))))) qW (.cons ⟨p4,.ref p3,rfl,S5 _ _ ep4,p3,.ref p1,.ref p2,rfl,S5 _ _ (Sp4 _ _ ep3),⟨p1,rfl,S5 _ _ (Sp4 _ _ (Sp3 _ _ (Sp2 _ _ ep1)))⟩,⟨p2,rfl,S5 _ _ (Sp4 _ _ (Sp3 _ _ ep2))⟩⟩ .nil) ⟨(by show 1≤100;decide),fun c hc=>?_⟩ fun g=>?_
   ·rw[List.mem_singleton.mp hc]
    refine⟨sw,⟨by unfold Th.Op;decide +kernel,trivial,trivial⟩,by show 2≤12;decide,fun y hy=>?_⟩
    rcases List.mem_cons.mp hy with rfl | hy
    ·exact sw
    ·rw[List.mem_singleton.mp hy];exact sx
   ·exact xno ((g.ok _ (List.mem_singleton.mpr rfl)).2 x (List.mem_cons_of_mem _ List.mem_cons_self))
  ·obtain⟨j,v,ej,em,aj⟩:=yT (n / 4) hc
   rw[em] at aj
   rw[MA hc,em]
   obtain⟨c,ec⟩:∃b,wy[j]? = some b:=⟨_,List.getElem?_eq_getElem (by rw[lc];exact(List.getElem?_eq_some_iff.mp ej).1)⟩
   have jl:j<cs.length:=(List.getElem?_eq_some_iff.mp ej).1
   obtain⟨ca,cv,rfl,eca,cat⟩:=xV pc ec ej
   have hcm:=List.mem_of_getElem? ec
   have eca0:=Sl0 _ _ eca
   have ewa0:=Sl0 _ _ ewa
   refine⟨_,rfl,zF (by cases cs with | nil=>exact absurd rfl hc | cons _ _=>rfl) ?_⟩
   wtm_at "zw"
   refine⟨wa,cs,rfl,SqL.of ewa0,fun p1 hp1=>?_⟩
   rw[qZd (Nat.le_of_lt jl)]
   have Sp1:=qV hp1 (.lst (cs.take j))
   have ep1:upd H0 p1 (.lst (cs.take j)) p1=some (.lst (cs.take j)):=qW
   generalize upd H0 p1 (.lst (cs.take j))=H1 at Sp1 ep1
   have S1:=Sl0.trans Sp1
   wtm_at "zw"
   refine w_I ⟨by decide,by decide +kernel⟩ ?_
   wtm_at "zw"
   refine⟨c.2,cv,x,_,rfl,cat.mono (qC S1),(wf.ok c hcm).2.ok,(wf.ok c hcm).2.dp,fun t' u H2 S2 tat mis=>?_⟩
   have S12:=S1.trans S2
   wtm_at "zw"
   refine⟨xF (show 2≤1000000 by decide),fun p2 hp2=>?_⟩
   have Sp2:=qV hp2 (.tup [V.str c.1,u])
   have ep2:upd H2 p2 (.tup [V.str c.1,u]) p2=some (.tup [V.str c.1,u]):=qW
   generalize upd H2 p2 (.tup [V.str c.1,u])=H3 at Sp2 ep2
   wtm_at "zw"
   refine⟨xF (show 1≤1000000 by decide),fun p3 hp3=>?_⟩
   have Sp3:=qV hp3 (.lst [V.ref p2])
   have ep3:upd H3 p3 (.lst [V.ref p2]) p3=some (.lst [V.ref p2]):=qW
   generalize upd H3 p3 (.lst [V.ref p2])=H4 at Sp3 ep3
   have ep1':=Sp3 _ _ (Sp2 _ _ (S2 _ _ ep1))
   refine⟨p1,p3,_,_,rfl,rfl,ep1',ep3,xF (by rw[List.length_take];show _+1≤1000000;omega),fun p4 hp4=>?_⟩
   have Sp4:=qV hp4 (.lst (cs.take j++[V.ref p2]))
   have ep4:upd H4 p4 (.lst (cs.take j++[V.ref p2])) p4=some (.lst (cs.take j++[V.ref p2])):=qW
   generalize upd H4 p4 (.lst (cs.take j++[V.ref p2]))=H5 at Sp4 ep4
   have S15:=S12.trans (Sp2.trans (Sp3.trans Sp4))
   have ewa5:=S15 _ _ ewa
   wtm_at "zw"
   have ej1:((j:Int)+1)=((j+1:Nat):Int):=by omega
   refine⟨wa,cs,rfl,SqL.of ewa5,fun p5 hp5=>?_⟩
   rw[ej1,kP (by omega)]
   have Sp5:=qV hp5 (.lst (cs.drop (j+1)))
   have ep5:upd H5 p5 (.lst (cs.drop (j+1))) p5=some (.lst (cs.drop (j+1))):=qW
   generalize upd H5 p5 (.lst (cs.drop (j+1)))=H6 at Sp5 ep5
   refine⟨p4,p5,_,_,rfl,rfl,Sp5 _ _ ep4,ep5,xF (by rw[List.length_append,List.length_take,List.length_drop];show _+1+_≤1000000;omega),fun r hr=>?_⟩
   have Sr:=qV hr (.lst (cs.take j++[V.ref p2]++cs.drop (j+1)))
   have er:upd H6 r (.lst (cs.take j++[V.ref p2]++cs.drop (j+1))) r=some (.lst (cs.take j++[V.ref p2]++cs.drop (j+1))):=qW
   generalize upd H6 r (.lst (cs.take j++[V.ref p2]++cs.drop (j+1)))=H7 at Sr er
   have S6:=Sr
   rw[List.append_assoc] at er
   have S36:=Sp3.trans (Sp4.trans (Sp5.trans S6))
   have S16:=S15.trans (Sp5.trans S6)
   refine q r (wy.take j++(c.1,t')::wy.drop (j+1)) _ _ S16 er (wV j (Paired.mapP pc fun _ _ y=>y.same S16) ⟨p2,u,rfl,S36 _ _ ep2,tat.mono (qC (Sp2.trans S36))⟩) ⟨?_,fun d hd=>?_⟩ fun g=>?_
   ·rw[List.length_append,List.length_cons,List.length_take,List.length_drop];omega
   ·rcases qBg hd with rfl | h
    ·exact⟨(wf.ok c hcm).1,mis.fit (wf.ok c hcm).2 sx⟩
    ·exact wf.ok d h
   ·exact xno ((g.ok (c.1,t') (List.mem_append.mpr (.inr List.mem_cons_self))).2 x mis.has)
 refine zY (decide_eq_false (by intro z;injection z with z;exact h1 z)) ?_
 wtm_at "zw"
 refine w_I (by decide) ?_
 wtm_at "zw"
 refine zY (decide_eq_false (by intro z;injection z with z;exact h1 z)) ?_
 wtm_at "zw"
 refine⟨xF (show 0≤1000000 by decide),fun l0 hl0=>?_⟩
 have Sl0:=qV hl0 (.lst [])
 have el0:upd H l0 (.lst []) l0=some (.lst []):=qW
 generalize upd H l0 (.lst [])=H0 at Sl0 el0
 refine⟨wa,l0,_,rfl,rfl,SqL.of (Sl0 _ _ ewa),SqL.of el0,?_⟩
 have ewa0:=Sl0 _ _ ewa
 by_cases hc:cs=[]
 ·refine⟨_,rfl,zF (by rw[hc];rfl) ?_⟩
  wtm_at "zw"
  refine⟨xF (show 2≤1000000 by decide),fun p1 hp1=>?_⟩
  have Sp1:=qV hp1 (.tup [V.str (Str.ofString "number"),V.int 1])
  have ep1:upd H0 p1 (.tup [V.str (Str.ofString "number"),V.int 1]) p1=some (.tup [V.str (Str.ofString "number"),V.int 1]):=qW
  generalize upd H0 p1 (.tup [V.str (Str.ofString "number"),V.int 1])=H1 at Sp1 ep1
  wtm_at "zw"
  refine⟨xF (show 2≤1000000 by decide),fun p2 hp2=>?_⟩
  have Sp2:=qV hp2 (.tup [V.str wd1,.ref p1])
  have ep2:upd H1 p2 (.tup [V.str wd1,.ref p1]) p2=some (.tup [V.str wd1,.ref p1]):=qW
  generalize upd H1 p2 (.tup [V.str wd1,.ref p1])=H2 at Sp2 ep2
  wtm_at "zw"
  refine⟨xF (show 2≤1000000 by decide),fun p3 hp3=>?_⟩
  have Sp3:=qV hp3 (.tup [V.str (Str.ofString "box"),V.str wd1])
  have ep3:upd H2 p3 (.tup [V.str (Str.ofString "box"),V.str wd1]) p3=some (.tup [V.str (Str.ofString "box"),V.str wd1]):=qW
  generalize upd H2 p3 (.tup [V.str (Str.ofString "box"),V.str wd1])=H3 at Sp3 ep3
  wtm_at "zw"
  refine⟨xF (show 2≤1000000 by decide),fun p4 hp4=>?_⟩
  have Sp4:=qV hp4 (.tup [V.str wd1,.ref p3])
  have ep4:upd H3 p4 (.tup [V.str wd1,.ref p3]) p4=some (.tup [V.str wd1,.ref p3]):=qW
  generalize upd H3 p4 (.tup [V.str wd1,.ref p3])=H4 at Sp4 ep4
  wtm_at "zw"
  refine⟨xF (show 2≤1000000 by decide),fun p5 hp5=>?_⟩
  have S5:=qV hp5 (.lst [V.ref p2,V.ref p4])
  refine q p5 [(wd1,.num 1),(wd1,.box wd1)] _ _ (Sl0.trans (Sp1.trans (Sp2.trans (Sp3.trans (Sp4.trans S5))))) qW (.cons ⟨p2,.ref p1,rfl,S5 _ _ (Sp4 _ _ (Sp3 _ _ ep2)),p1,rfl,S5 _ _ (Sp4 _ _ (Sp3 _ _ (Sp2 _ _ ep1)))⟩ (.cons ⟨p4,.ref p3,rfl,S5 _ _ ep4,p3,rfl,S5 _ _ (Sp4 _ _ ep3)⟩ .nil)) ⟨(by show 2≤100;decide),fun c hc=>?_⟩ fun g=>?_
  ·simp only[List.mem_cons,List.not_mem_nil,or_false] at hc
   rcases hc with rfl | rfl
   ·exact⟨sw,qYf 1⟩
   ·exact⟨sw,qRk sw⟩
  ·have nd:[wd1,wd1].Nodup:=g.nd
   simp at nd
 refine⟨_,rfl,zY (by cases cs with | nil=>exact absurd rfl hc | cons _ _=>rfl) ?_⟩
 have lcp:=List.length_pos_iff.mpr hc
 wtm_at "zw"
 refine⟨_,_,rfl,?_⟩
 generalize hm:(if ((cs.length:Nat):Int)<3 then ((cs.length:Nat):Int) else 3)=m3
 have m0:0<m3∧m3≤((cs.length:Nat):Int)∧m3≤3:=by subst hm;split <;> omega
 refine w_I m0.1 ?_
 wtm_at "zw"
 refine⟨wa,cs,rfl,SqL.of ewa0,fun p1 hp1=>?_⟩
 rw[show cutV cs none (some 3)=cs.take 3 from qQq cs 3]
 have Sp1:=qV hp1 (.lst (cs.take 3))
 have ep1:upd H0 p1 (.lst (cs.take 3)) p1=some (.lst (cs.take 3)):=qW
 generalize upd H0 p1 (.lst (cs.take 3))=H1 at Sp1 ep1
 have S1:=Sl0.trans Sp1
 have a0:=Int.emod_nonneg (n / 4 % M) (b:=m3) (by omega)
 have a1:=Int.emod_lt_of_pos (n / 4 % M) m0.1
 obtain⟨j,ej⟩:∃j:Nat,n / 4 % M % m3=(j:Int):=⟨(n / 4 % M % m3).toNat,by omega⟩
 rw[ej] at a1 ⊢
 have jl:j<cs.length:=by omega
 obtain⟨v,ev⟩:∃v,cs[j]? = some v:=⟨_,List.getElem?_eq_getElem jl⟩
 obtain⟨c,ec⟩:∃b,wy[j]? = some b:=⟨_,List.getElem?_eq_getElem (by omega)⟩
 obtain⟨ca,cv,rfl,eca,cat⟩:=xV pc ec ev
 have eca1:=S1 _ _ eca
 have ewa1:=S1 _ _ ewa
 wtm_at "zw"
 refine w_I ⟨by decide,by decide +kernel⟩ ?_
 wtm_at "zw"
 refine w_I (by decide) ?_
 wtm_at "zw"
 refine⟨xF (show 2≤1000000 by decide),fun p2 hp2=>?_⟩
 have Sp2:=qV hp2 (.tup [V.str (Str.ofString "number"),V.int (n / 64 % 10)])
 have ep2:upd H1 p2 (.tup [V.str (Str.ofString "number"),V.int (n / 64 % 10)]) p2=some (.tup [V.str (Str.ofString "number"),V.int (n / 64 % 10)]):=qW
 generalize upd H1 p2 (.tup [V.str (Str.ofString "number"),V.int (n / 64 % 10)])=H2 at Sp2 ep2
 wtm_at "zw"
 refine⟨xF (show 2≤1000000 by decide),fun p4 hp4=>?_⟩
 have Sp4:=qV hp4 (.tup [V.str c.1,.ref p2])
 have ep4:upd H2 p4 (.tup [V.str c.1,.ref p2]) p4=some (.tup [V.str c.1,.ref p2]):=qW
 generalize upd H2 p4 (.tup [V.str c.1,.ref p2])=H3 at Sp4 ep4
 wtm_at "zw"
 refine w_I ⟨by decide,by decide +kernel⟩ ?_
 wtm_at "zw"
 have S13:=S1.trans (Sp2.trans Sp4)
 refine⟨p1,_,_,_,rfl,Sp4 _ _ (Sp2 _ _ ep1),by rw[List.length_take];omega,fun r k H4 S4 _ er=>?_⟩
 have S14:=S13.trans S4
 have c3m:c∈wy.take 3:=List.mem_of_getElem? (i:=j) (by rw[List.getElem?_take,if_pos (by omega)];exact ec)
 refine q r _ _ H4 S14 er (vX k (Paired.mapP p3 fun _ _ y=>y.same S14) (x:=(c.1,Th.num (n / 64 % 10))) ⟨p4,.ref p2,rfl,S4 _ _ ep4,p2,rfl,S4 _ _ (Sp4 _ _ ep2)⟩) ⟨?_,fun d hd=>?_⟩ fun g=>?_
 ·rw[List.length_append,List.length_cons,List.length_take,List.length_drop];omega
 ·rcases qVx hd with rfl | h
  ·exact⟨(wf.ok c (List.mem_of_mem_take c3m)).1,qYf _⟩
  ·exact wf.ok d (List.mem_of_mem_take h)
 ·exact qBn (x:=(c.1,Th.num (n / 64 % 10))) c3m rfl g.nd

theorem xN:xM ["deeds","words","strange","number","at","name","price","need","ways","kind","other","some","bad","here","way"] ["deeds","words","strange","number"] (xB (top 56)):=⟨rfl,rfl,rfl,by decide +kernel,rfl,by decide +kernel,by decide +kernel⟩
structure DeedG (ws:List Str)(d:Deed):Prop where
 price:1≤d.price
 need:∀x∈d.need.names,x∈ws
 ne:d.ways≠[]
 ways:∀wy∈d.ways,WayG ws wy
structure Words (H:Hp)(wd:Addr)(ws:List Str)(x:Str):Prop where
 at':H wd=some (.lst (strsV ws))
 ne:ws≠[]
 sh:∀y∈ws,Short y
 sx:Short x
 no:x∉ws
theorem Words.same {H H':Hp}{wd:Addr}{ws:List Str}{x:Str}(h:Words H wd ws x)(S:Same H H'):Words H' wd ws x:=⟨S _ _ h.at',h.ne,h.sh,h.sx,h.no⟩
noncomputable def qKa:Sp:=fun vs H Q _=>∃(dx wd:Addr) (du:List V) (ds:List Deed) (ws:List Str) (x:Str) (n:Int),vs=[.ref dx,.ref wd,.str x,.int n]∧H dx=some (.lst du)∧Paired (DeedIn H) ds du∧ds≠[]∧ds.length≤100∧(∀d∈ds,DeedF d∧d.ways≠[])∧Words H wd ws x∧
 ∀(r:Addr) (ds':List Deed) (du':List V) (H':Hp),Same H H'→H' r=some (.lst du')→Paired (DeedIn H') ds' du'→ds'.length≤101→(∀d∈ds',DeedF d)→(¬(ds'.map Deed.name).Nodup∨∃d∈ds',¬DeedG ws d)→Q (.ref r) H'
noncomputable def BadI (H:Hp)(ws:List Str)(pre:St)(σ':St)(H':Hp):Prop:=∃(bd:Addr) (d':Deed) (z1 z2:Option V),σ'=pre++[some (.ref bd),z1,z2]∧Same H H'∧DeedIn H' d' (.ref bd)∧DeedF d'∧¬DeedG ws d'
theorem qDm (F:Fd K mg "_law_bad_deed" (top 56) ["deeds","words","strange","number"])(B:Bl mg)(D_law_put_in:Dn P w K mg base "_law_put_in" 1 ["things","thing","number"] vR)(D_law_misnamed:Dn P w K mg base "_law_misnamed" 14 ["thing","strange","number"] spMis)
  (D_law_bad_way:Dn P w K mg base "_law_bad_way" 15 ["way","words","strange","number"] qBj):Dn P w K mg base "_law_bad_deed" 16 ["deeds","words","strange","number"] qKa:=by
 refine F.ok xN (fun vs H Q E h=>?_) (fun f cdv A outer s H vs Q E hr h=>?_)
 ·obtain⟨_,_,_,_,_,_,_,rfl,_⟩:=h
  rfl
 obtain⟨dx,wd,du,ds,ws,x,n,rfl,edx,pd,dne,l100,df,wo,q⟩:=h
 have ld:ds.length=du.length:=pd.length
 have lp:=List.length_pos_iff.mpr dne
 have une:du≠[]:=fun z=>by rw[z,List.length_nil] at ld;omega
 refine⟨_,(qZ (qN (i:=4) xN.nd rfl (by wtm_at "zo") (xX xT (xX xO (pv 3) qF) (xJ (wH rfl) rfl B.min' qCv (qQ qF (qQ (xJ (xR (K:=K)) rfl B.len' zH (qQ (pv 0) qX)) qX)))))
  (qZ (qP (xH (qU (K:=K)) (pv 0) (pv 4) (fun _ _=>rfl)) (jV (K:=K) (n:=4) rfl (qI (qH (i:=5) xN.nd rfl (by wtm_at "zo")) (qI (qH (i:=6) xN.nd rfl (by wtm_at "zo")) (qI (qH (i:=7) xN.nd rfl (by wtm_at "zo")) (qI (qH (i:=8) xN.nd rfl (by wtm_at "zo")) qM))))))
  (qZ (qN (i:=9) xN.nd rfl (by wtm_at "zo") (xX xT (pv 3) qF))
  (qZ (qN (i:=3) xN.nd rfl (by wtm_at "zo") (xX xO (pv 3) qF))
  (qZ (zK (qS qQf (pv 9) qF (xE _)) (qZ (qN (i:=10) xN.nd rfl (by wtm_at "zo") (xH (qU (K:=K)) (pv 0) (xX xT (xX zB (pv 4) (pv 3)) (xJ (xR (K:=K)) rfl B.len' zH (qQ (pv 0) qX))) (fun _ _=>rfl)))
  (qZ (qN (i:=11) xN.nd rfl (by wtm_at "zo") (xP (zJ (K:=K)) (xX jC (xP (zJ (K:=K)) (xH (qT (K:=K)) (pv 10) qF (fun _ _=>rfl)) (zQ (xX xT (pv 3) qF)) zZ) (xI (qQ (xI qX) qX))) zZ (zQ qF)))
  (qJ (qO (qD D_law_put_in hr (qQ (xP (zJ (K:=K)) (pv 0) zZ (zQ qF)) (qQ (xG (qQ (pv 5) (qQ (xX zB (xH (qT (K:=K)) (pv 10) qF (fun _ _=>rfl)) (xX xT (pv 3) qF)) (qQ (xH (qT (K:=K)) (pv 10) qF (fun _ _=>rfl)) (qQ (pv 11) qX))))) (qQ (xX xO (pv 3) qF) qX)))))))) qY)
  (qZ (qN (i:=12) xN.nd rfl (by wtm_at "zo") (xG (qQ (pv 5) (qQ (xH (qU (K:=K)) (xI (qQ qF (qQ (qYb wZ qF) (qQ (xX kY qF (xX yB qF qF)) qX)))) (xX xT (pv 3) qF) (fun _ _=>rfl)) (qQ (pv 7) (qQ (pv 8) qX))))))
  (qK (zK (qS zM (pv 9) qF (xE _)) (qJ (qN (i:=12) xN.nd rfl (by wtm_at "zo") (xG (qQ (pv 5) (qQ (pv 6) (qQ (pv 7) (qQ (xI qX) qX))))))) qY)
  (qK (zK (qS zM (pv 9) qF (xE _)) (qJ (qN (i:=12) xN.nd rfl (by wtm_at "zo") (xG (qQ (pv 5) (qQ (pv 6) (qQ (qD D_law_misnamed hr (qQ (pv 7) (qQ (pv 2) (qQ (pv 3) qX)))) (qQ (pv 8) qX))))))) qY)
  (qK (zK (qS qMh (pv 9) qF (xE _)) (qZ (qN (i:=13) xN.nd rfl (by wtm_at "zo") (xX xT (pv 3) (xJ (xR (K:=K)) rfl B.len' zH (qQ (pv 8) qX))))
  (qZ (qN (i:=14) xN.nd rfl (by wtm_at "zo") (qD D_law_bad_way hr (qQ (xH (qU (K:=K)) (pv 8) (pv 13) (fun _ _=>rfl)) (qQ (pv 1) (qQ (pv 2) (qQ (xX xO (pv 3) qF) qX))))))
  (qJ (qN (i:=12) xN.nd rfl (by wtm_at "zo") (xG (qQ (pv 5) (qQ (pv 6) (qQ (pv 7) (qQ (xX jC (xX jC (xP (zJ (K:=K)) (pv 8) zZ (zQ (pv 13))) (xI (qQ (pv 14) qX))) (xP (zJ (K:=K)) (pv 8) (zQ (xX zB (pv 13) qF)) zZ)) qX))))))))) qY)
  (qJ (qO (xX jC (xX jC (xP (zJ (K:=K)) (pv 0) zZ (zQ (pv 4))) (xI (qQ (pv 12) qX))) (xP (zJ (K:=K)) (pv 0) (zQ (xX zB (pv 4) qF)) zZ))))))))))))),?_⟩
 wtm_at "zw"
 refine w_I ⟨by decide,by decide +kernel⟩ ?_
 wtm_at "zw"
 refine⟨_,_,rfl,?_⟩
 generalize hm:(if ((du.length:Nat):Int)<7 then ((du.length:Nat):Int) else 7)=m7
 have m0:0<m7∧m7≤((du.length:Nat):Int)∧m7≤7:=by subst hm;split <;> omega
 refine w_I m0.1 ?_
 have a0:=Int.emod_nonneg (n / 8) (b:=m7) (by omega)
 have a1:=Int.emod_lt_of_pos (n / 8) m0.1
 obtain⟨j,ej⟩:∃j:Nat,n / 8 % m7=(j:Int):=⟨(n / 8 % m7).toNat,by omega⟩
 rw[ej] at a1 ⊢
 have jl:j<du.length:=by omega
 obtain⟨v,ev⟩:∃v,du[j]? = some v:=⟨_,List.getElem?_eq_getElem jl⟩
 obtain⟨d,ed⟩:∃b,ds[j]? = some b:=⟨_,List.getElem?_eq_getElem (by omega)⟩
 obtain⟨da,nv,wa,wu,rfl,ea,nat,ewa,pw⟩:=xV pd ed ev
 have hd:=List.mem_of_getElem? ed
 obtain⟨dF,dwne⟩:=df d hd
 have lwu:d.ways.length=wu.length:=pw.length
 wtm_at "zw"
 refine w_I (by decide) ?_
 wtm_at "zw"
 refine w_I ⟨by decide,by decide +kernel⟩ ?_
 generalize n / 1000=n'
 wtm_at "zw"
 by_cases h2:n % 8<2
 ·refine zF (decide_eq_true h2) ?_
  wtm_at "zw"
  obtain⟨j2,v2,e2,em2,a2⟩:=yT (us:=du) ((j:Int)+n') une
  obtain⟨d2,ed2⟩:∃b,ds[j2]? = some b:=⟨_,List.getElem?_eq_getElem (by rw[ld];exact(List.getElem?_eq_some_iff.mp e2).1)⟩
  obtain⟨da2,nv2,wa2,wu2,rfl,ea2,nat2,ewa2,pw2⟩:=xV pd ed2 e2
  obtain⟨dF2,dwne2⟩:=df d2 (List.mem_of_getElem? ed2)
  have lw2:d2.ways.length=wu2.length:=pw2.length
  have lw2p:=List.length_pos_iff.mpr dwne2
  refine w_I (show(0:Int)<((du.length:Nat):Int) by omega) ?_
  refine⟨dx,_,_,_,rfl,rfl,SqL.of edx,a2,?_⟩
  wtm_at "zw"
  refine w_I (by decide) ?_
  have k0:=Int.emod_nonneg n' (b:=2) (by decide)
  have k1:=Int.emod_lt_of_pos n' (b:=2) (by decide)
  obtain⟨k2,ek2⟩:∃k:Nat,n' % 2=(k:Int):=⟨(n' % 2).toNat,by omega⟩
  rw[ek2] at k1 ⊢
  wtm_at "zw"
  refine⟨wa2,wu2,rfl,SqL.of ewa2,fun p1 hp1=>?_⟩
  rw[kP (by omega)]
  have Sp1:=qV hp1 (.lst (wu2.drop k2))
  have ep1:upd H p1 (.lst (wu2.drop k2)) p1=some (.lst (wu2.drop k2)):=qW
  generalize upd H p1 (.lst (wu2.drop k2))=H1 at Sp1 ep1
  wtm_at "zw"
  refine⟨xF (show 0≤1000000 by decide),fun l1 hl1=>?_⟩
  have Sl1:=qV hl1 (.lst [])
  have el1:upd H1 l1 (.lst []) l1=some (.lst []):=qW
  generalize upd H1 l1 (.lst [])=H2 at Sl1 el1
  wtm_at "zw"
  refine⟨xF (show 1≤1000000 by decide),fun l2 hl2=>?_⟩
  have Sl2:=qV hl2 (.lst [V.ref l1])
  have el2:upd H2 l2 (.lst [V.ref l1]) l2=some (.lst [V.ref l1]):=qW
  generalize upd H2 l2 (.lst [V.ref l1])=H3 at Sl2 el2
  refine⟨p1,l2,_,_,rfl,rfl,Sl2 _ _ (Sl1 _ _ ep1),el2,xF (by have:=dF2.le;rw[List.length_drop];show _+1≤1000000;omega),fun p3 hp3=>?_⟩
  have Sp3:=qV hp3 (.lst (wu2.drop k2++[V.ref l1]))
  have ep3:upd H3 p3 (.lst (wu2.drop k2++[V.ref l1])) p3=some (.lst (wu2.drop k2++[V.ref l1])):=qW
  generalize upd H3 p3 (.lst (wu2.drop k2++[V.ref l1]))=H4 at Sp3 ep3
  wtm_at "zw"
  refine⟨p3,_,rfl,SqL.of ep3,fun p4 hp4=>?_⟩
  rw[show cutV (wu2.drop k2++[V.ref l1]) none (some 4)=(wu2.drop k2++[V.ref l1]).take 4 from qQq _ 4]
  have Sp4:=qV hp4 (.lst ((wu2.drop k2++[V.ref l1]).take 4))
  have ep4:upd H4 p4 (.lst ((wu2.drop k2++[V.ref l1]).take 4)) p4=some (.lst ((wu2.drop k2++[V.ref l1]).take 4)):=qW
  generalize upd H4 p4 (.lst ((wu2.drop k2++[V.ref l1]).take 4))=H5 at Sp4 ep4
  have S5:=Sp1.trans (Sl1.trans (Sl2.trans (Sp3.trans Sp4)))
  have edx5:=S5 _ _ edx
  have ea25:=S5 _ _ ea2
  wtm_at "zw"
  refine⟨dx,_,rfl,SqL.of edx5,fun p5 hp5=>?_⟩
  rw[show cutV du none (some 7)=du.take 7 from qQq _ 7]
  have Sp5:=qV hp5 (.lst (du.take 7))
  have ep5:upd H5 p5 (.lst (du.take 7)) p5=some (.lst (du.take 7)):=qW
  generalize upd H5 p5 (.lst (du.take 7))=H6 at Sp5 ep5
  have ea26:=Sp5 _ _ ea25
  wtm_at "zw"
  refine w_I (by decide) ?_
  rw[ek2]
  wtm_at "zw"
  refine⟨xF (show 4≤1000000 by decide),fun p6 hp6=>?_⟩
  have Sp6:=qV hp6 (.tup [V.str d.name,V.int (d2.price+(k2:Int)),nv2,V.ref p4])
  have ep6:upd H6 p6 (.tup [V.str d.name,V.int (d2.price+(k2:Int)),nv2,V.ref p4]) p6=some (.tup [V.str d.name,V.int (d2.price+(k2:Int)),nv2,V.ref p4]):=qW
  generalize upd H6 p6 (.tup [V.str d.name,V.int (d2.price+(k2:Int)),nv2,V.ref p4])=H7 at Sp6 ep6
  wtm_at "zw"
  refine w_I ⟨by decide,by decide +kernel⟩ ?_
  wtm_at "zw"
  refine⟨p5,_,_,_,rfl,Sp6 _ _ ep5,by rw[List.length_take];omega,fun r k H8 S8 _ er=>?_⟩
  have S68:=Sp6.trans S8
  have S58:=Sp5.trans S68
  have S18:=S5.trans S58
  have p7:=jW 7 pd
  have hd7:d∈ds.take 7:=List.mem_of_getElem? (i:=j) (by rw[List.getElem?_take,if_pos (by omega)];exact ed)
  have pw4:=jW 4 (jT (kH k2 (Paired.mapP pw2 fun _ _ y=>y.same S18)) (.cons (show WayIn H8 [] (V.ref l1) from⟨l1,[],rfl,S58 _ _ (Sp4 _ _ (Sp3 _ _ (Sl2 _ _ el1))),.nil⟩) .nil))
  refine q r ((ds.take 7).take k++(⟨d.name,d2.price+(k2:Int),d2.need,(d2.ways.drop k2++[[]]).take 4⟩:Deed)::(ds.take 7).drop k) _ H8 S18 er (vX k (Paired.mapP p7 fun _ _ y=>y.same S18) ⟨p6,nv2,p4,_,rfl,S8 _ _ ep6,nat2.mono (qC S18),S58 _ _ ep4,pw4⟩) ?_ (fun c hc=>?_) (.inl (qBn hd7 rfl))
  ·rw[List.length_append,List.length_cons,List.length_take,List.length_drop,List.length_take];omega
  ·rcases qVx hc with rfl | h
   ·refine⟨dF.sh,dF2.need,by show((d2.ways.drop k2++[[]]).take 4).length≤100;rw[List.length_take];omega,fun wy hwy=>?_⟩
    rcases List.mem_append.mp (List.mem_of_mem_take hwy) with h | h
    ·exact dF2.ways wy (List.mem_of_mem_drop h)
    ·rw[List.mem_singleton.mp h];exact⟨by decide,fun c h=>by cases h⟩
   ·exact(df c (List.mem_of_mem_take h)).1
 refine zY (decide_eq_false h2) ?_
 wtm_at "zw"
 refine w_I ⟨by decide,by decide,by decide +kernel⟩ ?_
 wtm_at "zw"
 refine⟨xF (show 3≤1000000 by decide),fun l3 hl3=>?_⟩
 have Sl3:=qV hl3 (.lst [V.int 0,V.int (-1),V.int (0 - 10 ^ (29:Int).toNat)])
 have el3:upd H l3 (.lst [V.int 0,V.int (-1),V.int (0 - 10 ^ (29:Int).toNat)]) l3=some (.lst [V.int 0,V.int (-1),V.int (0 - 10 ^ (29:Int).toNat)]):=qW
 generalize upd H l3 (.lst [V.int 0,V.int (-1),V.int (0 - 10 ^ (29:Int).toNat)])=H3 at Sl3 el3
 wtm_at "zw"
 refine w_I (by decide) ?_
 obtain⟨pb,pb1,apb⟩:∃p:Int,p<1∧atI [V.int 0,V.int (-1),V.int (0 - 10 ^ (29:Int).toNat)] (n' % 3)=some (.int p):=by
  obtain⟨j3,v3,e3,_,a3⟩:=yT (us:=[V.int 0,V.int (-1),V.int (0 - 10 ^ (29:Int).toNat)]) n' (List.cons_ne_nil _ _)
  have a3:atI [V.int 0,V.int (-1),V.int (0 - 10 ^ (29:Int).toNat)] (n' % 3)=some v3:=a3
  have l3:j3<3:=(List.getElem?_eq_some_iff.mp e3).1
  have:j3=0∨j3=1∨j3=2:=by omega
  rcases this with rfl | rfl | rfl <;> cases e3
  ·exact⟨0,by decide,a3⟩
  ·exact⟨-1,by decide,a3⟩
  ·exact⟨_,by decide +kernel,a3⟩
 refine⟨l3,_,_,_,rfl,rfl,SqL.of el3,apb,?_⟩
 wtm_at "zw"
 refine⟨xF (show 4≤1000000 by decide),fun b1 hb1=>?_⟩
 have Sb1:=qV hb1 (.tup [V.str d.name,V.int pb,nv,V.ref wa])
 have eb1:upd H3 b1 (.tup [V.str d.name,V.int pb,nv,V.ref wa]) b1=some (.tup [V.str d.name,V.int pb,nv,V.ref wa]):=qW
 generalize upd H3 b1 (.tup [V.str d.name,V.int pb,nv,V.ref wa])=H4 at Sb1 eb1
 have S4:=Sl3.trans Sb1
 wtm_at "zw"
 refine⟨BadI H ws [some (.ref dx),some (.ref wd),some (.str x),some (.int n'),some (.int (j:Int)),some (.str d.name),some (.int d.price),some nv,some (.ref wa),some (.int (n % 8)),none,none],?_,?_⟩
 ·wtm_at "zw"
  by_cases h3:n % 8=3
  ·refine zF (decide_eq_true (by rw[h3])) ?_
   wtm_at "zw"
   refine⟨xF (show 0≤1000000 by decide),fun l4 hl4=>?_⟩
   have Sl4:=qV hl4 (.lst [])
   have el4:upd H4 l4 (.lst []) l4=some (.lst []):=qW
   generalize upd H4 l4 (.lst [])=H5 at Sl4 el4
   wtm_at "zw"
   refine⟨xF (show 4≤1000000 by decide),fun b2 hb2=>?_⟩
   have Sb2:=qV hb2 (.tup [V.str d.name,V.int d.price,nv,V.ref l4])
   have eb2:upd H5 b2 (.tup [V.str d.name,V.int d.price,nv,V.ref l4]) b2=some (.tup [V.str d.name,V.int d.price,nv,V.ref l4]):=qW
   generalize upd H5 b2 (.tup [V.str d.name,V.int d.price,nv,V.ref l4])=H6 at Sb2 eb2
   have S6:=S4.trans (Sl4.trans Sb2)
   exact⟨b2,⟨d.name,d.price,d.need,[]⟩,_,_,rfl,S6,⟨b2,nv,l4,[],rfl,eb2,nat.mono (qC S6),Sb2 _ _ el4,.nil⟩,⟨dF.sh,dF.need,by show 0≤100;decide,fun wy h=>by cases h⟩,fun g=>g.ne rfl⟩
  ·refine zY (decide_eq_false (by intro z;injection z with z;exact h3 z)) ?_
   exact⟨b1,⟨d.name,pb,d.need,d.ways⟩,_,_,rfl,S4,⟨b1,nv,wa,wu,rfl,eb1,nat.mono (qC S4),S4 _ _ ewa,Paired.mapP pw fun _ _ y=>y.same S4⟩,⟨dF.sh,dF.need,dF.le,dF.ways⟩,fun g=>by have:1≤pb:=g.price;omega⟩
 rintro _ H' ⟨bd,d',z1,z2,rfl,S',dI,dFi,ng⟩
 wtm_at "zw"
 refine⟨BadI H ws [some (.ref dx),some (.ref wd),some (.str x),some (.int n'),some (.int (j:Int)),some (.str d.name),some (.int d.price),some nv,some (.ref wa),some (.int (n % 8)),none,none],?_,?_⟩
 ·wtm_at "zw"
  by_cases h4:n % 8=4
  ·refine zF (decide_eq_true (by rw[h4])) ?_
   wtm_at "zw"
   refine⟨d.need,nv,x,n',rfl,nat.mono (qC S'),dF.need.ok,dF.need.dp,fun t' u H5 S5 tat mis=>?_⟩
   wtm_at "zw"
   refine⟨xF (show 4≤1000000 by decide),fun b2 hb2=>?_⟩
   have Sb2:=qV hb2 (.tup [V.str d.name,V.int d.price,u,V.ref wa])
   have eb2:upd H5 b2 (.tup [V.str d.name,V.int d.price,u,V.ref wa]) b2=some (.tup [V.str d.name,V.int d.price,u,V.ref wa]):=qW
   generalize upd H5 b2 (.tup [V.str d.name,V.int d.price,u,V.ref wa])=H6 at Sb2 eb2
   have S6:=S'.trans (S5.trans Sb2)
   exact⟨b2,⟨d.name,d.price,t',d.ways⟩,_,_,rfl,S6,⟨b2,u,wa,wu,rfl,eb2,tat.mono (qC Sb2),S6 _ _ ewa,Paired.mapP pw fun _ _ y=>y.same S6⟩,⟨dF.sh,mis.fit dF.need wo.sx,dF.le,dF.ways⟩,fun g=>wo.no (g.need x mis.has)⟩
  ·refine zY (decide_eq_false (by intro z;injection z with z;exact h4 z)) ?_
   exact⟨bd,d',z1,z2,rfl,S',dI,dFi,ng⟩
 clear S' dI dFi ng
 rintro _ H' ⟨bd,d',z1,z2,rfl,S',dI,dFi,ng⟩
 wtm_at "zw"
 refine⟨BadI H ws [some (.ref dx),some (.ref wd),some (.str x),some (.int n'),some (.int (j:Int)),some (.str d.name),some (.int d.price),some nv,some (.ref wa),some (.int (n % 8)),none,none],?_,?_⟩
 ·wtm_at "zw"
  by_cases h5:4<n % 8
  ·refine zF (decide_eq_true h5) ?_
   have ewa':=S' _ _ ewa
   have wne:wu≠[]:=fun z=>by rw[z,List.length_nil] at lwu;exact dwne (List.length_eq_zero_iff.mp lwu)
   have wup:=List.length_pos_iff.mpr wne
   obtain⟨k,wv,ek,emk,ak⟩:=yT (us:=wu) n' wne
   obtain⟨wy,ewy⟩:∃b,d.ways[k]? = some b:=⟨_,List.getElem?_eq_getElem (by rw[lwu];exact(List.getElem?_eq_some_iff.mp ek).1)⟩
   have kl:k<wu.length:=(List.getElem?_eq_some_iff.mp ek).1
   obtain⟨ya,cs,rfl,eya,pc⟩:=xV pw ewy ek
   have hwy:=List.mem_of_getElem? ewy
   have wle:=dF.le
   wtm_at "zw"
   refine w_I (show(0:Int)<((wu.length:Nat):Int) by omega) ?_
   rw[emk] at ak ⊢
   wtm_at "zw"
   refine w_I ⟨by decide,by decide +kernel⟩ ?_
   wtm_at "zw"
   have wo':=wo.same S'
   refine⟨ya,wd,cs,wy,ws,x,_,rfl,S' _ _ eya,Paired.mapP pc fun _ _ y=>y.same S',dF.ways wy hwy,wo'.at',wo'.ne,wo'.sh,wo'.sx,wo'.no,fun r wy' cs' H5 S5 er pr wf' wng=>?_⟩
   have S15:=S'.trans S5
   have ewa5:=S15 _ _ ewa
   wtm_at "zw"
   refine⟨wa,wu,rfl,SqL.of ewa5,fun p1 hp1=>?_⟩
   rw[qZd (Nat.le_of_lt kl)]
   have Sp1:=qV hp1 (.lst (wu.take k))
   have ep1:upd H5 p1 (.lst (wu.take k)) p1=some (.lst (wu.take k)):=qW
   generalize upd H5 p1 (.lst (wu.take k))=H6 at Sp1 ep1
   wtm_at "zw"
   refine⟨xF (show 1≤1000000 by decide),fun p2 hp2=>?_⟩
   have Sp2:=qV hp2 (.lst [V.ref r])
   have ep2:upd H6 p2 (.lst [V.ref r]) p2=some (.lst [V.ref r]):=qW
   generalize upd H6 p2 (.lst [V.ref r])=H7 at Sp2 ep2
   refine⟨p1,p2,_,_,rfl,rfl,Sp2 _ _ ep1,ep2,xF (by rw[List.length_take];show _+1≤1000000;omega),fun p3 hp3=>?_⟩
   have Sp3:=qV hp3 (.lst (wu.take k++[V.ref r]))
   have ep3:upd H7 p3 (.lst (wu.take k++[V.ref r])) p3=some (.lst (wu.take k++[V.ref r])):=qW
   generalize upd H7 p3 (.lst (wu.take k++[V.ref r]))=H8 at Sp3 ep3
   have S18:=S15.trans (Sp1.trans (Sp2.trans Sp3))
   have ewa8:=S18 _ _ ewa
   wtm_at "zw"
   have ek1:((k:Int)+1)=((k+1:Nat):Int):=by omega
   refine⟨wa,wu,rfl,SqL.of ewa8,fun p4 hp4=>?_⟩
   rw[ek1,kP (by omega)]
   have Sp4:=qV hp4 (.lst (wu.drop (k+1)))
   have ep4:upd H8 p4 (.lst (wu.drop (k+1))) p4=some (.lst (wu.drop (k+1))):=qW
   generalize upd H8 p4 (.lst (wu.drop (k+1)))=H9 at Sp4 ep4
   refine⟨p3,p4,_,_,rfl,rfl,Sp4 _ _ ep3,ep4,xF (by rw[List.length_append,List.length_take,List.length_drop];show _+1+_≤1000000;omega),fun p5 hp5=>?_⟩
   have Sp5:=qV hp5 (.lst (wu.take k++[V.ref r]++wu.drop (k+1)))
   have ep5:upd H9 p5 (.lst (wu.take k++[V.ref r]++wu.drop (k+1))) p5=some (.lst (wu.take k++[V.ref r]++wu.drop (k+1))):=qW
   generalize upd H9 p5 (.lst (wu.take k++[V.ref r]++wu.drop (k+1)))=H10 at Sp5 ep5
   rw[List.append_assoc] at ep5
   wtm_at "zw"
   refine⟨xF (show 4≤1000000 by decide),fun b2 hb2=>?_⟩
   have Sb2:=qV hb2 (.tup [V.str d.name,V.int d.price,nv,V.ref p5])
   have eb2:upd H10 b2 (.tup [V.str d.name,V.int d.price,nv,V.ref p5]) b2=some (.tup [V.str d.name,V.int d.price,nv,V.ref p5]):=qW
   generalize upd H10 b2 (.tup [V.str d.name,V.int d.price,nv,V.ref p5])=H11 at Sb2 eb2
   have S511:=Sp1.trans (Sp2.trans (Sp3.trans (Sp4.trans (Sp5.trans Sb2))))
   have S11:=S15.trans S511
   refine⟨b2,⟨d.name,d.price,d.need,d.ways.take k++wy'::d.ways.drop (k+1)⟩,_,_,rfl,S11,⟨b2,nv,p5,_,rfl,eb2,nat.mono (qC S11),Sb2 _ _ ep5,wV k (Paired.mapP pw fun _ _ y=>y.same S11) ⟨r,cs',rfl,S511 _ _ er,Paired.mapP pr fun _ _ y=>y.same S511⟩⟩,⟨dF.sh,dF.need,?_,fun wz hz=>?_⟩,fun g=>wng (g.ways wy' (List.mem_append.mpr (.inr List.mem_cons_self)))⟩
   ·show(d.ways.take k++wy'::d.ways.drop (k+1)).length≤100
    rw[List.length_append,List.length_cons,List.length_take,List.length_drop];omega
   ·exact(qBg hz).elim (fun e=>e▸wf') (dF.ways wz)
  ·refine zY (decide_eq_false h5) ?_
   exact⟨bd,d',z1,z2,rfl,S',dI,dFi,ng⟩
 clear S' dI dFi ng
 rintro _ H' ⟨bd,d',z1,z2,rfl,S',dI,dFi,ng⟩
 have edx':=S' _ _ edx
 wtm_at "zw"
 refine⟨dx,du,rfl,SqL.of edx',fun p1 hp1=>?_⟩
 rw[qZd (Nat.le_of_lt jl)]
 have Sp1:=qV hp1 (.lst (du.take j))
 have ep1:upd H' p1 (.lst (du.take j)) p1=some (.lst (du.take j)):=qW
 generalize upd H' p1 (.lst (du.take j))=H6 at Sp1 ep1
 wtm_at "zw"
 refine⟨xF (show 1≤1000000 by decide),fun p2 hp2=>?_⟩
 have Sp2:=qV hp2 (.lst [V.ref bd])
 have ep2:upd H6 p2 (.lst [V.ref bd]) p2=some (.lst [V.ref bd]):=qW
 generalize upd H6 p2 (.lst [V.ref bd])=H7 at Sp2 ep2
 refine⟨p1,p2,_,_,rfl,rfl,Sp2 _ _ ep1,ep2,xF (by rw[List.length_take];show _+1≤1000000;omega),fun p3 hp3=>?_⟩
 have Sp3:=qV hp3 (.lst (du.take j++[V.ref bd]))
 have ep3:upd H7 p3 (.lst (du.take j++[V.ref bd])) p3=some (.lst (du.take j++[V.ref bd])):=qW
 generalize upd H7 p3 (.lst (du.take j++[V.ref bd]))=H8 at Sp3 ep3
 have S18:=S'.trans (Sp1.trans (Sp2.trans Sp3))
 have edx8:=S18 _ _ edx
 wtm_at "zw"
 have ek1:((j:Int)+1)=((j+1:Nat):Int):=by omega
 refine⟨dx,du,rfl,SqL.of edx8,fun p4 hp4=>?_⟩
 rw[ek1,kP (by omega)]
 have Sp4:=qV hp4 (.lst (du.drop (j+1)))
 have ep4:upd H8 p4 (.lst (du.drop (j+1))) p4=some (.lst (du.drop (j+1))):=qW
 generalize upd H8 p4 (.lst (du.drop (j+1)))=H9 at Sp4 ep4
 refine⟨p3,p4,_,_,rfl,rfl,Sp4 _ _ ep3,ep4,xF (by rw[List.length_append,List.length_take,List.length_drop];show _+1+_≤1000000;omega),fun p5 hp5=>?_⟩
 have Sp5:=qV hp5 (.lst (du.take j++[V.ref bd]++du.drop (j+1)))
 have ep5:upd H9 p5 (.lst (du.take j++[V.ref bd]++du.drop (j+1))) p5=some (.lst (du.take j++[V.ref bd]++du.drop (j+1))):=qW
 generalize upd H9 p5 (.lst (du.take j++[V.ref bd]++du.drop (j+1)))=H10 at Sp5 ep5
 rw[List.append_assoc] at ep5
 have S510:=Sp1.trans (Sp2.trans (Sp3.trans (Sp4.trans Sp5)))
 have S10:=S'.trans S510
 refine q p5 (ds.take j++d'::ds.drop (j+1)) _ H10 S10 ep5 (wV j (Paired.mapP pd fun _ _ y=>y.same S10) (dI.same S510)) ?_ (fun c hc=>(qBg hc).elim (fun e=>e▸dFi) fun h=>(df c h).1) (.inr ⟨d',List.mem_append.mpr (.inr List.mem_cons_self),ng⟩)
 rw[List.length_append,List.length_cons,List.length_take,List.length_drop];omega

theorem zC:xM ["deeds","looks","strange","number","part","kind","at","name","price"] ["deeds","looks","strange","number"] (xB (top 57)):=⟨rfl,rfl,rfl,by decide +kernel,rfl,by decide +kernel,by decide +kernel⟩
noncomputable def LookG (ws:List Str)(l:Look):Prop:=1≤l.price∧∀x∈l.part.names,x∈ws
noncomputable def LookF (l:Look):Prop:=Short l.name∧Fit l.part
noncomputable def qKw:Sp:=fun vs H Q _=>∃(dx lx:Addr) (du lu:List V) (ds:List Deed) (ls:List Look) (ws:List Str) (x:Str) (n:Int),vs=[.ref dx,.ref lx,.str x,.int n]∧H dx=some (.lst du)∧Paired (DeedIn H) ds du∧H lx=some (.lst lu)∧Paired (LookIn H) ls lu∧ls.length≤100∧
 (∀d∈ds,Short d.name)∧(∀l∈ls,LookF l)∧Short x∧x∉ws∧
 ∀(r:Addr) (ls':List Look) (lu':List V) (H':Hp),Same H H'→H' r=some (.lst lu')→Paired (LookIn H') ls' lu'→ls'.length≤101→(∀l∈ls',LookF l)→(¬(ds.map Deed.name++ls'.map Look.name).Nodup∨∃l∈ls',¬LookG ws l)→Q (.ref r) H'
theorem qIo {t:TT}{a b:TS}{D:Ends}{σ:St}{H:Hp}(c:Bool)(ht:∀R:Bool→Hp→Prop,(∀H',Same H H'→R c H')→t σ H R)(h:∀H',Same H H'→if c=true then a D σ H' else b D σ H'):tIfS t a b D σ H:=ht _ h
theorem qEh {σ:St}{H:Hp}{l:Addr}{us:List V}{k i:Int}{j1 j2:Nat}(h1:σ[j1]? = some (some (.int k)))(h2:σ[j2]? = some (some (.ref l)))(el:H l=some (.lst us))(R:Bool→Hp→Prop)(hR:∀H',Same H H'→R (decide (k=i) && !us.isEmpty) H'):
  tAnd (tTest (tOp rEq (tVar j1) (tC (V.int i)))) (tTest (tOp (rNeE K) (tVar j2) (tLst tNil))) σ H R:=by
 refine⟨_,h1,rfl,_,rfl,?_⟩
 by_cases e:k=i
 ·rw[decide_eq_true (congrArg V.int e)]
  refine iteT ⟨_,h2,xF (show 0≤1000000 by decide),fun p hp=>?_⟩
  have:=hR _ (qV hp (.lst []))
  rw[decide_eq_true e,Bool.true_and] at this
  exact⟨l,p,us,rfl,rfl,SqL.of (qV hp _ _ _ el),SqL.of qW,_,rfl,this⟩
 ·rw[decide_eq_false (fun z=>e (by injection z))]
  have:=hR _ (Same.refl _)
  rw[decide_eq_false e,Bool.false_and] at this
  exact iteF this
theorem qSb {σ:St}{H:Hp}{l:Addr}{us:List V}{k i:Int}{j1 j2:Nat}(h1:σ[j1]? = some (some (.int k)))(h2:σ[j2]? = some (some (.ref l)))(el:H l=some (.lst us))(R:Bool→Hp→Prop)(hR:∀H',Same H H'→R (decide (k=i) || us.isEmpty) H'):
  tOr (tTest (tOp rEq (tVar j1) (tC (V.int i)))) (tTest (tOp (rEqE K) (tVar j2) (tLst tNil))) σ H R:=by
 refine⟨_,h1,rfl,_,rfl,?_⟩
 by_cases e:k=i
 ·rw[decide_eq_true (congrArg V.int e)]
  have:=hR _ (Same.refl _)
  rw[decide_eq_true e,Bool.true_or] at this
  exact iteT this
 ·rw[decide_eq_false (fun z=>e (by injection z))]
  refine iteF ⟨_,h2,xF (show 0≤1000000 by decide),fun p hp=>?_⟩
  have:=hR _ (qV hp (.lst []))
  rw[decide_eq_false e,Bool.false_or] at this
  exact⟨l,p,us,rfl,rfl,SqL.of (qV hp _ _ _ el),SqL.of qW,_,rfl,this⟩
theorem three (n:Int):∃p:Int,p<1∧atI [V.int 0,V.int (-1),V.int (0 - 10 ^ (29:Int).toNat)] (n % 3)=some (.int p):=by
 obtain⟨j3,v3,e3,_,a3⟩:=yT (us:=[V.int 0,V.int (-1),V.int (0 - 10 ^ (29:Int).toNat)]) n (List.cons_ne_nil _ _)
 have a3:atI [V.int 0,V.int (-1),V.int (0 - 10 ^ (29:Int).toNat)] (n % 3)=some v3:=a3
 have l3:j3<3:=(List.getElem?_eq_some_iff.mp e3).1
 have:j3=0∨j3=1∨j3=2:=by omega
 rcases this with rfl | rfl | rfl <;> cases e3
 ·exact⟨0,by decide,a3⟩
 ·exact⟨-1,by decide,a3⟩
 ·exact⟨_,by decide +kernel,a3⟩
theorem qFj:Short (Str.ofString "zoe"):=by unfold Short;decide +kernel
theorem qDl (F:Fd K mg "_law_bad_look" (top 57) ["deeds","looks","strange","number"])(B:Bl mg)(D_law_put_in:Dn P w K mg base "_law_put_in" 1 ["things","thing","number"] vR)(D_law_misnamed:Dn P w K mg base "_law_misnamed" 14 ["thing","strange","number"] spMis):Dn P w K mg base "_law_bad_look" 15 ["deeds","looks","strange","number"] qKw:=by
 refine F.ok zC (fun vs H Q E h=>?_) (fun f cdv A outer s H vs Q E hr h=>?_)
 ·obtain⟨_,_,_,_,_,_,_,_,_,rfl,_⟩:=h
  rfl
 obtain⟨dx,lx,du,lu,ds,ls,ws,x,n,rfl,edx,pd,elx,pl,l100,dsh,lf,sx,xno,q⟩:=h
 have ld:ds.length=du.length:=pd.length
 have ll:ls.length=lu.length:=pl.length
 refine⟨_,(qZ (qN (i:=4) zC.nd rfl (by wtm_at "zo") (xG (qQ qG (qQ (xX xT (xX xO (pv 3) qF) qF) qX))))
  (qZ (qN (i:=5) zC.nd rfl (by wtm_at "zo") (xX xT (pv 3) qF))
  (qZ (zK (PW.pt (qKe (qS zM (pv 5) qF (xE _)) (qXe (qS (qXh (K:=K) hr.units) (pv 0) (xI qX) (xE _))))) (qJ (qO (qD D_law_put_in hr (qQ (xP (zJ (K:=K)) (pv 1) zZ (zQ qF)) (qQ (xG (qQ (xH (qT (K:=K)) (xH (qU (K:=K)) (pv 0) (xX xT (xX xO (pv 3) qF) (xJ (xR (K:=K)) rfl B.len' zH (qQ (pv 0) qX))) (fun _ _=>rfl)) qF (fun _ _=>rfl)) (qQ qF (qQ (pv 4) qX)))) (qQ (xX xO (pv 3) qF) qX)))))) qY)
  (qZ (zK (PW.pt (qKe (qS zM (pv 5) qF (xE _)) (qXe (qS (qXh (K:=K) hr.units) (pv 1) (xI qX) (xE _))))) (qJ (qO (qD D_law_put_in hr (qQ (xP (zJ (K:=K)) (pv 1) zZ (zQ qF)) (qQ (xG (qQ (xH (qT (K:=K)) (xH (qU (K:=K)) (pv 1) (xX xT (xX xO (pv 3) qF) (xJ (wH rfl) rfl B.min' qCv (qQ qF (qQ (xJ (xR (K:=K)) rfl B.len' zH (qQ (pv 1) qX)) qX)))) (fun _ _=>rfl)) qF (fun _ _=>rfl)) (qQ qF (qQ (pv 4) qX)))) (qQ (xX xO (pv 3) qF) qX)))))) qY)
  (qZ (zK (PW.pt (qWg (qS zM (pv 5) qF (xE _)) (qJj (qS (qXl (K:=K) hr.units) (pv 1) (xI qX) (xE _))))) (qJ (qO (qD D_law_put_in hr (qQ (xP (zJ (K:=K)) (pv 1) zZ (zQ qF)) (qQ (xG (qQ qG (qQ (xH (qU (K:=K)) (xI (qQ qF (qQ (qYb wZ qF) (qQ (xX kY qF (xX yB qF qF)) qX)))) (xX xT (pv 3) qF) (fun _ _=>rfl)) (qQ (pv 4) qX)))) (qQ (xX xO (pv 3) qF) qX)))))) qY)
  (qZ (qN (i:=6) zC.nd rfl (by wtm_at "zo") (xX xT (xX xO (pv 3) qF) (xJ (xR (K:=K)) rfl B.len' zH (qQ (pv 1) qX))))
  (qZ (qP (xH (qU (K:=K)) (pv 1) (pv 6) (fun _ _=>rfl)) (jV (K:=K) (n:=3) rfl (qI (qH (i:=7) zC.nd rfl (by wtm_at "zo")) (qI (qH (i:=8) zC.nd rfl (by wtm_at "zo")) (qI (qH (i:=4) zC.nd rfl (by wtm_at "zo")) qM)))))
  (qJ (qO (xX jC (xX jC (xP (zJ (K:=K)) (pv 1) zZ (zQ (pv 6))) (xI (qQ (xG (qQ (pv 7) (qQ (pv 8) (qQ (qD D_law_misnamed hr (qQ (pv 4) (qQ (pv 2) (qQ (xX xO (pv 3) qF) qX)))) qX)))) qX))) (xP (zJ (K:=K)) (pv 1) (zQ (xX zB (pv 6) qF)) zZ))))))))))),?_⟩
 wtm_at "zw"
 refine w_I ⟨by decide,by decide +kernel⟩ ?_
 wtm_at "zw"
 refine w_I (by decide) ?_
 generalize n / 40 % 10=m
 wtm_at "zw"
 refine⟨xF (show 2≤1000000 by decide),fun pt hpt=>?_⟩
 have Spt:=qV hpt (.tup [V.str (Str.ofString "number"),V.int m])
 have ept:upd H pt (.tup [V.str (Str.ofString "number"),V.int m]) pt=some (.tup [V.str (Str.ofString "number"),V.int m]):=qW
 generalize upd H pt (.tup [V.str (Str.ofString "number"),V.int m])=H1 at Spt ept
 wtm_at "zw"
 refine w_I (by decide) ?_
 repeat (with_reducible first | apply L2.qYm | apply L2.qEb)
 refine qIo _ (qEh rfl rfl (Spt _ _ edx)) fun H2 S2=>?_
 have S12:=Spt.trans S2
 have ept2:=S2 _ _ ept
 clear Spt ept S2
 have edx2:=S12 _ _ edx
 have elx2:=S12 _ _ elx
 have p5:=jW 5 pl
 have c5:cutV lu none (some 5)=lu.take 5:=qQq _ 5
 have fin:∀(y:Str) (pr:Int) (p1:Addr) (H3 H4:Hp) (a:Addr),Same H2 H3→Same H3 H4→H3 p1=some (.lst (lu.take 5))→H4 a=some (.tup [.str y,.int pr,.ref pt])→Short y→
   (∀k,¬(ds.map Deed.name++((ls.take 5).take k++(⟨y,pr,.num m⟩:Look)::(ls.take 5).drop k).map Look.name).Nodup∨pr<1)→∀i:Int,vR [.ref p1,.ref a,.int i] H4 Q E0:=fun y pr p1 H3 H4 a S3 S4 e1 ea sy hbad i=>by
  refine⟨p1,_,_,_,rfl,S4 _ _ e1,by rw[List.length_take];omega,fun r k H5 S5 _ er=>?_⟩
  have S25:=S3.trans (S4.trans S5)
  have S15:=S12.trans S25
  refine q r _ _ H5 S15 er (vX k (Paired.mapP p5 fun _ _ y=>y.same S15) (x:=(⟨y,pr,.num m⟩:Look)) ⟨a,.ref pt,rfl,S5 _ _ ea,pt,rfl,S25 _ _ ept2⟩) ?_ (fun c hc=>?_) ?_
  ·rw[List.length_append,List.length_cons,List.length_take,List.length_drop,List.length_take];omega
  ·rcases qVx hc with rfl | h
   ·exact⟨sy,qYf m⟩
   ·exact lf c (List.mem_of_mem_take h)
  ·refine(hbad k).imp id fun h=>⟨_,List.mem_append.mpr (.inr List.mem_cons_self),fun g=>?_⟩
   have:1≤pr:=g.1
   omega
 by_cases c0:n % 4=0∧du≠[]
 ·refine zF (by rw[decide_eq_true c0.1];cases du with | nil=>exact absurd rfl c0.2 | cons _ _=>rfl) ?_
  obtain⟨j,v,ej,_,aj⟩:=yT (n / 4) c0.2
  obtain⟨d,ed⟩:∃b,ds[j]? = some b:=⟨_,List.getElem?_eq_getElem (by rw[ld];exact(List.getElem?_eq_some_iff.mp ej).1)⟩
  obtain⟨da,nv,wa,wu,rfl,ea,_⟩:=xV pd ed ej
  have hd:=List.mem_of_getElem? ed
  wtm_at "zw"
  refine⟨lx,lu,rfl,SqL.of elx2,fun p1 hp1=>?_⟩
  rw[c5]
  have Sp1:=qV hp1 (.lst (lu.take 5))
  have ep1:upd H2 p1 (.lst (lu.take 5)) p1=some (.lst (lu.take 5)):=qW
  generalize upd H2 p1 (.lst (lu.take 5))=H3 at Sp1 ep1
  have edx3:=Sp1 _ _ edx2
  have ea3:=Sp1 _ _ (S12 _ _ ea)
  wtm_at "zw"
  refine w_I ⟨by decide,by decide +kernel⟩ ?_
  wtm_at "zw"
  refine w_I (show(0:Int)<((du.length:Nat):Int) by have:=List.length_pos_iff.mpr c0.2;omega) ?_
  wtm_at "zw"
  refine⟨xF (show 3≤1000000 by decide),fun a1 ha1=>?_⟩
  have Sa1:=qV ha1 (.tup [V.str d.name,V.int 1,.ref pt])
  have ea1:upd H3 a1 (.tup [V.str d.name,V.int 1,.ref pt]) a1=some (.tup [V.str d.name,V.int 1,.ref pt]):=qW
  generalize upd H3 a1 (.tup [V.str d.name,V.int 1,.ref pt])=H4 at Sa1 ea1
  wtm_at "zw"
  refine w_I ⟨by decide,by decide +kernel⟩ ?_
  refine fin d.name 1 p1 H3 H4 a1 Sp1 Sa1 ep1 ea1 (dsh d hd) (fun k=>.inl fun nd=>?_) _
  exact(List.nodup_append.mp nd).2.2 _ (List.mem_map.mpr ⟨d,hd,rfl⟩) _ (List.mem_map.mpr ⟨_,List.mem_append.mpr (.inr List.mem_cons_self),rfl⟩) rfl
 refine zY (by
  by_cases h:n % 4=0
  ·cases du with
   | nil=>rw[List.isEmpty_nil,Bool.not_true,Bool.and_false]
   | cons _ _=>exact absurd ⟨h,List.cons_ne_nil _ _⟩ c0
  ·rw[decide_eq_false h,Bool.false_and]) ?_
 repeat (with_reducible first | apply L2.qAi | apply L2.qYm | apply L2.qEb)
 refine qIo _ (qEh rfl rfl elx2) fun H3 S3=>?_
 have S13:=S12.trans S3
 have elx3:=S3 _ _ elx2
 by_cases c1:n % 4=1∧lu≠[]
 ·refine zF (by rw[decide_eq_true c1.1];cases lu with | nil=>exact absurd rfl c1.2 | cons _ _=>rfl) ?_
  have lup:=List.length_pos_iff.mpr c1.2
  wtm_at "zw"
  refine⟨lx,lu,rfl,SqL.of elx3,fun p1 hp1=>?_⟩
  rw[c5]
  have Sp1:=qV hp1 (.lst (lu.take 5))
  have ep1:upd H3 p1 (.lst (lu.take 5)) p1=some (.lst (lu.take 5)):=qW
  generalize upd H3 p1 (.lst (lu.take 5))=H4 at Sp1 ep1
  have elx4:=Sp1 _ _ elx3
  wtm_at "zw"
  refine w_I ⟨by decide,by decide +kernel⟩ ?_
  wtm_at "zw"
  refine⟨_,_,rfl,?_⟩
  generalize hm:(if ((lu.length:Nat):Int)<5 then ((lu.length:Nat):Int) else 5)=m5
  have m0:0<m5∧m5≤((lu.length:Nat):Int)∧m5≤5:=by subst hm;split <;> omega
  refine w_I m0.1 ?_
  have a0:=Int.emod_nonneg (n / 4) (b:=m5) (by omega)
  have a1:=Int.emod_lt_of_pos (n / 4) m0.1
  obtain⟨j,ej⟩:∃j:Nat,n / 4 % m5=(j:Int):=⟨(n / 4 % m5).toNat,by omega⟩
  rw[ej] at a1 ⊢
  have jl:j<lu.length:=by omega
  obtain⟨v,ev⟩:∃v,lu[j]? = some v:=⟨_,List.getElem?_eq_getElem jl⟩
  obtain⟨l,el⟩:∃b,ls[j]? = some b:=⟨_,List.getElem?_eq_getElem (by omega)⟩
  obtain⟨la,lv,rfl,ela,_⟩:=xV pl el ev
  have ela4:=Sp1 _ _ (S13 _ _ ela)
  wtm_at "zw"
  refine⟨xF (show 3≤1000000 by decide),fun b1 hb1=>?_⟩
  have Sb1:=qV hb1 (.tup [V.str l.name,V.int 2,.ref pt])
  have eb1:upd H4 b1 (.tup [V.str l.name,V.int 2,.ref pt]) b1=some (.tup [V.str l.name,V.int 2,.ref pt]):=qW
  generalize upd H4 b1 (.tup [V.str l.name,V.int 2,.ref pt])=H5 at Sb1 eb1
  wtm_at "zw"
  refine w_I ⟨by decide,by decide +kernel⟩ ?_
  have h5:l∈ls.take 5:=List.mem_of_getElem? (i:=j) (by rw[List.getElem?_take,if_pos (by omega)];exact el)
  exact fin l.name 2 p1 H4 H5 b1 (S3.trans Sp1) Sb1 ep1 eb1 (lf l (List.mem_of_getElem? el)).1 (fun k=>.inl fun nd=>qBn (x:=(⟨l.name,2,.num m⟩:Look)) h5 rfl (List.nodup_append.mp nd).2.1) _
 refine zY (by
  by_cases h:n % 4=1
  ·cases lu with
   | nil=>rw[List.isEmpty_nil,Bool.not_true,Bool.and_false]
   | cons _ _=>exact absurd ⟨h,List.cons_ne_nil _ _⟩ c1
  ·rw[decide_eq_false h,Bool.false_and]) ?_
 repeat (with_reducible first | apply L2.qAi | apply L2.qYm | apply L2.qEb)
 refine qIo _ (qSb rfl rfl elx3) fun H4 S4=>?_
 have S14:=S13.trans S4
 have elx4:=S4 _ _ elx3
 by_cases c2:n % 4=2∨lu=[]
 ·refine zF (by
   rcases c2 with h | h
   ·rw[decide_eq_true h,Bool.true_or]
   ·rw[h,List.isEmpty_nil,Bool.or_true]) ?_
  wtm_at "zw"
  refine⟨lx,lu,rfl,SqL.of elx4,fun p1 hp1=>?_⟩
  rw[c5]
  have Sp1:=qV hp1 (.lst (lu.take 5))
  have ep1:upd H4 p1 (.lst (lu.take 5)) p1=some (.lst (lu.take 5)):=qW
  generalize upd H4 p1 (.lst (lu.take 5))=H5 at Sp1 ep1
  wtm_at "zw"
  refine w_I ⟨by decide,by decide,by decide +kernel⟩ ?_
  wtm_at "zw"
  refine⟨xF (show 3≤1000000 by decide),fun l3 hl3=>?_⟩
  have Sl3:=qV hl3 (.lst [V.int 0,V.int (-1),V.int (0 - 10 ^ (29:Int).toNat)])
  have el3:upd H5 l3 (.lst [V.int 0,V.int (-1),V.int (0 - 10 ^ (29:Int).toNat)]) l3=some (.lst [V.int 0,V.int (-1),V.int (0 - 10 ^ (29:Int).toNat)]):=qW
  generalize upd H5 l3 (.lst [V.int 0,V.int (-1),V.int (0 - 10 ^ (29:Int).toNat)])=H6 at Sl3 el3
  wtm_at "zw"
  refine w_I (by decide) ?_
  obtain⟨pb,pb1,apb⟩:=three n
  refine⟨l3,_,_,_,rfl,rfl,SqL.of el3,apb,?_⟩
  wtm_at "zw"
  refine⟨xF (show 3≤1000000 by decide),fun b1 hb1=>?_⟩
  have Sb1:=qV hb1 (.tup [V.str (Str.ofString "zoe"),V.int pb,.ref pt])
  have eb1:upd H6 b1 (.tup [V.str (Str.ofString "zoe"),V.int pb,.ref pt]) b1=some (.tup [V.str (Str.ofString "zoe"),V.int pb,.ref pt]):=qW
  generalize upd H6 b1 (.tup [V.str (Str.ofString "zoe"),V.int pb,.ref pt])=H7 at Sb1 eb1
  wtm_at "zw"
  refine w_I ⟨by decide,by decide +kernel⟩ ?_
  exact fin (Str.ofString "zoe") pb p1 H5 H7 b1 (S3.trans (S4.trans Sp1)) (Sl3.trans Sb1) ep1 eb1 qFj (fun k=>.inr pb1) _
 have lne:lu≠[]:=fun z=>c2 (.inr z)
 refine zY (by
  rw[decide_eq_false (fun h=>c2 (.inl h)),Bool.false_or]
  cases lu with
  | nil=>exact absurd rfl lne
  | cons _ _=>rfl) ?_
 have lup:=List.length_pos_iff.mpr lne
 wtm_at "zw"
 refine w_I ⟨by decide,by decide +kernel⟩ ?_
 wtm_at "zw"
 refine w_I (show(0:Int)<((lu.length:Nat):Int) by omega) ?_
 obtain⟨j,v,ej,em,aj⟩:=yT (n / 4) lne
 rw[em] at aj ⊢
 obtain⟨l,el⟩:∃b,ls[j]? = some b:=⟨_,List.getElem?_eq_getElem (by rw[ll];exact(List.getElem?_eq_some_iff.mp ej).1)⟩
 have jl:j<lu.length:=(List.getElem?_eq_some_iff.mp ej).1
 obtain⟨la,lv,rfl,ela,lat⟩:=xV pl el ej
 have ela4:=S14 _ _ ela
 have lF:=lf l (List.mem_of_getElem? el)
 wtm_at "zw"
 refine⟨lx,lu,rfl,SqL.of elx4,fun p1 hp1=>?_⟩
 rw[qZd (Nat.le_of_lt jl)]
 have Sp1:=qV hp1 (.lst (lu.take j))
 have ep1:upd H4 p1 (.lst (lu.take j)) p1=some (.lst (lu.take j)):=qW
 generalize upd H4 p1 (.lst (lu.take j))=H5 at Sp1 ep1
 have S15:=S14.trans Sp1
 wtm_at "zw"
 refine w_I ⟨by decide,by decide +kernel⟩ ?_
 wtm_at "zw"
 refine⟨l.part,lv,x,_,rfl,lat.mono (qC S15),lF.2.ok,lF.2.dp,fun t' u H6 S6 tat mis=>?_⟩
 wtm_at "zw"
 refine⟨xF (show 3≤1000000 by decide),fun b1 hb1=>?_⟩
 have Sb1:=qV hb1 (.tup [V.str l.name,V.int l.price,u])
 have eb1:upd H6 b1 (.tup [V.str l.name,V.int l.price,u]) b1=some (.tup [V.str l.name,V.int l.price,u]):=qW
 generalize upd H6 b1 (.tup [V.str l.name,V.int l.price,u])=H7 at Sb1 eb1
 wtm_at "zw"
 refine⟨xF (show 1≤1000000 by decide),fun p2 hp2=>?_⟩
 have Sp2:=qV hp2 (.lst [V.ref b1])
 have ep2:upd H7 p2 (.lst [V.ref b1]) p2=some (.lst [V.ref b1]):=qW
 generalize upd H7 p2 (.lst [V.ref b1])=H8 at Sp2 ep2
 refine⟨p1,p2,_,_,rfl,rfl,Sp2 _ _ (Sb1 _ _ (S6 _ _ ep1)),ep2,xF (by rw[List.length_take];show _+1≤1000000;omega),fun p3 hp3=>?_⟩
 have Sp3:=qV hp3 (.lst (lu.take j++[V.ref b1]))
 have ep3:upd H8 p3 (.lst (lu.take j++[V.ref b1])) p3=some (.lst (lu.take j++[V.ref b1])):=qW
 generalize upd H8 p3 (.lst (lu.take j++[V.ref b1]))=H9 at Sp3 ep3
 have S19:=S15.trans (S6.trans (Sb1.trans (Sp2.trans Sp3)))
 have elx9:=S19 _ _ elx
 wtm_at "zw"
 have ek1:((j:Int)+1)=((j+1:Nat):Int):=by omega
 refine⟨lx,lu,rfl,SqL.of elx9,fun p4 hp4=>?_⟩
 rw[ek1,kP (by omega)]
 have Sp4:=qV hp4 (.lst (lu.drop (j+1)))
 have ep4:upd H9 p4 (.lst (lu.drop (j+1))) p4=some (.lst (lu.drop (j+1))):=qW
 generalize upd H9 p4 (.lst (lu.drop (j+1)))=H10 at Sp4 ep4
 refine⟨p3,p4,_,_,rfl,rfl,Sp4 _ _ ep3,ep4,xF (by rw[List.length_append,List.length_take,List.length_drop];show _+1+_≤1000000;omega),fun p5 hp5=>?_⟩
 have Sp5:=qV hp5 (.lst (lu.take j++[V.ref b1]++lu.drop (j+1)))
 have ep5:upd H10 p5 (.lst (lu.take j++[V.ref b1]++lu.drop (j+1))) p5=some (.lst (lu.take j++[V.ref b1]++lu.drop (j+1))):=qW
 generalize upd H10 p5 (.lst (lu.take j++[V.ref b1]++lu.drop (j+1)))=H11 at Sp5 ep5
 rw[List.append_assoc] at ep5
 have S711:=Sp2.trans (Sp3.trans (Sp4.trans Sp5))
 have S11:=S19.trans (Sp4.trans Sp5)
 refine q p5 (ls.take j++(⟨l.name,l.price,t'⟩:Look)::ls.drop (j+1)) _ H11 S11 ep5 (wV j (Paired.mapP pl fun _ _ y=>y.same S11) ⟨b1,u,rfl,S711 _ _ eb1,tat.mono (qC (Sb1.trans S711))⟩) ?_ (fun c hc=>(qBg hc).elim (fun e=>e▸⟨lF.1,mis.fit lF.2 sx⟩) fun h=>lf c h) (.inr ⟨_,List.mem_append.mpr (.inr List.mem_cons_self),fun g=>xno (g.2 x mis.has)⟩)
 rw[List.length_append,List.length_cons,List.length_take,List.length_drop];omega

theorem zT:xM ["boxes","number","small","at","size"] ["boxes","number"] (xB (top 58)):=⟨rfl,rfl,rfl,by decide +kernel,rfl,by decide +kernel,by decide +kernel⟩
theorem yQ:CompOk (xB (top 58)) ["boxes","number","small","at","size"] (scAt (xC (top 58)) [0] []) ["name","size"] 2 []:=
 ⟨by decide +kernel,by decide +kernel,by decide +kernel,by decide +kernel,by decide +kernel,by decide +kernel,by decide +kernel,by decide +kernel⟩
theorem kA:CompOk (xB (top 58)) ["boxes","number","small","at","size"] (scAt (xC (top 58)) [6] []) ["k","boxes","size","at"] 1 [0,4,3]:=
 ⟨by decide +kernel,by decide +kernel,by decide +kernel,by decide +kernel,by decide +kernel,by decide +kernel,by decide +kernel,by decide +kernel⟩
theorem qCi {σ:St}{H:Hp}{Q:VK}{a:Addr}{us:List V}{bs:List (Str×Int)}(ea:H a=some (.lst us))(pb:Paired (BoxIn H) bs us)(hl:bs.length≤1000)
  (q:∀(D:Addr) (ys:List V) (H':Hp),Same H H'→H' D=some (.lst ys)→Paired (BoxIn H') (bs.map fun b=>(b.1,(2:Int))) ys→Q (.ref D) H'):
  rdC 2 [] (gTup K 2 (gCons (gName 0) (gCons (gName 1) gNil))) tYes (tTup (tCons (tVar 0) (tCons (tC (.int 2)) tNil))) (Itl K a) σ H Q:=by
 have lb:us.length=bs.length:=pb.length.symm
 refine jQ (xs:=us) (fun D i ys H'=>Paired (BoxIn H') ((bs.take i).map fun b=>(b.1,(2:Int))) ys∧∀b o,H b=some o→H' b=some o) (fun D hD=>⟨.nil,qV hD _⟩)
  (fun D i ys H' _ hP=>(show Same H H' from hP.2).seq (SqL.of ea)) (fun D i x ys H' N hD hDy ex hP hN=>?_) (fun D ys H2 hD hDy hP=>?_)
 ·obtain⟨pl,hk⟩:=hP
  obtain⟨b,eb⟩:∃b,bs[i]? = some b:=⟨_,List.getElem?_eq_getElem (by rw[← lb];exact(List.getElem?_eq_some_iff.mp ex).1)⟩
  obtain⟨ba,rfl,hba⟩:=xV pb eb ex
  have ll:=pl.length
  rw[List.length_map,List.length_take] at ll
  refine⟨ba,_,rfl,SqT.of (hk _ _ hba),rfl,_,_,rfl,_,_,rfl,rfl,⟨[some (.str b.1),some (.int b.2)],rfl,rfl⟩,?_⟩
  refine⟨_,rfl,xF (show 2≤1000000 by decide),fun t ht=>?_⟩
  have eD:=qV ht (.tup [V.str b.1,V.int 2]) _ _ hDy
  refine⟨eD,small (by omega),hN _ _ qW ⟨?_,fun c o e=>?_⟩⟩
  ·have T:Tups H' (upd (upd H' t (.tup [V.str b.1,V.int 2])) D (.lst (ys++[V.ref t]))):=fun c xs e=>by
    rw[qA (kI e hDy (by intro z;cases z)),qA (qB e ht)];exact e
   rw[List.take_add_one,eb,List.map_append]
   exact Paired.snoc (xK T pl) ⟨t,rfl,by rw[qA (Ne.symm (qB hDy ht))];exact qW⟩
  ·rw[qA (qB e hD)];exact qV ht _ _ _ (hk _ _ e)
 ·obtain⟨pl,hk⟩:=hP
  rw[lb,List.take_length] at pl
  exact q D ys H2 hk hDy pl
theorem qUc {σ:St}{H:Hp}{C:Bool→Hp→Prop}(h:C true H):tYes σ H C:=h
theorem pickI {xs:List Int}{F:Int→Prop}(n:Int)(ne:xs≠[])(hx:∀x∈xs,F x):∃p:Int,F p∧atI (intsV xs) (n % ((xs.length:Nat):Int))=some (.int p):=by
 obtain⟨j,v,e,_,a⟩:=yT (us:=intsV xs) n (fun z=>ne (List.map_eq_nil_iff.mp z))
 rw[List.getElem?_map] at e
 obtain⟨y,ey,rfl⟩:=Option.map_eq_some_iff.mp e
 rw[yY] at a
 exact⟨y,hx y (List.mem_of_getElem? ey),a⟩
theorem qWw:∀y∈[Str.ofString "not",Str.ofString "and",Str.ofString "yes"],Short y∧y∈cwords:=by unfold Short;decide +kernel
noncomputable def qJx:Sp:=fun vs H Q _=>∃(bx:Addr) (bs:List (Str×Int)) (us:List V) (n:Int),vs=[.ref bx,.int n]∧H bx=some (.lst us)∧Paired (BoxIn H) bs us∧1≤bs.length∧bs.length≤6∧(∀b∈bs,Short b.1)∧
 ∀(r:Addr) (bs':List (Str×Int)) (us':List V) (H':Hp),Same H H'→H' r=some (.lst us')→Paired (BoxIn H') bs' us'→bs'.length≤6→(∀b∈bs',Short b.1)→¬BoxesG bs'→Q (.ref r) H'
theorem qAb (F:Fd K mg "_law_bad_boxes" (top 58) ["boxes","number"])(B:Bl mg)(D_law_put_in:Dn P w K mg base "_law_put_in" 1 ["things","thing","number"] vR):Dn P w K mg base "_law_bad_boxes" 2 ["boxes","number"] qJx:=by
 refine F.ok zT (fun vs H Q E h=>?_) (fun f cdv A outer s H vs Q E hr h=>?_)
 ·obtain⟨_,_,_,_,rfl,_⟩:=h
  rfl
 obtain⟨bx,bs,us,n,rfl,ebx,pb,b1,b6,bsh,q⟩:=h
 have lb:bs.length=us.length:=pb.length
 refine⟨_,(qZ (yE (i:=2) zT.nd rfl (by wtm_at "zo") rfl yQ (xQ (K:=K) (xP (zJ (K:=K)) (pv 0) zZ (zQ qF))) (fun cl fp s H=>(jV (K:=K) (n:=2) rfl (qI (qH (i:=0) yQ.nd rfl (Or.inl rfl) (.inr rfl)) (qI (qH (i:=1) yQ.nd rfl (Or.inl rfl) (.inr rfl)) qM)))) (fun cl fp s H=>jJ) (fun cl fp s H=>(xG (qQ (pv 0) (qQ qF qX)))))
  (qZ (zK (qS zM (xX xT (pv 1) qF) qF (xE _)) (qJ (qO (qD D_law_put_in hr (qQ (pv 2) (qQ (xG (qQ (xH (qT (K:=K)) (xH (qU (K:=K)) (pv 2) (xX xT (xX xO (pv 1) qF) (xJ (xR (K:=K)) rfl B.len' zH (qQ (pv 2) qX))) (fun _ _=>rfl)) qF (fun _ _=>rfl)) (qQ qF qX))) (qQ (xX xO (pv 1) qF) qX)))))) qY)
  (qZ (zK (qS zM (xX xT (pv 1) qF) qF (xE _)) (qJ (qO (qD D_law_put_in hr (qQ (pv 2) (qQ (xG (qQ (xH (qU (K:=K)) (xI (qQ qG (qQ qG (qQ qG qX)))) (xX xT (xX xO (pv 1) qF) qF) (fun _ _=>rfl)) (qQ qF qX))) (qQ (xX xO (pv 1) qF) qX)))))) qY)
  (qZ (qN (i:=3) zT.nd rfl (by wtm_at "zo") (xX xT (xX xO (pv 1) qF) (xJ (xR (K:=K)) rfl B.len' zH (qQ (pv 0) qX))))
  (qZ (qN (i:=4) zT.nd rfl (by wtm_at "zo") (xH (qU (K:=K)) (xI (qQ qF (qQ qF (qQ qF (qQ (qYb wZ qF) (qQ (qYb wZ qF) (qQ qF (qQ qF qX)))))))) (xX xT (xX xO (pv 1) qF) qF) (fun _ _=>rfl)))
  (qK (zK (qS zM (xJ (xR (K:=K)) rfl B.len' zH (qQ (pv 0) qX)) qF (xE _)) (qJ (qN (i:=4) zT.nd rfl (by wtm_at "zo") (xH (qU (K:=K)) (xI (qQ qF (qQ qF (qQ qF (qQ (qYb wZ qF) (qQ (qYb wZ qF) qX)))))) (xX xT (xX xO (pv 1) qF) qF) (fun _ _=>rfl)))) qY)
  (qJ (qO (jP rfl kA (jF rfl B.range' (qQ (xJ (xR (K:=K)) rfl B.len' zH (qQ (pv 0) qX)) qX)) (fun cl fp s H=>(qH (i:=0) kA.nd rfl (Or.inl rfl) (.inr rfl))) (fun cl fp s H=>jJ) (fun cl fp s H=>(xG (qQ (xH (qT (K:=K)) (xH (qU (K:=K)) (pv 1) (pv 0) (fun _ _=>rfl)) qF (fun _ _=>rfl)) (qQ (xH (qU (K:=K)) (xI (qQ qF (qQ (pv 2) qX))) (xZ qZe rfl B.int' qCw (qQ (vQ zM (pv 0) (pv 3) (xE _)) qX)) (fun _ _=>rfl)) qX))))))))))))),?_⟩
 wtm_at "zf"
 refine⟨bx,us,rfl,SqL.of ebx,fun p1 hp1=>?_⟩
 rw[show cutV us none (some 5)=us.take 5 from qQq _ 5]
 have Sp1:=qV hp1 (.lst (us.take 5))
 have ep1:upd H p1 (.lst (us.take 5)) p1=some (.lst (us.take 5)):=qW
 generalize upd H p1 (.lst (us.take 5))=H1 at Sp1 ep1
 refine qOe (SqL.of ep1) ?_
 refine qCi ep1 (jW 5 (xK (qC Sp1) pb)) (by rw[List.length_take];omega) fun sm ys H2 S2 esm psm=>?_
 have S12:=Sp1.trans S2
 have lsm:ys.length=min 5 bs.length:=by rw[← psm.length,List.length_map,List.length_take]
 wtm_at "zw"
 refine w_I (by decide) ?_
 wtm_at "zw"
 have smp:ys≠[]:=fun z=>by rw[z,List.length_nil] at lsm;omega
 have fin:∀(b:Str×Int) (a:Addr) (H3:Hp),Same H2 H3→H3 a=some (.tup [.str b.1,.int b.2])→Short b.1→(∀bs':List (Str×Int),b∈bs'→(∀k,bs'=(((bs.take 5).map fun b=>(b.1,(2:Int))).take k++b::((bs.take 5).map fun b=>(b.1,(2:Int))).drop k)→¬BoxesG bs'))→∀i:Int,vR [.ref sm,.ref a,.int i] H3 Q E0:=fun b a H3 S3 ea sb hbad i=>by
  refine⟨sm,_,_,_,rfl,S3 _ _ esm,by omega,fun r k H4 S4 _ er=>?_⟩
  have S24:=S3.trans S4
  refine q r _ _ H4 (S12.trans S24) er (vX k (xK (qC S24) psm) (x:=b) ⟨a,rfl,S4 _ _ ea⟩) ?_ (fun c hc=>?_) (hbad _ (List.mem_append.mpr (.inr List.mem_cons_self)) k rfl)
  ·rw[List.length_append,List.length_cons,List.length_take,List.length_drop,List.length_map,List.length_take];omega
  ·rcases qVx hc with rfl | h
   ·exact sb
   ·obtain⟨d,hd,rfl⟩:=List.mem_map.mp h
    exact bsh d (List.mem_of_mem_take hd)
 by_cases h0:n % 3=0
 ·refine zF (decide_eq_true (by rw[h0])) ?_
  wtm_at "zw"
  refine w_I ⟨by decide,by decide +kernel⟩ ?_
  wtm_at "zw"
  refine w_I (show(0:Int)<((ys.length:Nat):Int) by omega) ?_
  obtain⟨j,v,ej,_,aj⟩:=yT (n / 3) smp
  obtain⟨b,eb⟩:∃b,((bs.take 5).map fun b=>(b.1,(2:Int)))[j]? = some b:=⟨_,List.getElem?_eq_getElem (by rw[psm.length];exact(List.getElem?_eq_some_iff.mp ej).1)⟩
  obtain⟨ba,rfl,hba⟩:=xV psm eb ej
  have hb:=List.mem_of_getElem? eb
  wtm_at "zw"
  refine⟨xF (show 2≤1000000 by decide),fun a1 ha1=>?_⟩
  have Sa1:=qV ha1 (.tup [V.str b.1,V.int 3])
  have ea1:upd H2 a1 (.tup [V.str b.1,V.int 3]) a1=some (.tup [V.str b.1,V.int 3]):=qW
  generalize upd H2 a1 (.tup [V.str b.1,V.int 3])=H3 at Sa1 ea1
  wtm_at "zw"
  refine w_I ⟨by decide,by decide +kernel⟩ ?_
  refine fin (b.1,3) a1 H3 Sa1 ea1 ?_ (fun bs' _ k e g=>?_) _
  ·obtain⟨d,hd,rfl⟩:=List.mem_map.mp hb
   exact bsh d (List.mem_of_mem_take hd)
  ·subst e
   exact qBn (x:=((b.1,3):Str×Int)) hb rfl g.nd
 refine zY (decide_eq_false (by intro z;injection z with z;exact h0 z)) ?_
 wtm_at "zw"
 refine w_I (by decide) ?_
 wtm_at "zw"
 by_cases h1:n % 3=1
 ·refine zF (decide_eq_true (by rw[h1])) ?_
  wtm_at "zw"
  refine⟨xF (show 3≤1000000 by decide),fun l1 hl1=>?_⟩
  have Sl1:=qV hl1 (.lst [V.str (Str.ofString "not"),V.str (Str.ofString "and"),V.str (Str.ofString "yes")])
  have el1:upd H2 l1 (.lst [V.str (Str.ofString "not"),V.str (Str.ofString "and"),V.str (Str.ofString "yes")]) l1=some (.lst [V.str (Str.ofString "not"),V.str (Str.ofString "and"),V.str (Str.ofString "yes")]):=qW
  generalize upd H2 l1 (.lst [V.str (Str.ofString "not"),V.str (Str.ofString "and"),V.str (Str.ofString "yes")])=H3 at Sl1 el1
  wtm_at "zw"
  refine w_I ⟨by decide,by decide +kernel⟩ ?_
  wtm_at "zw"
  refine w_I (by decide) ?_
  obtain⟨y,hy,ay⟩:=qZf (ws:=[Str.ofString "not",Str.ofString "and",Str.ofString "yes"]) (n / 3) (List.cons_ne_nil _ _)
  refine⟨l1,_,_,_,rfl,rfl,SqL.of el1,ay,?_⟩
  wtm_at "zw"
  refine⟨xF (show 2≤1000000 by decide),fun a1 ha1=>?_⟩
  have Sa1:=qV ha1 (.tup [V.str y,V.int 2])
  have ea1:upd H3 a1 (.tup [V.str y,V.int 2]) a1=some (.tup [V.str y,V.int 2]):=qW
  generalize upd H3 a1 (.tup [V.str y,V.int 2])=H4 at Sa1 ea1
  wtm_at "zw"
  refine w_I ⟨by decide,by decide +kernel⟩ ?_
  obtain⟨sy,cy⟩:=qWw y hy
  exact fin (y,2) a1 H4 (Sl1.trans Sa1) ea1 sy (fun bs' hm k _ g=>g.no _ hm cy) _
 refine zY (decide_eq_false (by intro z;injection z with z;exact h1 z)) ?_
 wtm_at "zw"
 refine w_I ⟨by decide,by decide +kernel⟩ ?_
 have ebx2:=S12 _ _ ebx
 wtm_at "zw"
 refine w_I (show(0:Int)<((us.length:Nat):Int) by omega) ?_
 obtain⟨j,v,ej,em,aj⟩:=yT (us:=us) (n / 3) (fun z=>by rw[z,List.length_nil] at lb;omega)
 rw[em]
 wtm_at "zw"
 refine⟨xF (show 7≤1000000 by decide),fun l1 hl1=>?_⟩
 have Sl1:=qV hl1 (.lst [V.int 0,V.int 1,V.int 6,V.int (-1),V.int (-3),V.int 7,V.int 9])
 have el1:upd H2 l1 (.lst [V.int 0,V.int 1,V.int 6,V.int (-1),V.int (-3),V.int 7,V.int 9]) l1=some (.lst [V.int 0,V.int 1,V.int 6,V.int (-1),V.int (-3),V.int 7,V.int 9]):=qW
 generalize upd H2 l1 (.lst [V.int 0,V.int 1,V.int 6,V.int (-1),V.int (-3),V.int 7,V.int 9])=H3 at Sl1 el1
 wtm_at "zw"
 refine w_I ⟨by decide,by decide +kernel⟩ ?_
 wtm_at "zw"
 refine w_I (by decide) ?_
 obtain⟨sz,hsz,asz⟩:=pickI (xs:=[0,1,6,-1,-3,7,9]) (F:=fun x=>x<2∨5<x) (n / 30) (List.cons_ne_nil _ _) (by decide)
 refine⟨l1,_,_,_,rfl,rfl,SqL.of el1,asz,?_⟩
 wtm_at "zw"
 refine⟨fun σ' H'=>∃sz:Int,σ'=[some (.ref bx),some (.int n),some (.ref sm),some (.int (j:Int)),some (.int sz)]∧Same H H'∧(sz<2∨5<sz),?_,?_⟩
 ·have S13:=S12.trans Sl1
  have ebx3:=S13 _ _ ebx
  wtm_at "zw"
  by_cases l6:us.length=6
  ·refine zF (decide_eq_true (by rw[l6];rfl)) ?_
   wtm_at "zw"
   refine⟨xF (show 5≤1000000 by decide),fun l2 hl2=>?_⟩
   have Sl2:=qV hl2 (.lst [V.int 0,V.int 1,V.int 6,V.int (-1),V.int (-3)])
   have el2:upd H3 l2 (.lst [V.int 0,V.int 1,V.int 6,V.int (-1),V.int (-3)]) l2=some (.lst [V.int 0,V.int 1,V.int 6,V.int (-1),V.int (-3)]):=qW
   generalize upd H3 l2 (.lst [V.int 0,V.int 1,V.int 6,V.int (-1),V.int (-3)])=H4 at Sl2 el2
   wtm_at "zw"
   refine w_I ⟨by decide,by decide +kernel⟩ ?_
   wtm_at "zw"
   refine w_I (by decide) ?_
   obtain⟨sz2,hsz2,asz2⟩:=pickI (xs:=[0,1,6,-1,-3]) (F:=fun x=>x<2∨5<x) (n / 30) (List.cons_ne_nil _ _) (by decide)
   refine⟨l2,_,_,_,rfl,rfl,SqL.of el2,asz2,?_⟩
   exact⟨sz2,rfl,S13.trans Sl2,hsz2⟩
  ·refine zY (decide_eq_false (by intro z;injection z with z;omega)) ?_
   exact⟨sz,rfl,S13,hsz⟩
 clear hsz asz
 rintro _ H' ⟨sz,rfl,S',hsz⟩
 have ebx':=S' _ _ ebx
 wtm_at "zf"
 refine⟨_,rfl,by omega,by omega,?_⟩
 have jl:j<us.length:=(List.getElem?_eq_some_iff.mp ej).1
 have en:(((us.length:Nat):Int)).toNat=us.length:=by omega
 rw[en]
 refine qQx (fun D i ys H''=>∃bs':List (Str×Int),Paired (BoxIn H'') bs' ys∧bs'.length=i∧(∀b∈bs',Short b.1)∧(j<i→∃b∈bs',b.2=sz)∧∀b o,H' b=some o→H'' b=some o)
  (fun D hD=>⟨[],.nil,rfl,(fun b h=>by cases h),(fun h=>absurd h (Nat.not_lt_zero _)),qV hD _⟩) (fun D i ys H'' N hD hDy hi hP hN=>?_) (fun D ys H'' hD hDy hP=>?_)
 ·obtain⟨bs',pl,hl,hsh,hj,hk⟩:=hP
  obtain⟨u,eu⟩:∃u,us[i]? = some u:=⟨_,List.getElem?_eq_getElem hi⟩
  obtain⟨b,eb⟩:∃b,bs[i]? = some b:=⟨_,List.getElem?_eq_getElem (by omega)⟩
  obtain⟨ba,rfl,hba⟩:=xV pb eb eu
  have ll:=pl.length
  have ati:atI us (0+(i:Int))=some (.ref ba):=by rw[Int.zero_add];exact jR eu
  have e1:H'' bx=some (.lst us):=hk _ _ ebx'
  have e2:H'' ba=some (.tup [.str b.1,.int b.2]):=hk _ _ (S' _ _ hba)
  refine⟨⟨[some (.int (0+(i:Int)))],rfl,rfl⟩,?_⟩
  refine qUc ?_
  refine iteT ?_
  wtm_at "zw"
  refine⟨xF (show 2≤1000000 by decide),fun l3 hl3=>?_⟩
  refine⟨_,rfl,_,rfl,rfl,.inr ⟨_,rfl,?_⟩⟩
  have S3:=qV hl3 (.lst [V.int 2,V.int sz])
  have val:∃z:Int,atI [V.int 2,V.int sz] (if decide (V.int (0+(i:Int))=V.int (j:Int))=true then 1 else 0)=some (.int z)∧(j=i→z=sz):=by
   by_cases e:j=i
   ·subst e
    rw[if_pos (decide_eq_true (by rw[Int.zero_add]))]
    exact⟨sz,rfl,fun _=>rfl⟩
   ·rw[if_neg (by rw[decide_eq_true_iff];intro z;injection z with z;omega)]
    exact⟨2,rfl,fun h=>absurd h e⟩
  obtain⟨z,az,hz⟩:=val
  refine⟨l3,_,_,_,rfl,rfl,SqL.of qW,az,?_⟩
  generalize upd H'' l3 (.lst [V.int 2,V.int sz])=H3 at S3
  have hk3:∀b o,H' b=some o→H3 b=some o:=fun b o e=>S3 _ _ (hk _ _ e)
  refine⟨xF (show 2≤1000000 by decide),fun t ht=>?_⟩
  have hDy3:=S3 _ _ hDy
  have eD:=qV ht (.tup [V.str b.1,V.int z]) _ _ hDy3
  refine⟨eD,small (by omega),hN _ _ qW ⟨bs'++[(b.1,z)],?_,?_,fun c hc=>?_,fun hji=>?_,fun c o e=>?_⟩⟩
  ·have T:Tups H3 (upd (upd H3 t (.tup [V.str b.1,V.int z])) D (.lst (ys++[V.ref t]))):=fun c xs e=>by
    rw[qA (kI e hDy3 (by intro z;cases z)),qA (qB e ht)];exact e
   exact Paired.snoc (xK ((qC S3).trans T) pl) ⟨t,rfl,by rw[qA (Ne.symm (qB hDy3 ht))];exact qW⟩
  ·rw[List.length_append,hl];rfl
  ·rcases List.mem_append.mp hc with h | h
   ·exact hsh c h
   ·rw[List.mem_singleton.mp h];exact bsh b (List.mem_of_getElem? eb)
  ·by_cases e:j=i
   ·exact⟨(b.1,z),List.mem_append.mpr (.inr (List.mem_singleton.mpr rfl)),hz e⟩
   ·obtain⟨c,hc,ec⟩:=hj (by omega)
    exact⟨c,List.mem_append.mpr (.inl hc),ec⟩
  ·rw[qA (qB e hD)];exact qV ht _ _ _ (hk3 _ _ e)
 ·obtain⟨bs',pl,hl,hsh,hj,hk⟩:=hP
  obtain⟨c,hc,ec⟩:=hj jl
  refine q D bs' ys H'' (S'.trans hk) hDy pl (by omega) hsh fun g=>?_
  have:=g.b25 c hc
  omega

theorem env5 {bs:List (Str×Int)}{vals:List Int}(f:Fits bs vals)(h25:∀b∈bs,2≤b.2∧b.2≤5):∀x∈bs.map (·.1),0≤envOf (kvsOf bs vals) x∧envOf (kvsOf bs vals) x<5:=fun x hx=>by
 have h:=qHe (f.stands h25) x hx
 have s2:=qXo (Pr:=fun v=>∃i:Int,v=.int i∧0≤i∧i<5) ((bs.map (fun b:Str×Int=>b.1)).zip (intsV vals)) [] (fun kv hkv=>by
  obtain⟨a,b⟩:=kv
  obtain⟨i,hi,e⟩:=List.mem_map.mp (List.of_mem_zip hkv).2
  obtain⟨j,hj⟩:=List.mem_iff_getElem?.mp hi
  have hl:j<bs.length:=by rw[← f.1];exact(List.getElem?_eq_some_iff.mp hj).1
  have h1:=f.2 j _ i (List.getElem?_eq_getElem hl) hj
  have h2:=h25 _ (List.getElem_mem hl)
  exact⟨i,e.symm,by omega,by omega⟩) (fun k v e=>by cases e) (Sum.inr x) _ h.1
 obtain⟨i,e,h0,h1⟩:=s2
 injection e with e
 rw[e]
 exact⟨h0,h1⟩
theorem yU:xM ["words","begin","number","word","some"] ["words","begin","number"] (xB (top 59)):=⟨rfl,rfl,rfl,by decide +kernel,rfl,by decide +kernel,by decide +kernel⟩
noncomputable def qKk:Sp:=fun vs H Q _=>∃(wd:Addr) (bv:V) (bt:Th) (ws:List Str) (n:Int),vs=[.ref wd,bv,.int n]∧H wd=some (.lst (strsV ws))∧ws≠[]∧bt.At H bv∧Cond' ws bt∧bt.dep≤11∧
 ∀(t:Th) (v:V) (H':Hp),Same H H'→t.At H' v→Cond' ws t→t.dep≤12→(∀ρ:Str→Int,(∀y∈ws,0≤ρ y∧ρ y<5)→t.truth ρ=false)→Q v H'
theorem qDf (F:Fd K mg "_law_nowhere" (top 59) ["words","begin","number"])(B:Bl mg):Dn P w K mg base "_law_nowhere" 1 ["words","begin","number"] qKk:=by
 refine F.ok yU (fun vs H Q E h=>?_) (fun f cdv A outer s H vs Q E hr h=>?_)
 ·obtain⟨_,_,_,_,_,rfl,_⟩:=h
  rfl
 obtain⟨wd,bv,bt,ws,n,rfl,ewd,wne,bat,bc,bd,q⟩:=h
 have wp:=List.length_pos_iff.mpr wne
 refine⟨_,(qZ (qN (i:=3) yU.nd rfl (by wtm_at "zo") (xH (qU (K:=K)) (pv 0) (xX xT (xX xO (pv 2) qF) (xJ (xR (K:=K)) rfl B.len' zH (qQ (pv 0) qX))) (fun _ _=>rfl)))
  (qZ (qN (i:=4) yU.nd rfl (by wtm_at "zo") (xI (qQ (xG (qQ qG (qQ (pv 1) (qQ (xG (qQ qG (qQ (xG (qQ qG (qQ (pv 3) qX))) (qQ (xG (qQ qG (qQ qF qX))) qX)))) qX)))) (qQ (xG (qQ qG (qQ (xG (qQ qG (qQ qF qX))) (qQ (xG (qQ qG (qQ (pv 3) qX))) qX)))) qX))))
  (qZ (qR (kJ (K:=K) PySem.F.plainAttrs_list PySem.F.slot_list_append PySem.F.type_list_append zU (pv 4) (qQ (xG (qQ qG (qQ (xG (qQ qG (qQ (xG (qQ qG (qQ (pv 3) qX))) (qQ (xG (qQ qG (qQ qF qX))) qX)))) (qQ (xG (qQ qG (qQ (xG (qQ qG (qQ (pv 3) qX))) (qQ (xG (qQ qG (qQ qF qX))) qX)))) qX)))) qX)))
  (qJ (qO (xH (qU (K:=K)) (xX jC (pv 4) (xI (qQ (xG (qQ qG (qQ (xG (qQ qG qX)) qX))) qX))) (xX xT (pv 2) qF) (fun _ _=>rfl))))))),?_⟩
 wtm_at "zw"
 refine w_I ⟨by decide,by decide +kernel⟩ ?_
 wtm_at "zw"
 refine w_I (show(0:Int)<(((strsV ws).length:Nat):Int) by rw[xA];omega) ?_
 obtain⟨y,hy,ay⟩:=qZf (n / 4) wne
 refine⟨wd,_,_,_,rfl,rfl,SqL.of ewd,ay,?_⟩
 wtm_at "zw"
 refine⟨xF (show 2≤1000000 by decide),fun p1 hp1=>?_⟩
 have Sp1:=qV hp1 (.tup [V.str (Str.ofString "box"),V.str y])
 have ep1:upd H p1 (.tup [V.str (Str.ofString "box"),V.str y]) p1=some (.tup [V.str (Str.ofString "box"),V.str y]):=qW
 generalize upd H p1 (.tup [V.str (Str.ofString "box"),V.str y])=H1 at Sp1 ep1
 wtm_at "zw"
 refine⟨xF (show 2≤1000000 by decide),fun p2 hp2=>?_⟩
 have Sp2:=qV hp2 (.tup [V.str (Str.ofString "number"),V.int 0])
 have ep2:upd H1 p2 (.tup [V.str (Str.ofString "number"),V.int 0]) p2=some (.tup [V.str (Str.ofString "number"),V.int 0]):=qW
 generalize upd H1 p2 (.tup [V.str (Str.ofString "number"),V.int 0])=H2 at Sp2 ep2
 wtm_at "zw"
 refine⟨xF (show 3≤1000000 by decide),fun p3 hp3=>?_⟩
 have Sp3:=qV hp3 (.tup [V.str (Str.ofString "under"),.ref p1,.ref p2])
 have ep3:upd H2 p3 (.tup [V.str (Str.ofString "under"),.ref p1,.ref p2]) p3=some (.tup [V.str (Str.ofString "under"),.ref p1,.ref p2]):=qW
 generalize upd H2 p3 (.tup [V.str (Str.ofString "under"),.ref p1,.ref p2])=H3 at Sp3 ep3
 wtm_at "zw"
 refine⟨xF (show 3≤1000000 by decide),fun t0 ht0=>?_⟩
 have St0:=qV ht0 (.tup [V.str (Str.ofString "both"),bv,.ref p3])
 have et0:upd H3 t0 (.tup [V.str (Str.ofString "both"),bv,.ref p3]) t0=some (.tup [V.str (Str.ofString "both"),bv,.ref p3]):=qW
 generalize upd H3 t0 (.tup [V.str (Str.ofString "both"),bv,.ref p3])=H4 at St0 et0
 wtm_at "zw"
 refine⟨xF (show 2≤1000000 by decide),fun p5 hp5=>?_⟩
 have Sp5:=qV hp5 (.tup [V.str (Str.ofString "number"),V.int 7])
 have ep5:upd H4 p5 (.tup [V.str (Str.ofString "number"),V.int 7]) p5=some (.tup [V.str (Str.ofString "number"),V.int 7]):=qW
 generalize upd H4 p5 (.tup [V.str (Str.ofString "number"),V.int 7])=H5 at Sp5 ep5
 wtm_at "zw"
 refine⟨xF (show 2≤1000000 by decide),fun p6 hp6=>?_⟩
 have Sp6:=qV hp6 (.tup [V.str (Str.ofString "box"),V.str y])
 have ep6:upd H5 p6 (.tup [V.str (Str.ofString "box"),V.str y]) p6=some (.tup [V.str (Str.ofString "box"),V.str y]):=qW
 generalize upd H5 p6 (.tup [V.str (Str.ofString "box"),V.str y])=H6 at Sp6 ep6
 wtm_at "zw"
 refine⟨xF (show 3≤1000000 by decide),fun t1 ht1=>?_⟩
 have St1:=qV ht1 (.tup [V.str (Str.ofString "same"),.ref p5,.ref p6])
 have et1:upd H6 t1 (.tup [V.str (Str.ofString "same"),.ref p5,.ref p6]) t1=some (.tup [V.str (Str.ofString "same"),.ref p5,.ref p6]):=qW
 generalize upd H6 t1 (.tup [V.str (Str.ofString "same"),.ref p5,.ref p6])=H7 at St1 et1
 wtm_at "zw"
 refine⟨xF (show 2≤1000000 by decide),fun so hso=>?_⟩
 have Sso:=qV hso (.lst [V.ref t0,V.ref t1])
 have eso:upd H7 so (.lst [V.ref t0,V.ref t1]) so=some (.lst [V.ref t0,V.ref t1]):=qW
 generalize upd H7 so (.lst [V.ref t0,V.ref t1])=H8 at Sso eso
 have S7:=Sp1.trans (Sp2.trans (Sp3.trans (St0.trans (Sp5.trans (Sp6.trans St1)))))
 have nso:H so=none:=S7.free hso
 have S8:=Sp1.trans (Sp2.trans (Sp3.trans (St0.trans (Sp5.trans (Sp6.trans (St1.trans Sso))))))
 have a0:(Th.bin "both" bt (.bin "under" (.box y) (.num 0))).At H8 (.ref t0):=⟨t0,bv,.ref p3,rfl,Sso _ _ (St1 _ _ (Sp6 _ _ (Sp5 _ _ et0))),bat.mono (qC S8),p3,.ref p1,.ref p2,rfl,Sso _ _ (St1 _ _ (Sp6 _ _ (Sp5 _ _ (St0 _ _ ep3)))),⟨p1,rfl,Sso _ _ (St1 _ _ (Sp6 _ _ (Sp5 _ _ (St0 _ _ (Sp3 _ _ (Sp2 _ _ ep1))))))⟩,⟨p2,rfl,Sso _ _ (St1 _ _ (Sp6 _ _ (Sp5 _ _ (St0 _ _ (Sp3 _ _ ep2)))))⟩⟩
 have a1:(Th.bin "same" (.num 7) (.box y)).At H8 (.ref t1):=⟨t1,.ref p5,.ref p6,rfl,Sso _ _ et1,⟨p5,rfl,Sso _ _ (St1 _ _ (Sp6 _ _ ep5))⟩,⟨p6,rfl,Sso _ _ (St1 _ _ ep6)⟩⟩
 clear ep1 ep2 ep3 ep5 ep6 et0 et1 Sp1 Sp2 Sp3 St0 Sp5 Sp6 St1 Sso
 wtm_at "zw"
 refine⟨.inl ⟨rfl,_,SqL.of eso⟩,?_⟩
 wtm_at "zw"
 refine⟨xF (show 2≤1000000 by decide),fun p1 hp1=>?_⟩
 have Sp1:=qV hp1 (.tup [V.str (Str.ofString "box"),V.str y])
 have ep1:upd H8 p1 (.tup [V.str (Str.ofString "box"),V.str y]) p1=some (.tup [V.str (Str.ofString "box"),V.str y]):=qW
 generalize upd H8 p1 (.tup [V.str (Str.ofString "box"),V.str y])=H9 at Sp1 ep1
 wtm_at "zw"
 refine⟨xF (show 2≤1000000 by decide),fun p2 hp2=>?_⟩
 have Sp2:=qV hp2 (.tup [V.str (Str.ofString "number"),V.int 0])
 have ep2:upd H9 p2 (.tup [V.str (Str.ofString "number"),V.int 0]) p2=some (.tup [V.str (Str.ofString "number"),V.int 0]):=qW
 generalize upd H9 p2 (.tup [V.str (Str.ofString "number"),V.int 0])=H10 at Sp2 ep2
 wtm_at "zw"
 refine⟨xF (show 3≤1000000 by decide),fun p3 hp3=>?_⟩
 have Sp3:=qV hp3 (.tup [V.str (Str.ofString "same"),.ref p1,.ref p2])
 have ep3:upd H10 p3 (.tup [V.str (Str.ofString "same"),.ref p1,.ref p2]) p3=some (.tup [V.str (Str.ofString "same"),.ref p1,.ref p2]):=qW
 generalize upd H10 p3 (.tup [V.str (Str.ofString "same"),.ref p1,.ref p2])=H11 at Sp3 ep3
 wtm_at "zw"
 refine⟨xF (show 2≤1000000 by decide),fun p4 hp4=>?_⟩
 have Sp4:=qV hp4 (.tup [V.str (Str.ofString "box"),V.str y])
 have ep4:upd H11 p4 (.tup [V.str (Str.ofString "box"),V.str y]) p4=some (.tup [V.str (Str.ofString "box"),V.str y]):=qW
 generalize upd H11 p4 (.tup [V.str (Str.ofString "box"),V.str y])=H12 at Sp4 ep4
 wtm_at "zw"
 refine⟨xF (show 2≤1000000 by decide),fun p5 hp5=>?_⟩
 have Sp5:=qV hp5 (.tup [V.str (Str.ofString "number"),V.int 1])
 have ep5:upd H12 p5 (.tup [V.str (Str.ofString "number"),V.int 1]) p5=some (.tup [V.str (Str.ofString "number"),V.int 1]):=qW
 generalize upd H12 p5 (.tup [V.str (Str.ofString "number"),V.int 1])=H13 at Sp5 ep5
 wtm_at "zw"
 refine⟨xF (show 3≤1000000 by decide),fun p6 hp6=>?_⟩
 have Sp6:=qV hp6 (.tup [V.str (Str.ofString "same"),.ref p4,.ref p5])
 have ep6:upd H13 p6 (.tup [V.str (Str.ofString "same"),.ref p4,.ref p5]) p6=some (.tup [V.str (Str.ofString "same"),.ref p4,.ref p5]):=qW
 generalize upd H13 p6 (.tup [V.str (Str.ofString "same"),.ref p4,.ref p5])=H14 at Sp6 ep6
 wtm_at "zw"
 refine⟨xF (show 3≤1000000 by decide),fun t2 ht2=>?_⟩
 have St2:=qV ht2 (.tup [V.str (Str.ofString "both"),.ref p3,.ref p6])
 have et2:upd H14 t2 (.tup [V.str (Str.ofString "both"),.ref p3,.ref p6]) t2=some (.tup [V.str (Str.ofString "both"),.ref p3,.ref p6]):=qW
 generalize upd H14 t2 (.tup [V.str (Str.ofString "both"),.ref p3,.ref p6])=H15 at St2 et2
 have S915:=Sp1.trans (Sp2.trans (Sp3.trans (Sp4.trans (Sp5.trans (Sp6.trans St2)))))
 have a2:(Th.bin "both" (.bin "same" (.box y) (.num 0)) (.bin "same" (.box y) (.num 1))).At H15 (.ref t2):=⟨t2,.ref p3,.ref p6,rfl,et2,⟨p3,.ref p1,.ref p2,rfl,St2 _ _ (Sp6 _ _ (Sp5 _ _ (Sp4 _ _ ep3))),⟨p1,rfl,St2 _ _ (Sp6 _ _ (Sp5 _ _ (Sp4 _ _ (Sp3 _ _ (Sp2 _ _ ep1)))))⟩,⟨p2,rfl,St2 _ _ (Sp6 _ _ (Sp5 _ _ (Sp4 _ _ (Sp3 _ _ ep2))))⟩⟩,⟨p6,.ref p4,.ref p5,rfl,St2 _ _ ep6,⟨p4,rfl,St2 _ _ (Sp6 _ _ (Sp5 _ _ ep4))⟩,⟨p5,rfl,St2 _ _ (Sp6 _ _ ep5)⟩⟩⟩
 replace a0:=a0.mono (qC S915)
 replace a1:=a1.mono (qC S915)
 have S15:=S8.trans S915
 have eso15:=S915 _ _ eso
 clear ep1 ep2 ep3 ep4 ep5 ep6 et2 Sp1 Sp2 Sp3 Sp4 Sp5 Sp6 St2
 refine⟨so,_,_,rfl,rfl,eso15,small (by show 2≤10000;decide),?_⟩
 have T16:Tups H15 (upd H15 so (.lst ([V.ref t0,V.ref t1]++[V.ref t2]))):=fun b xs e=>by rw[qA (kI e eso15 (by intro z;cases z))];exact e
 have S16:Same H (upd H15 so (.lst ([V.ref t0,V.ref t1]++[V.ref t2]))):=fun b o e=>by rw[qA (qB e nso)];exact S15 _ _ e
 have eso16:upd H15 so (.lst ([V.ref t0,V.ref t1]++[V.ref t2])) so=some (.lst [V.ref t0,V.ref t1,V.ref t2]):=qW
 generalize upd H15 so (.lst ([V.ref t0,V.ref t1]++[V.ref t2]))=H16 at S16 eso16 T16
 replace a0:=a0.mono T16
 replace a1:=a1.mono T16
 replace a2:=a2.mono T16
 wtm_at "zw"
 refine⟨xF (show 1≤1000000 by decide),fun p1 hp1=>?_⟩
 have Sp1:=qV hp1 (.tup [V.str (Str.ofString "yes")])
 have ep1:upd H16 p1 (.tup [V.str (Str.ofString "yes")]) p1=some (.tup [V.str (Str.ofString "yes")]):=qW
 generalize upd H16 p1 (.tup [V.str (Str.ofString "yes")])=H17 at Sp1 ep1
 wtm_at "zw"
 refine⟨xF (show 2≤1000000 by decide),fun t3 ht3=>?_⟩
 have St3:=qV ht3 (.tup [V.str (Str.ofString "not"),.ref p1])
 have et3:upd H17 t3 (.tup [V.str (Str.ofString "not"),.ref p1]) t3=some (.tup [V.str (Str.ofString "not"),.ref p1]):=qW
 generalize upd H17 t3 (.tup [V.str (Str.ofString "not"),.ref p1])=H18 at St3 et3
 wtm_at "zw"
 refine⟨xF (show 1≤1000000 by decide),fun l1 hl1=>?_⟩
 have Sl1:=qV hl1 (.lst [V.ref t3])
 have el1:upd H18 l1 (.lst [V.ref t3]) l1=some (.lst [V.ref t3]):=qW
 generalize upd H18 l1 (.lst [V.ref t3])=H19 at Sl1 el1
 have S1619:=Sp1.trans (St3.trans Sl1)
 have a3:(Th.un "not" (.nul "yes")).At H19 (.ref t3):=⟨t3,.ref p1,rfl,Sl1 _ _ et3,p1,rfl,Sl1 _ _ (St3 _ _ ep1)⟩
 refine⟨so,l1,_,_,rfl,rfl,S1619 _ _ eso16,el1,xF (show 3+1≤1000000 by decide),fun l2 hl2=>?_⟩
 have Sl2:=qV hl2 (.lst ([V.ref t0,V.ref t1,V.ref t2]++[V.ref t3]))
 have el2:upd H19 l2 (.lst ([V.ref t0,V.ref t1,V.ref t2]++[V.ref t3])) l2=some (.lst ([V.ref t0,V.ref t1,V.ref t2]++[V.ref t3])):=qW
 generalize upd H19 l2 (.lst ([V.ref t0,V.ref t1,V.ref t2]++[V.ref t3]))=H20 at Sl2 el2
 have T20:=qC (S1619.trans Sl2)
 replace a0:=a0.mono T20
 replace a1:=a1.mono T20
 replace a2:=a2.mono T20
 replace a3:=a3.mono (qC Sl2)
 have S20:=S16.trans (S1619.trans Sl2)
 wtm_at "zw"
 refine w_I (by decide) ?_
 obtain⟨j,v,ej,_,aj⟩:=yT (us:=[V.ref t0,V.ref t1,V.ref t2]++[V.ref t3]) n (by simp)
 have aj:atI ([V.ref t0,V.ref t1,V.ref t2]++[V.ref t3]) (n % 4)=some v:=aj
 refine⟨l2,_,_,_,rfl,rfl,SqL.of el2,aj,?_⟩
 have xy:Expr' ws (.box y):=hy
 have jl:j<4:=(List.getElem?_eq_some_iff.mp ej).1
 have:j=0∨j=1∨j=2∨j=3:=by omega
 rcases this with rfl | rfl | rfl | rfl <;> cases ej
 ·refine q _ _ H20 S20 a0 (.inr ⟨rfl,bc,.inl ⟨.inr rfl,xy,⟨by decide,by decide⟩⟩⟩) ?_ fun ρ hρ=>?_
  ·show max bt.dep 2+1≤12
   omega
  ·have:=hρ y hy
   rw[vA,vM]
   have e:decide ((Th.box y).worth ρ<(Th.num 0).worth ρ)=false:=decide_eq_false (by show¬ρ y<0;omega)
   rw[e,Bool.and_false]
 ·refine q _ _ H20 S20 a1 (.inl ⟨.inl rfl,⟨by decide,by decide⟩,xy⟩) (by show 2≤12;decide) fun ρ hρ=>?_
  have:=hρ y hy
  rw[kX]
  exact decide_eq_false (by show¬(7=ρ y);omega)
 ·refine q _ _ H20 S20 a2 (.inr ⟨rfl,.inl ⟨.inl rfl,xy,⟨by decide,by decide⟩⟩,.inl ⟨.inl rfl,xy,⟨by decide,by decide⟩⟩⟩) (by show 3≤12;decide) fun ρ hρ=>?_
  rw[vA,kX,kX]
  by_cases e:ρ y=0
  ·have e1:decide ((Th.box y).worth ρ=(Th.num 1).worth ρ)=false:=decide_eq_false (by show¬(ρ y=1);omega)
   rw[e1,Bool.and_false]
  ·have e1:decide ((Th.box y).worth ρ=(Th.num 0).worth ρ)=false:=decide_eq_false (by show¬(ρ y=0);exact e)
   rw[e1,Bool.false_and]
 ·exact q _ _ H20 S20 a3 ⟨rfl,rfl⟩ (by show 2≤12;decide) fun ρ _=>rfl

theorem zW:xM ["world","cell","boxes","deeds","looks","begin","goal","way","number","words","strange","bad"] ["world","cell"] (xB (top 60)):=⟨rfl,rfl,rfl,by decide +kernel,rfl,by decide +kernel,by decide +kernel⟩
theorem wD:CompOk (xB (top 60)) ["world","cell","boxes","deeds","looks","begin","goal","way","number","words","strange","bad"] (scAt (xC (top 60)) [2] []) ["box"] 1 []:=
 ⟨by decide +kernel,by decide +kernel,by decide +kernel,by decide +kernel,by decide +kernel,by decide +kernel,by decide +kernel,by decide +kernel⟩
theorem qFn:(Th.nul "yes").Ok:=by unfold Th.Ok Th.Op;decide +kernel
theorem fitC {ws:List Str}{t:Th}(c:Cond' ws t)(d:t.dep≤12)(s:∀x∈ws,Short x):Fit t:=⟨c.ok,d,fun x hx=>s x (c.in x hx)⟩
theorem fitE {ws:List Str}{t:Th}(c:Expr' ws t)(d:t.dep≤12)(s:∀x∈ws,Short x):Fit t:=⟨c.ok,d,fun x hx=>s x (c.in x hx)⟩
theorem WOk.shs {W:Wd}(ok:WOk W):∀x∈W.ws,Short x:=fun x hx=>qXq (ok.named.sh x hx)
theorem WOk.shd {W:Wd}(ok:WOk W){d:Deed}(h:d∈W.ds):Short d.name:=qXq (ok.sh _ (List.mem_append.mpr (.inl (List.mem_map.mpr ⟨d,h,rfl⟩))))
theorem WOk.shl {W:Wd}(ok:WOk W){l:Look}(h:l∈W.ls):Short l.name:=qXq (ok.sh _ (List.mem_append.mpr (.inr (List.mem_map.mpr ⟨l,h,rfl⟩))))
theorem WOk.deedF {W:Wd}(ok:WOk W){d:Deed}(h:d∈W.ds):DeedF d:=by
 have o:=ok.deeds d h
 exact⟨ok.shd h,fitC o.need o.dep ok.shs,o.le,fun wy hw=>⟨(o.ways wy hw).le,fun c hc=>by
  obtain⟨o1,o2,o3⟩:=(o.ways wy hw).ok c hc
  exact⟨ok.shs _ o1,fitE o2 o3 ok.shs⟩⟩⟩
theorem WOk.lookF {W:Wd}(ok:WOk W){l:Look}(h:l∈W.ls):LookF l:=⟨ok.shl h,fitE (ok.looks l h).part (ok.looks l h).dep ok.shs⟩
theorem WOk.fit {W:Wd}(ok:WOk W):WFit W:=⟨ok.b6,fun b hb=>ok.shs _ (List.mem_map.mpr ⟨b,hb,rfl⟩),by have:=ok.dl;omega,by have:=ok.ll;omega,fun d hd=>ok.deedF hd,fun l hl=>ok.lookF hl,fitC ok.beg (by have:=ok.begd;omega) ok.shs,fun _=>ok.beg,fitC ok.goal ok.goald ok.shs⟩
theorem WOk.good {W:Wd}(ok:WOk W):WGood W:=⟨⟨ok.b1,ok.named.nd,fun b hb=>ok.named.no _ (List.mem_map.mpr ⟨b,hb,rfl⟩),ok.b25⟩,ok.nd,fun d hd=>(ok.deeds d hd).price,fun d hd=>(ok.deeds d hd).need.in,fun d hd=>⟨(ok.deeds d hd).ne,fun wy hw=>⟨((ok.deeds d hd).ways wy hw).nd,fun c hc=>
 have o:=((ok.deeds d hd).ways wy hw).ok c hc
 ⟨o.1,o.2.1.in⟩⟩⟩,fun l hl=>(ok.looks l hl).price,fun l hl=>(ok.looks l hl).part.in,ok.beg.in,ok.goal.in,ok.some'⟩
theorem qSc {σ:St}{H:Hp}{l:Addr}{us:List V}{k i:Int}{j1 j2:Nat}(h1:σ[j1]? = some (some (.int k)))(h2:σ[j2]? = some (some (.ref l)))(el:H l=some (.lst us))(R:Bool→Hp→Prop)(hR:∀H',Same H H'→R (decide (k<i) && !us.isEmpty) H'):
  tAnd (tTest (tOp (rI0 fun i j=>V.bl (decide (i<j))) (tVar j1) (tC (V.int i)))) (tTest (tOp (rNeE K) (tVar j2) (tLst tNil))) σ H R:=by
 refine⟨_,h1,_,_,rfl,rfl,_,rfl,?_⟩
 by_cases e:k<i
 ·rw[decide_eq_true e]
  refine iteT ⟨_,h2,xF (show 0≤1000000 by decide),fun p hp=>?_⟩
  have:=hR _ (qV hp (.lst []))
  rw[decide_eq_true e,Bool.true_and] at this
  exact⟨l,p,us,rfl,rfl,SqL.of (qV hp _ _ _ el),SqL.of qW,_,rfl,this⟩
 ·rw[decide_eq_false e]
  have:=hR _ (Same.refl _)
  rw[decide_eq_false e,Bool.false_and] at this
  exact iteF this
noncomputable def qEl:Sp:=fun vs H Q _=>∃(W:Wd) (p bx dx lx:Addr) (bv gv:V) (c:Int),vs=[.ref p,.int c]∧H p=some (.tup [.ref bx,.ref dx,.ref lx,bv,gv])∧WAt H W bx dx lx bv gv∧WOk W∧
 ∀(W':Wd) (p' bx' dx' lx':Addr) (bv' gv':V) (H':Hp),Same H H'→H' p'=some (.tup [.ref bx',.ref dx',.ref lx',bv',gv'])→WAt H' W' bx' dx' lx' bv' gv'→WFit W'→¬WGood W'→Q (.ref p') H'
theorem qNa (F:Fd K mg "_law_wrong" (top 60) ["world","cell"])(B:Bl mg)(D_law_drawn:Dn P w K mg base "_law_drawn" 2 ["cell","sizes"] qYj)(D_law_strange:Dn P w K mg base "_law_strange" 1 ["boxes","number"] qJq)(D_law_bad_boxes:Dn P w K mg base "_law_bad_boxes" 2 ["boxes","number"] qJx)
  (D_law_bad_deed:Dn P w K mg base "_law_bad_deed" 16 ["deeds","words","strange","number"] qKa) (D_law_bad_look:Dn P w K mg base "_law_bad_look" 15 ["deeds","looks","strange","number"] qKw) (D_law_nowhere:Dn P w K mg base "_law_nowhere" 1 ["words","begin","number"] qKk) (D_law_misnamed:Dn P w K mg base "_law_misnamed" 14 ["thing","strange","number"] spMis):
  Dn P w K mg base "_law_wrong" 17 ["world","cell"] qEl:=by
 refine F.ok zW (fun vs H Q E h=>?_) (fun f cdv A outer s H vs Q E hr h=>?_)
 ·obtain⟨_,_,_,_,_,_,_,_,rfl,_⟩:=h
  rfl
 obtain⟨W,p,bx,dx,lx,bv,gv,c,rfl,ep,A0,ok,q⟩:=h
 obtain⟨us,ebx,pb⟩:=A0.boxes
 obtain⟨du,edx,pd⟩:=A0.deeds
 obtain⟨lu,elx,pl⟩:=A0.looks
 have fit:=ok.fit
 have b1:=ok.b1
 have b6:=ok.b6
 refine⟨_,(qZ (qP (pv 0) (jV (K:=K) (n:=5) rfl (qI (qH (i:=2) zW.nd rfl (by wtm_at "zo")) (qI (qH (i:=3) zW.nd rfl (by wtm_at "zo")) (qI (qH (i:=4) zW.nd rfl (by wtm_at "zo")) (qI (qH (i:=5) zW.nd rfl (by wtm_at "zo")) (qI (qH (i:=6) zW.nd rfl (by wtm_at "zo")) qM)))))))
  (qZ (qP (qD D_law_drawn hr (qQ (pv 1) (qQ (xI (qQ qF (qQ (xX yB qF qF) qX))) qX))) (qPv (K:=K) (n:=2) rfl (qI (qH (i:=7) zW.nd rfl (by wtm_at "zo")) (qI (qH (i:=8) zW.nd rfl (by wtm_at "zo")) qM))))
  (qZ (yE (i:=9) zW.nd rfl (by wtm_at "zo") rfl wD (xQ (K:=K) (pv 2)) (fun cl fp s H=>(qH (i:=0) wD.nd rfl (Or.inl rfl) (.inr rfl))) (fun cl fp s H=>jJ) (fun cl fp s H=>(xH (qT (K:=K)) (pv 0) qF (fun _ _=>rfl))))
  (qZ (qN (i:=10) zW.nd rfl (by wtm_at "zo") (qD D_law_strange hr (qQ (pv 2) (qQ (pv 8) qX))))
  (qZ (zK (qS zM (pv 7) qF (xE _)) (qJ (qO (xG (qQ (qD D_law_bad_boxes hr (qQ (pv 2) (qQ (pv 8) qX))) (qQ (pv 3) (qQ (pv 4) (qQ (xG (qQ qG qX)) (qQ (pv 6) qX)))))))) qY)
  (qZ (zK (qS zM (pv 7) qF (xE _)) (qJ (qO (xG (qQ (xI qX) (qQ (xI qX) (qQ (xI qX) (qQ (xG (qQ qG qX)) (qQ (xG (qQ qG qX)) qX)))))))) qY)
  (qZ (zK (PW.pt (qKe (qS qQf (pv 7) qF (xE _)) (qXe (qS (qXh (K:=K) hr.units) (pv 3) (xI qX) (xE _))))) (qJ (qO (xG (qQ (pv 2) (qQ (qD D_law_bad_deed hr (qQ (pv 3) (qQ (pv 9) (qQ (pv 10) (qQ (pv 8) qX))))) (qQ (pv 4) (qQ (pv 5) (qQ (pv 6) qX)))))))) qY)
  (qZ (zK (qS qQf (pv 7) qF (xE _)) (qJ (qO (xG (qQ (pv 2) (qQ (pv 3) (qQ (qD D_law_bad_look hr (qQ (pv 3) (qQ (pv 4) (qQ (pv 10) (qQ (pv 8) qX))))) (qQ (pv 5) (qQ (pv 6) qX)))))))) qY)
  (qZ (zK (qS zM (pv 7) qF (xE _)) (qJ (qO (xG (qQ (pv 2) (qQ (pv 3) (qQ (pv 4) (qQ (qD D_law_nowhere hr (qQ (pv 9) (qQ (pv 5) (qQ (pv 8) qX)))) (qQ (pv 6) qX)))))))) qY)
  (qZ (qN (i:=11) zW.nd rfl (by wtm_at "zo") (xI (qQ (qD D_law_misnamed hr (qQ (pv 5) (qQ (pv 10) (qQ (xX xO (pv 8) qF) qX)))) (qQ (qD D_law_misnamed hr (qQ (pv 6) (qQ (pv 10) (qQ (xX xO (pv 8) qF) qX)))) qX))))
  (qJ (qO (xH (qU (K:=K)) (xI (qQ (xG (qQ (pv 2) (qQ (pv 3) (qQ (pv 4) (qQ (xH (qU (K:=K)) (pv 11) qF (fun _ _=>rfl)) (qQ (pv 6) qX)))))) (qQ (xG (qQ (pv 2) (qQ (pv 3) (qQ (pv 4) (qQ (pv 5) (qQ (xH (qU (K:=K)) (pv 11) qF (fun _ _=>rfl)) qX)))))) qX))) (xX xT (pv 8) qF) (fun _ _=>rfl)))))))))))))),?_⟩
 wtm_at "zw"
 refine w_I ⟨by decide,by decide,by decide +kernel⟩ ?_
 wtm_at "zw"
 refine⟨xF (show 2≤1000000 by decide),fun l0 hl0=>?_⟩
 have Sl0:=qV hl0 (.lst [V.int 9,V.int (10 ^ (40:Int).toNat)])
 have el0:upd H l0 (.lst [V.int 9,V.int (10 ^ (40:Int).toNat)]) l0=some (.lst [V.int 9,V.int (10 ^ (40:Int).toNat)]):=qW
 generalize upd H l0 (.lst [V.int 9,V.int (10 ^ (40:Int).toNat)])=H0 at Sl0 el0
 wtm_at "zw"
 refine⟨c,l0,[9,10 ^ (40:Int).toNat],rfl,el0,by decide,by decide +kernel,fun r xs hr lxs bel=>?_⟩
 obtain⟨way,n,rfl⟩:∃a b,xs=[a,b]:=by
  match xs,lxs with
  | [a,b],_=>exact⟨a,b,rfl⟩
 have w0:=(bel 0 way 9 rfl rfl).1
 clear bel
 have Sr:=qV hr (.lst (intsV [way,n]))
 have er:upd H0 r (.lst (intsV [way,n])) r=some (.lst (intsV [way,n])):=qW
 generalize upd H0 r (.lst (intsV [way,n]))=H1 at Sr er
 have S1:=Sl0.trans Sr
 have ebx1:=S1 _ _ ebx
 refine⟨r,_,rfl,SqL.of er,rfl,_,_,rfl,_,_,rfl,rfl,?_⟩
 wtm_at "zw"
 refine⟨_,rfl,bx,rfl,⟨us,SqL.of ebx1⟩,kO ebx1 (qJi (xK (qC S1) pb)) (by rw[List.length_map];omega) fun wd H2 _ S2 ewd=>?_⟩
 have S12:=S1.trans S2
 wtm_at "zw"
 refine⟨bx,W.bs,us,n,rfl,S12 _ _ ebx,xK (qC S12) pb,b1,b6,ok.named,fun x H3 S3 lwx xno=>?_⟩
 have S13:=S12.trans S3
 have A3:=A0.same S13
 have wo:Words H3 wd W.ws x:=⟨S3 _ _ ewd,fun z=>by have:=congrArg List.length z;rw[List.length_map,List.length_nil] at this;omega,ok.shs,qXq lwx,xno⟩
 have ebx3:=S13 _ _ ebx
 have edx3:=S13 _ _ edx
 have elx3:=S13 _ _ elx
 wtm_at "zw"
 by_cases c0:way=0
 ·refine zF (decide_eq_true (by rw[c0])) ?_
  wtm_at "zw"
  refine⟨bx,W.bs,us,n,rfl,ebx3,xK (qC S13) pb,b1,b6,fit.sh,fun r2 bs' us' H4 S4 er2 pb' b6' sh' nb=>?_⟩
  wtm_at "zw"
  refine⟨xF (show 1≤1000000 by decide),fun y1 hy1=>?_⟩
  have Sy1:=qV hy1 (.tup [V.str (Str.ofString "yes")])
  have ey1:upd H4 y1 (.tup [V.str (Str.ofString "yes")]) y1=some (.tup [V.str (Str.ofString "yes")]):=qW
  generalize upd H4 y1 (.tup [V.str (Str.ofString "yes")])=H5 at Sy1 ey1
  wtm_at "zw"
  refine⟨xF (show 5≤1000000 by decide),fun p2 hp2=>?_⟩
  have Sp2:=qV hp2 (.tup [.ref r2,.ref dx,.ref lx,.ref y1,gv])
  have ep2:upd H5 p2 (.tup [.ref r2,.ref dx,.ref lx,.ref y1,gv]) p2=some (.tup [.ref r2,.ref dx,.ref lx,.ref y1,gv]):=qW
  generalize upd H5 p2 (.tup [.ref r2,.ref dx,.ref lx,.ref y1,gv])=H6 at Sp2 ep2
  have S46:=Sy1.trans Sp2
  have S6:=S13.trans (S4.trans S46)
  have A6:=A0.same S6
  exact q ⟨bs',W.ds,W.ls,.nul "yes",W.gt⟩ p2 r2 dx lx (.ref y1) gv H6 S6 ep2 ⟨⟨us',S46 _ _ er2,xK (qC S46) pb'⟩,A6.deeds,A6.looks,⟨y1,rfl,Sp2 _ _ ey1⟩,A6.goal⟩
   ⟨b6',sh',fit.dl,fit.ll,fit.deeds,fit.looks,⟨qFn,by show 1≤12;decide,fun x h=>by cases h⟩,fun _=>rfl,fit.goal⟩ fun g=>nb g.boxes
 refine zY (decide_eq_false (by intro z;injection z with z;exact c0 z)) ?_
 wtm_at "zw"
 by_cases c1:way=1
 ·refine zF (decide_eq_true (by rw[c1])) ?_
  wtm_at "zw"
  refine⟨xF (show 0≤1000000 by decide),fun l1 hl1=>?_⟩
  have Sl1:=qV hl1 (.lst [])
  have el1:upd H3 l1 (.lst []) l1=some (.lst []):=qW
  generalize upd H3 l1 (.lst [])=H4 at Sl1 el1
  wtm_at "zw"
  refine⟨xF (show 0≤1000000 by decide),fun l2 hl2=>?_⟩
  have Sl2:=qV hl2 (.lst [])
  have el2:upd H4 l2 (.lst []) l2=some (.lst []):=qW
  generalize upd H4 l2 (.lst [])=H5 at Sl2 el2
  wtm_at "zw"
  refine⟨xF (show 0≤1000000 by decide),fun l3 hl3=>?_⟩
  have Sl3:=qV hl3 (.lst [])
  have el3:upd H5 l3 (.lst []) l3=some (.lst []):=qW
  generalize upd H5 l3 (.lst [])=H6 at Sl3 el3
  wtm_at "zw"
  refine⟨xF (show 1≤1000000 by decide),fun y1 hy1=>?_⟩
  have Sy1:=qV hy1 (.tup [V.str (Str.ofString "yes")])
  have ey1:upd H6 y1 (.tup [V.str (Str.ofString "yes")]) y1=some (.tup [V.str (Str.ofString "yes")]):=qW
  generalize upd H6 y1 (.tup [V.str (Str.ofString "yes")])=H7 at Sy1 ey1
  wtm_at "zw"
  refine⟨xF (show 1≤1000000 by decide),fun y2 hy2=>?_⟩
  have Sy2:=qV hy2 (.tup [V.str (Str.ofString "yes")])
  have ey2:upd H7 y2 (.tup [V.str (Str.ofString "yes")]) y2=some (.tup [V.str (Str.ofString "yes")]):=qW
  generalize upd H7 y2 (.tup [V.str (Str.ofString "yes")])=H8 at Sy2 ey2
  wtm_at "zw"
  refine⟨xF (show 5≤1000000 by decide),fun p2 hp2=>?_⟩
  have Sp2:=qV hp2 (.tup [.ref l1,.ref l2,.ref l3,.ref y1,.ref y2])
  have ep2:upd H8 p2 (.tup [.ref l1,.ref l2,.ref l3,.ref y1,.ref y2]) p2=some (.tup [.ref l1,.ref l2,.ref l3,.ref y1,.ref y2]):=qW
  generalize upd H8 p2 (.tup [.ref l1,.ref l2,.ref l3,.ref y1,.ref y2])=H9 at Sp2 ep2
  have fy:Fit (.nul "yes"):=⟨qFn,by show 1≤12;decide,fun x h=>by cases h⟩
  refine q ⟨[],[],[],.nul "yes",.nul "yes"⟩ p2 l1 l2 l3 (.ref y1) (.ref y2) H9 (S13.trans (Sl1.trans (Sl2.trans (Sl3.trans (Sy1.trans (Sy2.trans Sp2)))))) ep2 ⟨⟨[],Sp2 _ _ (Sy2 _ _ (Sy1 _ _ (Sl3 _ _ (Sl2 _ _ el1)))),.nil⟩,⟨[],Sp2 _ _ (Sy2 _ _ (Sy1 _ _ (Sl3 _ _ el2))),.nil⟩,⟨[],Sp2 _ _ (Sy2 _ _ (Sy1 _ _ el3)),.nil⟩,⟨y1,rfl,Sp2 _ _ (Sy2 _ _ ey1)⟩,⟨y2,rfl,Sp2 _ _ ey2⟩⟩
   ⟨by decide,(fun b h=>by cases h),by decide,by decide,(fun b h=>by cases h),(fun b h=>by cases h),fy,fun _=>rfl,fy⟩ fun g=>?_
  have:1≤0:=g.boxes.b1
  omega
 refine zY (decide_eq_false (by intro z;injection z with z;exact c1 z)) ?_
 repeat (with_reducible first | apply L2.qAi | apply L2.qYm | apply L2.qEb)
 refine qIo _ (qSc rfl rfl edx3) fun H4 S4=>?_
 have S14:=S13.trans S4
 have A4:=A0.same S14
 have wo4:=wo.same S4
 have edx4:=S14 _ _ edx
 have ld:W.ds.length=du.length:=pd.length
 by_cases c2:way<5∧du≠[]
 ·refine zF (by rw[decide_eq_true c2.1];cases du with | nil=>exact absurd rfl c2.2 | cons _ _=>rfl) ?_
  wtm_at "zw"
  refine⟨dx,wd,du,W.ds,W.ws,x,n,rfl,edx4,Paired.mapP pd fun _ _ y=>y.same S14,fun z=>by rw[z,List.length_nil] at ld;exact c2.2 (List.length_eq_zero_iff.mp ld.symm),ok.dl,fun d hd=>⟨ok.deedF hd,(ok.deeds d hd).ne⟩,wo4,fun r2 ds' du' H5 S5 er2 pd' l101 df' bad=>?_⟩
  wtm_at "zw"
  refine⟨xF (show 5≤1000000 by decide),fun p2 hp2=>?_⟩
  have Sp2:=qV hp2 (.tup [.ref bx,.ref r2,.ref lx,bv,gv])
  have ep2:upd H5 p2 (.tup [.ref bx,.ref r2,.ref lx,bv,gv]) p2=some (.tup [.ref bx,.ref r2,.ref lx,bv,gv]):=qW
  generalize upd H5 p2 (.tup [.ref bx,.ref r2,.ref lx,bv,gv])=H6 at Sp2 ep2
  have S6:=S14.trans (S5.trans Sp2)
  have A6:=A0.same S6
  refine q ⟨W.bs,ds',W.ls,W.bt,W.gt⟩ p2 bx r2 lx bv gv H6 S6 ep2 ⟨A6.boxes,⟨du',Sp2 _ _ er2,Paired.mapP pd' fun _ _ y=>y.same Sp2⟩,A6.looks,A6.beg,A6.goal⟩ ⟨fit.b6,fit.sh,l101,fit.ll,df',fit.looks,fit.beg,fit.begC,fit.goal⟩ fun g=>?_
  rcases bad with nd | ⟨d,hd,ng⟩
  ·exact nd (List.nodup_append.mp g.nd).1
  ·exact ng ⟨g.dprice d hd,g.need d hd,(g.ways d hd).1,(g.ways d hd).2⟩
 refine zY (by
  by_cases h:way<5
  ·cases du with
   | nil=>rw[List.isEmpty_nil,Bool.not_true,Bool.and_false]
   | cons _ _=>exact absurd ⟨h,List.cons_ne_nil _ _⟩ c2
  ·rw[decide_eq_false h,Bool.false_and]) ?_
 have elx4:=S14 _ _ elx
 wtm_at "zw"
 by_cases c3:way<7
 ·refine zF (decide_eq_true c3) ?_
  wtm_at "zw"
  refine⟨dx,lx,du,lu,W.ds,W.ls,W.ws,x,n,rfl,edx4,Paired.mapP pd fun _ _ y=>y.same S14,elx4,Paired.mapP pl fun _ _ y=>y.same S14,ok.ll,fun d hd=>ok.shd hd,fun l hl=>ok.lookF hl,wo.sx,wo.no,fun r2 ls' lu' H5 S5 er2 pl' l101 lf' bad=>?_⟩
  wtm_at "zw"
  refine⟨xF (show 5≤1000000 by decide),fun p2 hp2=>?_⟩
  have Sp2:=qV hp2 (.tup [.ref bx,.ref dx,.ref r2,bv,gv])
  have ep2:upd H5 p2 (.tup [.ref bx,.ref dx,.ref r2,bv,gv]) p2=some (.tup [.ref bx,.ref dx,.ref r2,bv,gv]):=qW
  generalize upd H5 p2 (.tup [.ref bx,.ref dx,.ref r2,bv,gv])=H6 at Sp2 ep2
  have S6:=S14.trans (S5.trans Sp2)
  have A6:=A0.same S6
  refine q ⟨W.bs,W.ds,ls',W.bt,W.gt⟩ p2 bx dx r2 bv gv H6 S6 ep2 ⟨A6.boxes,A6.deeds,⟨lu',Sp2 _ _ er2,Paired.mapP pl' fun _ _ y=>y.same Sp2⟩,A6.beg,A6.goal⟩ ⟨fit.b6,fit.sh,fit.dl,l101,fit.deeds,lf',fit.beg,fit.begC,fit.goal⟩ fun g=>?_
  rcases bad with nd | ⟨l,hl,ng⟩
  ·exact nd g.nd
  ·exact ng ⟨g.lprice l hl,g.part l hl⟩
 refine zY (decide_eq_false c3) ?_
 wtm_at "zw"
 by_cases c7:way=7
 ·refine zF (decide_eq_true (by rw[c7])) ?_
  wtm_at "zw"
  refine⟨wd,bv,W.bt,W.ws,n,rfl,wo4.at',wo4.ne,A4.beg,ok.beg,ok.begd,fun t v H5 S5 tat tc td no=>?_⟩
  wtm_at "zw"
  refine⟨xF (show 5≤1000000 by decide),fun p2 hp2=>?_⟩
  have Sp2:=qV hp2 (.tup [.ref bx,.ref dx,.ref lx,v,gv])
  have ep2:upd H5 p2 (.tup [.ref bx,.ref dx,.ref lx,v,gv]) p2=some (.tup [.ref bx,.ref dx,.ref lx,v,gv]):=qW
  generalize upd H5 p2 (.tup [.ref bx,.ref dx,.ref lx,v,gv])=H6 at Sp2 ep2
  have S6:=S14.trans (S5.trans Sp2)
  have A6:=A0.same S6
  refine q ⟨W.bs,W.ds,W.ls,t,W.gt⟩ p2 bx dx lx v gv H6 S6 ep2 ⟨A6.boxes,A6.deeds,A6.looks,tat.mono (qC Sp2),A6.goal⟩ ⟨fit.b6,fit.sh,fit.dl,fit.ll,fit.deeds,fit.looks,fitC tc td ok.shs,fun _=>tc,fit.goal⟩ fun g=>?_
  obtain⟨vals,hv,ht⟩:=g.some'
  have:=no _ (env5 (qAh hv) ok.b25)
  have ht:t.truth (envOf (kvsOf W.bs vals))=true:=ht
  rw[this] at ht
  cases ht
 refine zY (decide_eq_false (by intro z;injection z with z;exact c7 z)) ?_
 wtm_at "zw"
 refine w_I ⟨by decide,by decide +kernel⟩ ?_
 wtm_at "zw"
 refine⟨W.bt,bv,x,_,rfl,A4.beg,fit.beg.ok,fit.beg.dp,fun t1 v1 H5 S5 a1 mis1=>?_⟩
 wtm_at "zw"
 refine w_I ⟨by decide,by decide +kernel⟩ ?_
 wtm_at "zw"
 refine⟨W.gt,gv,x,_,rfl,(A4.same S5).goal,fit.goal.ok,fit.goal.dp,fun t2 v2 H6 S6 a2 mis2=>?_⟩
 wtm_at "zw"
 refine⟨xF (show 2≤1000000 by decide),fun lb hlb=>?_⟩
 have Slb:=qV hlb (.lst [v1,v2])
 have elb:upd H6 lb (.lst [v1,v2]) lb=some (.lst [v1,v2]):=qW
 generalize upd H6 lb (.lst [v1,v2])=H7 at Slb elb
 have S17:=S14.trans (S5.trans (S6.trans Slb))
 wtm_at "zw"
 refine⟨xF (show 5≤1000000 by decide),fun q1 hq1=>?_⟩
 have Sq1:=qV hq1 (.tup [.ref bx,.ref dx,.ref lx,v1,gv])
 have eq1:upd H7 q1 (.tup [.ref bx,.ref dx,.ref lx,v1,gv]) q1=some (.tup [.ref bx,.ref dx,.ref lx,v1,gv]):=qW
 generalize upd H7 q1 (.tup [.ref bx,.ref dx,.ref lx,v1,gv])=H8 at Sq1 eq1
 wtm_at "zw"
 refine⟨xF (show 5≤1000000 by decide),fun q2 hq2=>?_⟩
 have Sq2:=qV hq2 (.tup [.ref bx,.ref dx,.ref lx,bv,v2])
 have eq2:upd H8 q2 (.tup [.ref bx,.ref dx,.ref lx,bv,v2]) q2=some (.tup [.ref bx,.ref dx,.ref lx,bv,v2]):=qW
 generalize upd H8 q2 (.tup [.ref bx,.ref dx,.ref lx,bv,v2])=H9 at Sq2 eq2
 wtm_at "zw"
 refine⟨xF (show 2≤1000000 by decide),fun l4 hl4=>?_⟩
 have Sl4:=qV hl4 (.lst [.ref q1,.ref q2])
 have el4:upd H9 l4 (.lst [.ref q1,.ref q2]) l4=some (.lst [.ref q1,.ref q2]):=qW
 generalize upd H9 l4 (.lst [.ref q1,.ref q2])=H10 at Sl4 el4
 have S710:=Sq1.trans (Sq2.trans Sl4)
 have S10:=S17.trans S710
 have A10:=A0.same S10
 wtm_at "zw"
 refine w_I (by decide) ?_
 obtain⟨j,v,ej,_,aj⟩:=yT (us:=[V.ref q1,V.ref q2]) n (List.cons_ne_nil _ _)
 have aj:atI [V.ref q1,V.ref q2] (n % 2)=some v:=aj
 refine⟨l4,_,_,_,rfl,rfl,SqL.of el4,aj,?_⟩
 have jl:j<2:=(List.getElem?_eq_some_iff.mp ej).1
 have:j=0∨j=1:=by omega
 rcases this with rfl | rfl <;> cases ej
 ·exact q ⟨W.bs,W.ds,W.ls,t1,W.gt⟩ q1 bx dx lx v1 gv H10 S10 (Sl4 _ _ (Sq2 _ _ eq1)) ⟨A10.boxes,A10.deeds,A10.looks,a1.mono (qC (S6.trans (Slb.trans S710))),A10.goal⟩ ⟨fit.b6,fit.sh,fit.dl,fit.ll,fit.deeds,fit.looks,mis1.fit fit.beg wo.sx,fun h=>absurd (h x mis1.has) xno,fit.goal⟩ fun g=>xno (g.beg x mis1.has)
 ·exact q ⟨W.bs,W.ds,W.ls,W.bt,t2⟩ q2 bx dx lx bv v2 H10 S10 (Sl4 _ _ eq2) ⟨A10.boxes,A10.deeds,A10.looks,A10.beg,a2.mono (qC (Slb.trans S710))⟩ ⟨fit.b6,fit.sh,fit.dl,fit.ll,fit.deeds,fit.looks,fit.beg,fit.begC,mis2.fit fit.goal wo.sx⟩ fun g=>xno (g.goal x mis2.has)

theorem zP:xM ["world","boxes","deeds","looks","begin","goal","own"] ["world"] (xB (top 61)):=⟨rfl,rfl,rfl,by decide +kernel,rfl,by decide +kernel,by decide +kernel⟩
theorem jG:CompOk (xB (top 61)) ["world","boxes","deeds","looks","begin","goal","own"] (scAt (xC (top 61)) [1] []) ["name","price","need","ways"] 4 []:=
 ⟨by decide +kernel,by decide +kernel,by decide +kernel,by decide +kernel,by decide +kernel,by decide +kernel,by decide +kernel,by decide +kernel⟩
theorem vH:CompOk (relS (scAt (xC (top 61)) [1] []) (xB (top 61))) ["name","price","need","ways"] (scAt (xC (top 61)) [1] [0,3]) ["way"] 1 []:=
 ⟨by decide +kernel,by decide +kernel,by decide +kernel,by decide +kernel,by decide +kernel,by decide +kernel,by decide +kernel,by decide +kernel⟩
theorem qEa {σ:St}{H:Hp}{Q:VK}{wa:Addr}{us:List V}{css:List (List V)}(ewa:H wa=some (.lst us))(pus:Paired (LstIn (fun _=>True) H) css us)(hl:css.length≤100)
  (q:∀(D:Addr) (ys:List V) (H':Hp),H D=none→Same H H'→H' D=some (.lst ys)→Paired (LstIn (fun b=>H b=none) H') css ys→Q (.ref D) H'):
  rdC 1 [] (gName 0) tYes (tCB (qWf K) (tCons (tVar 0) tNil)) (Itl K wa) σ H Q:=by
 have lu:=pus.length
 refine jQ (xs:=us) (fun D i ys H'=>Paired (LstIn (fun b=>H b=none∧b≠D) H') (css.take i) ys∧∀b o,H b=some o→H' b=some o) (fun D hD=>⟨.nil,qV hD _⟩)
  (fun D i ys H' _ hP=>(show Same H H' from hP.2).seq (SqL.of ewa)) (fun D i x ys H' N hD hDy ex hP hN=>?_) (fun D ys H2 hD hDy hP=>?_)
 ·obtain⟨pl,hk⟩:=hP
  have hi:i<css.length:=by rw[lu];exact(List.getElem?_eq_some_iff.mp ex).1
  obtain⟨cs,ec⟩:∃b,css[i]? = some b:=⟨_,List.getElem?_eq_getElem hi⟩
  obtain⟨l0,rfl,_,el0⟩:=xV pus ec ex
  have ll:=pl.length
  rw[List.length_take] at ll
  refine⟨⟨[some (.ref l0)],rfl,rfl⟩,?_⟩
  refine⟨_,rfl,l0,cs,rfl,.inl (SqL.of (hk _ _ el0)),fun l hl'=>?_⟩
  have Dl:D≠l:=qB hDy hl'
  refine⟨by rw[qA Dl];exact hDy,small (by omega),hN _ _ qW ⟨?_,fun b o e=>?_⟩⟩
  ·rw[List.take_add_one,ec]
   refine Paired.snoc (Paired.mapP pl fun _ _ z=>z.move (fun b o ok e=>?_) fun _ z=>z) ⟨l,rfl,⟨(show Same H H' from hk).free hl',Ne.symm Dl⟩,by rw[qA (Ne.symm Dl)];exact qW⟩
   rw[qA ok.2,qA (qB e hl')];exact e
  ·rw[qA (qB e hD),qA (qB (hk _ _ e) hl')];exact hk _ _ e
 obtain⟨pl,hk⟩:=hP
 rw[← lu,List.take_length] at pl
 exact q D ys H2 hD hk hDy (Paired.mapP pl fun _ _ z=>z.move (fun b o _ e=>e) fun _ z=>z.1)
theorem qMf {σ:St}{H:Hp}{Q:VK}{dx:Addr}{us:List V}{ps:List (Deed×V×List (List V))}(e1:H dx=some (.lst us))(p1:Paired (fun p u=>DeedAt (fun _=>True) H p.1.name p.1.price p.2 u) ps us)(hl:ps.length≤1000)
  (h2:∀p∈ps,p.2.2.length≤100)
  (q:∀(D:Addr) (ys:List V) (H':Hp),H D=none→Same H H'→H' D=some (.lst ys)→Paired (fun p u=>DeedAt (fun b=>b≠D) H' p.1.name p.1.price p.2 u) ps ys→Q (.ref D) H'):
  rdC 4 [] (gTup K 4 (gCons (gName 0) (gCons (gName 1) (gCons (gName 2) (gCons (gName 3) gNil))))) tYes (tTup (tCons (tVar 0) (tCons (tVar 1) (tCons (tVar 2) (tCons (tComp 1 [] (iList K (tVar 3)) (gName 0) tYes (tCB (qWf K) (tCons (tVar 0) tNil))) tNil))))) (Itl K dx) σ H Q:=by
 have lb:us.length=ps.length:=p1.length.symm
 refine jQ (xs:=us) (fun D i ys H'=>Paired (fun p u=>DeedAt (fun b=>b≠D) H' p.1.name p.1.price p.2 u) (ps.take i) ys∧∀b o,H b=some o→H' b=some o) (fun D hD=>⟨.nil,qV hD _⟩)
  (fun D i ys H' _ hP=>(show Same H H' from hP.2).seq (SqL.of e1)) (fun D i x ys H' N hD hDy ex hP hN=>?_) (fun D ys H2 hD hDy hP=>?_)
 ·obtain⟨pl,hk⟩:=hP
  have hi:i<ps.length:=by rw[← lb];exact(List.getElem?_eq_some_iff.mp ex).1
  obtain⟨b,eb⟩:∃b,ps[i]? = some b:=⟨_,List.getElem?_eq_getElem hi⟩
  have db:=xV p1 eb ex
  have ll:=pl.length
  rw[List.length_take] at ll
  obtain⟨a,wa,wu,rfl,ea,_,ewa,pus⟩:=db.move (ok':=fun _=>True) (fun b o _ e=>hk _ _ e) (qC hk) (fun _ z=>z)
  refine⟨a,_,rfl,SqT.of ea,rfl,_,_,rfl,_,_,rfl,_,_,rfl,_,_,rfl,rfl,⟨[some (.str b.1.name),some (.int b.1.price),some b.2.1,some (.ref wa)],rfl,rfl⟩,?_⟩
  refine⟨_,rfl,_,rfl,_,rfl,_,rfl,wa,rfl,⟨wu,SqL.of ewa⟩,qEa ewa pus (h2 b (List.mem_of_getElem? eb)) fun W2 ws2 H3 nW2 S3 eW2 pW2=>?_⟩
  refine⟨xF (show 4≤1000000 by decide),fun t ht=>?_⟩
  have S34:=qV ht (.tup [V.str b.1.name,V.int b.1.price,b.2.1,V.ref W2])
  have S4:=S3.trans S34
  have dy:DeedAt (fun b=>H' b=none) (upd H3 t (.tup [V.str b.1.name,V.int b.1.price,b.2.1,V.ref W2])) b.1.name b.1.price b.2 (.ref t):=⟨t,W2,ws2,rfl,qW,nW2,S34 _ _ eW2,Paired.mapP pW2 fun _ _ z=>z.move (fun b o _ e=>S34 _ _ e) fun _ z=>z⟩
  generalize upd H3 t (.tup [V.str b.1.name,V.int b.1.price,b.2.1,V.ref W2])=H4 at S4 dy
  obtain⟨y,ey⟩:∃y:V,y=.ref t:=⟨_,rfl⟩
  rw[← ey] at dy ⊢
  have eD:=S4 _ _ hDy
  refine⟨eD,small (by omega),hN _ _ qW ⟨?_,fun b o e=>?_⟩⟩
  ·have T4:Tups H4 (upd H4 D (.lst (ys++[y]))):=fun b xs e=>by rw[qA (kI e eD (by intro z;cases z))];exact e
   rw[List.take_add_one,eb]
   refine Paired.snoc (Paired.mapP pl fun _ _ z=>z.move (fun b o ok e=>?_) ((qC S4).trans T4) fun _ z=>z) (dy.move (fun b o ok e=>?_) T4 fun b ok=>?_)
   ·rw[qA ok];exact S4 _ _ e
   ·rw[qA (fun z=>by subst z;rw[hDy] at ok;cases ok)];exact e
   ·intro z;subst z;rw[hDy] at ok;cases ok
  ·rw[qA (qB e hD)];exact S4 _ _ (hk _ _ e)
 obtain⟨pl,hk⟩:=hP
 rw[lb,List.take_length] at pl
 exact q D ys H2 hD hk hDy pl
noncomputable def qKv (K:PySem.W.Frag):Sp:=fun vs H Q _=>∃(W:Wd) (p bx dx lx:Addr) (bv gv:V),vs=[.ref p]∧H p=some (.tup [.ref bx,.ref dx,.ref lx,bv,gv])∧WAt H W bx dx lx bv gv∧WFit W∧
 ∀(p' bx' dx' lx':Addr) (H':Hp),Same H H'→H' p'=some (.tup [.ref bx',.ref dx',.ref lx',bv,gv])→WAt H' W bx' dx' lx' bv gv→Told K H' bx dx lx bx' dx' lx'→Q (.ref p') H'
theorem qDi (F:Fd K mg "_law_copied" (top 61) ["world"])(B:Bl mg):Dn P w K mg base "_law_copied" 1 ["world"] (qKv K):=by
 refine F.ok zP (fun vs H Q E h=>?_) (fun f cdv A outer s H vs Q E hr h=>?_)
 ·obtain⟨_,_,_,_,_,_,_,rfl,_⟩:=h
  rfl
 obtain⟨W,p0,bx,dx,lx,bv,gv,rfl,ep0,A0,fit,q⟩:=h
 obtain⟨us,ebx,pb⟩:=A0.boxes
 obtain⟨du,edx,pd⟩:=A0.deeds
 obtain⟨lu,elx,pl⟩:=A0.looks
 have dl:=fit.dl
 refine⟨_,(qZ (qP (pv 0) (jV (K:=K) (n:=5) rfl (qI (qH (i:=1) zP.nd rfl (by wtm_at "zo")) (qI (qH (i:=2) zP.nd rfl (by wtm_at "zo")) (qI (qH (i:=3) zP.nd rfl (by wtm_at "zo")) (qI (qH (i:=4) zP.nd rfl (by wtm_at "zo")) (qI (qH (i:=5) zP.nd rfl (by wtm_at "zo")) qM)))))))
  (qZ (yE (i:=6) zP.nd rfl (by wtm_at "zo") rfl jG (xQ (K:=K) (pv 2)) (fun cl fp s H=>(jV (K:=K) (n:=4) rfl (qI (qH (i:=0) jG.nd rfl (Or.inl rfl) (.inr rfl)) (qI (qH (i:=1) jG.nd rfl (Or.inl rfl) (.inr rfl)) (qI (qH (i:=2) jG.nd rfl (Or.inl rfl) (.inr rfl)) (qI (qH (i:=3) jG.nd rfl (Or.inl rfl) (.inr rfl)) qM)))))) (fun cl fp s H=>jJ) (fun cl fp s H=>(xG (qQ (pv 0) (qQ (pv 1) (qQ (pv 2) (qQ (jP rfl vH (xQ (K:=K) (pv 3)) (fun cl fp s H=>(qH (i:=0) vH.nd rfl (Or.inl rfl) (.inr rfl))) (fun cl fp s H=>jJ) (fun cl fp s H=>(xZ (yH (K:=K)) rfl B.list' qQz (qQ (pv 0) qX)))) qX)))))))
  (qJ (qO (xG (qQ (xZ (yH (K:=K)) rfl B.list' qQz (qQ (pv 1) qX)) (qQ (pv 6) (qQ (xZ (yH (K:=K)) rfl B.list' qQz (qQ (pv 3) qX)) (qQ (pv 4) (qQ (pv 5) qX)))))))))),?_⟩
 wtm_at "zf"
 refine qOe (SqL.of edx) ?_
 obtain⟨ps,eps,dat,pds⟩:=qZb pd
 have lps:ps.length=W.ds.length:=by rw[← eps,List.length_map]
 have p100:∀p∈ps,p.2.2.length≤100:=fun p hp=>by
  have h1:=(dat p hp).2.length
  have h2:=(fit.deeds p.1 (by rw[← eps];exact List.mem_map.mpr ⟨p,hp,rfl⟩)).le
  omega
 refine qMf edx pds (by omega) p100 fun dx' ys H1 ndx' S1 edx' pys=>?_
 wtm_at "zw"
 refine⟨bx,us,rfl,.inl (SqL.of (S1 _ _ ebx)),fun bx' hbx'=>?_⟩
 have Sbx':=qV hbx' (.lst us)
 have ebx':upd H1 bx' (.lst us) bx'=some (.lst us):=qW
 generalize upd H1 bx' (.lst us)=H2 at Sbx' ebx'
 have S12:=S1.trans Sbx'
 wtm_at "zw"
 refine⟨lx,lu,rfl,.inl (SqL.of (S12 _ _ elx)),fun lx' hlx'=>?_⟩
 have Slx':=qV hlx' (.lst lu)
 have elx':upd H2 lx' (.lst lu) lx'=some (.lst lu):=qW
 generalize upd H2 lx' (.lst lu)=H3 at Slx' elx'
 wtm_at "zw"
 refine⟨xF (show 5≤1000000 by decide),fun p hp=>?_⟩
 have Sp:=qV hp (.tup [.ref bx',.ref dx',.ref lx',bv,gv])
 have ep:upd H3 p (.tup [.ref bx',.ref dx',.ref lx',bv,gv]) p=some (.tup [.ref bx',.ref dx',.ref lx',bv,gv]):=qW
 generalize upd H3 p (.tup [.ref bx',.ref dx',.ref lx',bv,gv])=H4 at Sp ep
 have Sf:=Sbx'.trans (Slx'.trans Sp)
 have S14:=S1.trans Sf
 have pys':=Paired.mapP pys fun _ _ z=>z.move (ok':=fun b=>b≠dx') (fun b o _ e=>Sf _ _ e) (qC Sf) fun _ z=>z
 have pds':=Paired.mapP pds fun _ _ z=>z.move (ok':=fun _=>True) (fun b o _ e=>S14 _ _ e) (qC S14) fun _ z=>z
 have dat':∀p∈ps,jH H4 p.1 p.2:=fun p hp=>(dat p hp).same S14
 have pdj:=wU dat' pys'
 rw[eps] at pdj
 have A4:=A0.same S14
 refine q p bx' dx' lx' H4 S14 ep ⟨⟨us,Sp _ _ (Slx' _ _ ebx'),xK (qC S14) pb⟩,⟨ys,Sf _ _ edx',pdj⟩,⟨lu,Sp _ _ elx',Paired.mapP pl fun _ _ y=>y.same S14⟩,A4.beg,A4.goal⟩
  ⟨.lst (SqL.of (Sp _ _ (Slx' _ _ ebx'))) (SqL.of (S14 _ _ ebx)) rfl (Refs.same (qFw pb)),.lst (SqL.of (Sf _ _ edx')) (SqL.of (S14 _ _ edx)) (by rw[← pys.length,← pds.length]) fun j x y e1 e2=>?_,.lst (SqL.of (Sp _ _ elx')) (SqL.of (S14 _ _ elx)) rfl (qVk pl).same⟩
 obtain⟨pp,epp⟩:∃b,ps[j]? = some b:=⟨_,List.getElem?_eq_getElem (by rw[pys.length];exact(List.getElem?_eq_some_iff.mp e1).1)⟩
 have g1:=xV pys' epp e1
 have g2:=xV pds' epp e2
 exact qBo (dat' pp (List.mem_of_getElem? epp)) g1 g2

theorem yZ:xM ["world","good","e"] ["world"] (xB (top 49)):=⟨rfl,rfl,rfl,by decide +kernel,rfl,by decide +kernel,by decide +kernel⟩
structure Refs5 (K:PySem.W.Frag)(mg:Str→Option Value)(CF CT:Addr)(oth:List Addr):Prop where
 F:Ref K mg "ForkError" CF bmV
 T:Ref K mg "NoWorld" CT (.ref CF::bmV)
 fork:PySem.W.kitOne K (.ref CT) (.ref CF)=some true
 value:PySem.W.kitOne K (.ref CT) (.type "ValueError")=some true
 no:∀D∈oth,(Value.ref CT::.ref CF::bmV).contains (.ref D)=false
noncomputable def qKz:Sp:=fun vs H Q _=>∃(W:Wd) (p bx dx lx:Addr) (bv gv:V),vs=[.ref p]∧H p=some (.tup [.ref bx,.ref dx,.ref lx,bv,gv])∧WAt H W bx dx lx bv gv∧WFit W∧¬WGood W∧∀H',Same H H'→Q (.bl true) H'
theorem qDe {CF CT C1 C2 C3 C4 C5 C6 C7 C8:Addr}(YK:K.In base)(F:Fd K mg "_law_refused" (top 49) ["world"])(B:Bl mg)(B_ValueError:mg "ValueError" = none)(R:Refs5 K mg CF CT [C1,C2,C3,C4,C5,C6,C7,C8])
  {b1 b2 b3 b4 b5 b6 b7 b8:List Value} (R_NoName:Ref K mg "NoName" C1 b1) (R_NoOrder:Ref K mg "NoOrder" C2 b2) (R_NoPlan:Ref K mg "NoPlan" C3 b3) (R_NotPlain:Ref K mg "NotPlain" C4 b4) (R_NotSure:Ref K mg "NotSure" C5 b5) (R_NoText:Ref K mg "NoText" C6 b6) (R_NoWeights:Ref K mg "NoWeights" C7 b7) (R_TooMany:Ref K mg "TooMany" C8 b8)
  (X_world_of:Dx P w K mg base "world_of" 28 ["boxes","deeds","looks","begin","goal"] (qYq K CT)):Dn P w K mg base "_law_refused" 29 ["world"] qKz:=by
 refine F.ok yZ (fun vs H Q E h=>?_) (fun f cdv A outer s H vs Q E hr h=>?_)
 ·obtain⟨_,_,_,_,_,_,_,rfl,_⟩:=h
  rfl
 obtain⟨W,p0,bx,dx,lx,bv,gv,rfl,ep,A0,fit,bad,q⟩:=h
 have R_ForkError:=R.F
 have R_NoWorld:=R.T
 have RS_all:∀D∈[C1,C2,C3,C4,C5,C6,C7,C8],∃bm',ExcAt base D bm':=by
  intro D hD
  simp only[List.mem_cons,List.not_mem_nil,or_false] at hD
  rcases hD with z | z | z | z | z | z | z | z
  ·rw[z];exact⟨_,R_NoName.asks.at' _ YK⟩
  ·rw[z];exact⟨_,R_NoOrder.asks.at' _ YK⟩
  ·rw[z];exact⟨_,R_NoPlan.asks.at' _ YK⟩
  ·rw[z];exact⟨_,R_NotPlain.asks.at' _ YK⟩
  ·rw[z];exact⟨_,R_NotSure.asks.at' _ YK⟩
  ·rw[z];exact⟨_,R_NoText.asks.at' _ YK⟩
  ·rw[z];exact⟨_,R_NoWeights.asks.at' _ YK⟩
  ·rw[z];exact⟨_,R_TooMany.asks.at' _ YK⟩
 refine⟨_,(qZ (qN (i:=1) yZ.nd rfl (by wtm_at "zo") qKg)
  (qZ (qPz (i:=2) rfl rfl rfl yZ.nd rfl rfl rfl R_NoWorld.bd (R_NoWorld.asks.at' _ YK) RS_all (fun x=>PE.wk (xG (qQ (wK R_NoName) (qQ (wK R_NoOrder) (qQ (wK R_NoPlan) (qQ (wK R_NotPlain) (qQ (wK R_NotSure) (qQ (wK R_NoText) (qQ (wK R_NoWeights) (qQ (wK R_TooMany) qX))))))))) fun σ H Q h=>⟨xF (show 8≤1000000 by decide),h⟩) (qPq (qPx (qFa X_world_of hr (qQ (xH (qT (K:=K)) (pv 0) qF (fun _ _=>rfl)) (qQ (xH (qT (K:=K)) (pv 0) qF (fun _ _=>rfl)) (qQ (xH (qT (K:=K)) (pv 0) qF (fun _ _=>rfl)) (qQ (xH (qT (K:=K)) (pv 0) qF (fun _ _=>rfl)) (qQ (xH (qT (K:=K)) (pv 0) qF (fun _ _=>rfl)) qX)))))))) (fun x=>(qJ (qN (i:=1) yZ.nd rfl (by wtm_at "zo") (qFl (xJ (qEz (K:=K)) rfl B.isinstance' yD (qQ (pv 2) (qQ (wK R_ForkError) qX))) (qFg (xJ (qEx (K:=K)) rfl B.isinstance' yD (qQ (pv 2) (qQ (qPw rfl B_ValueError qYh) qX)))))))))
  (qJ (qO (pv 1))))),?_⟩
 wtm_at "zw"
 refine⟨_,rfl,p0,_,0,.ref bx,rfl,rfl,SqT.of ep,rfl,_,rfl,p0,_,1,.ref dx,rfl,rfl,SqT.of ep,rfl,_,rfl,p0,_,2,.ref lx,rfl,rfl,SqT.of ep,rfl,_,rfl,p0,_,3,bv,rfl,rfl,SqT.of ep,rfl,_,rfl,p0,_,4,gv,rfl,rfl,SqT.of ep,rfl,W,bx,dx,lx,bv,gv,rfl,A0,fit,fun g=>absurd g bad,fun _ H' S'=>?_⟩
 refine⟨CT,_,rfl,R.T.asks.at' _ YK,R.no,(by rw[List.contains_cons,beq_self_eq_true,Bool.true_or]),fun x T p hx hT ne hp=>?_⟩
 have ex:held H' x T (.ref CT) x=some (.ext (IsExc x T (.ref CT))):=qW
 have S2:Same H' (held H' x T (.ref CT)):=(qV hT _).trans (qV (by rw[qA ne.symm];exact hx) _)
 generalize held H' x T (.ref CT)=H1 at ex S2 hp ⊢
 have S3:=qV hp (.tup ([C1,C2,C3,C4,C5,C6,C7,C8].map V.ref))
 have ex2:=S3 _ _ ex
 generalize upd H1 p (.tup ([C1,C2,C3,C4,C5,C6,C7,C8].map V.ref))=H2 at S3 ex2 ⊢
 wtm_at "zw"
 refine⟨x,T,CT,_,CF,true,rfl,ex2,R.T.asks,R.fork,?_⟩
 wtm_at "zw"
 refine⟨x,T,CT,_,"ValueError",true,rfl,ex2,R.T.asks,R.value,?_⟩
 wtm_at "zw"
 refine qRb ?_
 wtm_at "zw"
 exact q _ ((S'.trans S2).trans S3)

theorem qKd:xM ["script","world","cell","wrong","handed"] ["script"] (xB (top 62)):=⟨rfl,rfl,rfl,by decide +kernel,rfl,by decide +kernel,by decide +kernel⟩

noncomputable def spLaw (K:PySem.W.Frag):Sp:=fun vs H Q _=>∃(a:Addr) (ns:List Int),vs=[.ref a]∧SqL K H a (ns.map V.int)∧ns.length≤63∧∀H',Q (.bl true) H'
theorem qTa {f C:Addr}{fd:FuncData}(F:Fun K "law" "law" (top 62) f fd)(B:Bl mg)(D_law_world:Dn P w K mg base "_law_world" 14 ["script"] (qBx K))(X_world_of:Dx P w K mg base "world_of" 28 ["boxes","deeds","looks","begin","goal"] (qYq K C))
  (D_law_wrong:Dn P w K mg base "_law_wrong" 17 ["world","cell"] qEl) (D_law_copied:Dn P w K mg base "_law_copied" 1 ["world"] (qKv K)) (D_law_refused:Dn P w K mg base "_law_refused" 29 ["world"] qKz):FnOk P w K mg base CX0 60 f fd ["script"] (spLaw K):=by
 have D_world_of:=X_world_of.calm
 refine F.ok (k:=59) qKd (fun vs H Q E h=>?_) (fun cdv A outer s H vs Q E hr h=>?_)
 ·obtain⟨_,_,rfl,_⟩:=h
  rfl
 obtain⟨a,ns,rfl,hS,h63,q⟩:=h
 refine⟨_,(qZ (qN (i:=1) qKd.nd rfl (by wtm_at "zo") (qD D_law_world hr (qQ (pv 0) qX)))
  (qZ (jE PassesOwn.never rfl (xQ (K:=K) (xX jC (xI (qQ qF qX)) (xP (zJ (K:=K)) (pv 0) (zQ qF) (zQ qF)))) (qH (i:=2) qKd.nd rfl (by wtm_at "zo")) (qZ (qN (i:=3) qKd.nd rfl (by wtm_at "zo") (qD D_law_wrong hr (qQ (pv 1) (qQ (pv 2) qX))))
  (qZ (qN (i:=4) qKd.nd rfl (by wtm_at "zo") (qD D_law_copied hr (qQ (pv 3) qX)))
  (qZ (zK (PW.pt (qWg (qFc (qKf (qD D_law_refused hr (qQ (pv 4) qX)))) (qJj (qS (qGq (K:=K) hr.units) (pv 4) (pv 3) (xE _))))) (qJ (qO qKg)) qY)
  (qJ (zK (qS (qGq (K:=K) hr.units) (qD D_world_of hr (qQ (xH (qT (K:=K)) (pv 1) qF (fun _ _=>rfl)) (qQ (xH (qT (K:=K)) (pv 1) qF (fun _ _=>rfl)) (qQ (xH (qT (K:=K)) (pv 1) qF (fun _ _=>rfl)) (qQ (xH (qT (K:=K)) (pv 1) qF (fun _ _=>rfl)) (qQ (xH (qT (K:=K)) (pv 1) qF (fun _ _=>rfl)) qX)))))) (pv 1) (xE _)) (qJ (qO qKg)) qY))))))
  (qJ (qO qKg)))),?_⟩
 wtm_at "zw"
 refine⟨a,ns,rfl,hS,h63,fun p0 W bx dx lx bv gv H1 S1 ep0 A1 ok=>?_⟩
 wtm_at "zw"
 refine qEq (a:=a) (ns:=ns) rfl (S1.seq hS) h63 fun l3 xs H3 S3 el3 items _=>?_
 refine jB (xs:=xs) (fun i σ' H'=>∃z2 z3 z4:Option V,σ'=[some (.ref a),some (.ref p0),z2,z3,z4]∧Same H3 H')
  ⟨none,none,none,rfl,Same.refl _⟩ (fun i σ' H' _ hP=>?_) (fun N rt bk i x σ' H' ex hP hN=>?_) (fun σ' H' hP=>?_)
 ·obtain⟨_,_,_,_,S⟩:=hP
  exact S.seq (SqL.of el3)
 ·obtain⟨z2,z3,z4,rfl,S5⟩:=hP
  obtain⟨c,rfl⟩:=items x (List.mem_of_getElem? ex)
  have S15:=S3.trans S5
  wtm_at "zw"
  refine⟨W,p0,bx,dx,lx,bv,gv,c,rfl,S15 _ _ ep0,A1.same S15,ok,fun W' p1 bx1 dx1 lx1 bv1 gv1 H6 S6 ep1 A6 fit bad=>?_⟩
  wtm_at "zw"
  refine⟨W',p1,bx1,dx1,lx1,bv1,gv1,rfl,ep1,A6,fit,fun p2 bx2 dx2 lx2 H7 S7 ep2 A7 T7=>?_⟩
  wtm_at "zw"
  refine⟨W',p2,bx2,dx2,lx2,bv1,gv1,rfl,ep2,A7,fit,bad,fun H8 S8=>?_⟩
  wtm_at "zw"
  have A8:=A7.same S8
  refine⟨4,p2,p1,_,_,by decide,rfl,rfl,SqT.of (S8 _ _ ep2),SqT.of ((S7.trans S8) _ _ ep1),rfl,qEg (T7.same S8) A8.beg A8.goal,?_⟩
  wtm_at "zw"
  have S18:=S15.trans (S6.trans (S7.trans S8))
  have ep08:=S18 _ _ ep0
  have A18:=A1.same S18
  wtm_at "zw"
  refine⟨W,bx,dx,lx,bv,gv,rfl,A18,ok.fit,fun _ p9 bx9 dx9 lx9 H9 S9 ep9 A9 T9=>?_,fun g=>absurd ok.good g⟩
  wtm_at "zw"
  refine⟨4,p9,p0,_,_,by decide,rfl,rfl,SqT.of ep9,SqT.of (S9 _ _ ep08),rfl,qEg T9 A9.beg A9.goal,?_⟩
  wtm_at "zw"
  exact hN _ _ ⟨_,_,_,rfl,S5.trans (S6.trans (S7.trans (S8.trans S9)))⟩
 ·obtain⟨z2,z3,z4,rfl,S5⟩:=hP
  wtm_at "zw"
  exact q _

end
theorem len1 {C:List Value→Prop}(h:∀a0:Value,C [a0])(us:List Value)(e:us.length=1):C us:=by
 cases us with
 | nil=>cases e
 | cons a r=>
  cases r with
  | nil=>exact h a
  | cons _ _=>exact absurd (Nat.succ.inj e) (Nat.succ_ne_zero _)

theorem len2 {C:List Value→Prop}(h:∀a0 a1:Value,C [a0,a1])(us:List Value)(e:us.length=2):C us:=by
 cases us with
 | nil=>cases e
 | cons a r=>exact len1 (C:=fun r=>C (a::r)) (h a) r (Nat.succ.inj e)

theorem len3 {C:List Value→Prop}(h:∀a0 a1 a2:Value,C [a0,a1,a2])(us:List Value)(e:us.length=3):C us:=by
 cases us with
 | nil=>cases e
 | cons a r=>exact len2 (C:=fun r=>C (a::r)) (h a) r (Nat.succ.inj e)

theorem len4 {C:List Value→Prop}(h:∀a0 a1 a2 a3:Value,C [a0,a1,a2,a3])(us:List Value)(e:us.length=4):C us:=by
 cases us with
 | nil=>cases e
 | cons a r=>exact len3 (C:=fun r=>C (a::r)) (h a) r (Nat.succ.inj e)

theorem len5 {C:List Value→Prop}(h:∀a0 a1 a2 a3 a4:Value,C [a0,a1,a2,a3,a4])(us:List Value)(e:us.length=5):C us:=by
 cases us with
 | nil=>cases e
 | cons a r=>exact len4 (C:=fun r=>C (a::r)) (h a) r (Nat.succ.inj e)

theorem qUb {l:PySem.W.OpenLaw}{w:World}{K:PySem.W.Frag}{h:Heap}{mg:Str→Option Value}{fa f0 f1 f2 f3 f4 f5 f6 f7 f8 f9 f10 f11 f12 f13 f14 f15 f16 f17 f18 f19 f20 f21 f22 f23 f24 f25 f26 f27 f28 f29 f30 f31 f32 f33 f34 f35 f36 f37 f38 f39 f40 f41 f42 f43 f44:Addr}(X:K.In h)(G:h.Ns mainGlobals mg)(hfa:mg "law" = some (.ref fa))
  {od0 an0 od1 an1 od2 an2 od3 an3 od4 an4 od5 an5 od6 an6 od7 an7 od8 an8 od9 an9 od10 an10 od11 an11 od12 an12 od13 an13 od14 an14 od15 an15 od16 an16 od17 an17 od18 an18 od19 an19 od20 an20 od21 an21 od22 an22 od23 an23 od24 an24 od25 an25 od26 an26 od27 an27 od28 an28 od29 an29 od30 an30 od31 an31 od32 an32 od33 an33 od34 an34 od35 an35 od36 an36 od37 an37 od38 an38 od39 an39 od40 an40 od41 an41 od42 an42 od43 an43 od44 an44:Option Addr} {sl0 sl1 sl2 sl3 sl4 sl5 sl6 sl7 sl8 sl9 sl10 sl11 sl12 sl13 sl14 sl15 sl16 sl17 sl18 sl19 sl20 sl21 sl22 sl23 sl24 sl25 sl26 sl27 sl28 sl29 sl30 sl31 sl32 sl33 sl34 sl35 sl36 sl37 sl38 sl39 sl40 sl41 sl42 sl43 sl44:Array (Option Value)} {oc0 kV0 dc0 pm0 cd0 ct0 oc1 kV1 dc1 pm1 cd1 ct1 oc2 kV2 dc2 pm2 cd2 ct2 oc3 kV3 dc3 pm3 cd3 ct3 oc4 kV4 dc4 pm4 cd4 ct4 oc5 kV5 dc5 pm5 cd5 ct5 oc6 kV6 dc6 pm6 cd6 ct6 oc7 kV7 dc7 pm7 cd7 ct7 oc8 kV8 dc8 pm8 cd8 ct8 oc9 kV9 dc9 pm9 cd9 ct9 oc10 kV10 dc10 pm10 cd10 ct10 oc11 kV11 dc11 pm11 cd11 ct11 oc12 kV12 dc12 pm12 cd12 ct12 oc13 kV13 dc13 pm13 cd13 ct13 oc14 kV14 dc14 pm14 cd14 ct14 oc15 kV15 dc15 pm15 cd15 ct15 oc16 kV16 dc16 pm16 cd16 ct16 oc17 kV17 dc17 pm17 cd17 ct17 oc18 kV18 dc18 pm18 cd18 ct18 oc19 kV19 dc19 pm19 cd19 ct19 oc20 kV20 dc20 pm20 cd20 ct20 oc21 kV21 dc21 pm21 cd21 ct21 oc22 kV22 dc22 pm22 cd22 ct22 oc23 kV23 dc23 pm23 cd23 ct23 oc24 kV24 dc24 pm24 cd24 ct24 oc25 kV25 dc25 pm25 cd25 ct25 oc26 kV26 dc26 pm26 cd26 ct26 oc27 kV27 dc27 pm27 cd27 ct27 oc28 kV28 dc28 pm28 cd28 ct28 oc29 kV29 dc29 pm29 cd29 ct29 oc30 kV30 dc30 pm30 cd30 ct30 oc31 kV31 dc31 pm31 cd31 ct31 oc32 kV32 dc32 pm32 cd32 ct32 oc33 kV33 dc33 pm33 cd33 ct33 oc34 kV34 dc34 pm34 cd34 ct34 oc35 kV35 dc35 pm35 cd35 ct35 oc36 kV36 dc36 pm36 cd36 ct36 oc37 kV37 dc37 pm37 cd37 ct37 oc38 kV38 dc38 pm38 cd38 ct38 oc39 kV39 dc39 pm39 cd39 ct39 oc40 kV40 dc40 pm40 cd40 ct40 oc41 kV41 dc41 pm41 cd41 ct41 oc42 kV42 dc42 pm42 cd42 ct42 oc43 kV43 dc43 pm43 cd43 ct43 oc44 kV44 dc44 pm44 cd44 ct44:Value}
  (a0:PySem.W.nsIn K mainGlobals "world_of" = some (some (.ref f0))) (l0:K.lookup f0=some ⟨oc0,od0,.func (PySem.W.fnOf "world_of" "world_of" (xD (top 22)) (xC (top 22)) (xB (top 22)) .none kV0 dc0 pm0 an0 cd0 ct0),sl0⟩) (c0:PySem.W.codeIn K cd0 "world_of" = true) (k0:PySem.W.keepIn K (.ref f0)=true)
  (a1:PySem.W.nsIn K mainGlobals "standings_of_boxes" = some (some (.ref f1))) (l1:K.lookup f1=some ⟨oc1,od1,.func (PySem.W.fnOf "standings_of_boxes" "standings_of_boxes" (xD (top 23)) (xC (top 23)) (xB (top 23)) .none kV1 dc1 pm1 an1 cd1 ct1),sl1⟩) (c1:PySem.W.codeIn K cd1 "standings_of_boxes" = true) (k1:PySem.W.keepIn K (.ref f1)=true)
  (a2:PySem.W.nsIn K mainGlobals "copied_deed" = some (some (.ref f2))) (l2:K.lookup f2=some ⟨oc2,od2,.func (PySem.W.fnOf "copied_deed" "copied_deed" (xD (top 24)) (xC (top 24)) (xB (top 24)) .none kV2 dc2 pm2 an2 cd2 ct2),sl2⟩) (c2:PySem.W.codeIn K cd2 "copied_deed" = true) (k2:PySem.W.keepIn K (.ref f2)=true)
  (a3:PySem.W.nsIn K mainGlobals "is_whole" = some (some (.ref f3))) (l3:K.lookup f3=some ⟨oc3,od3,.func (PySem.W.fnOf "is_whole" "is_whole" (xD (top 25)) (xC (top 25)) (xB (top 25)) .none kV3 dc3 pm3 an3 cd3 ct3),sl3⟩) (c3:PySem.W.codeIn K cd3 "is_whole" = true) (k3:PySem.W.keepIn K (.ref f3)=true)
  (a4:PySem.W.nsIn K mainGlobals "refuse_boxes" = some (some (.ref f4))) (l4:K.lookup f4=some ⟨oc4,od4,.func (PySem.W.fnOf "refuse_boxes" "refuse_boxes" (xD (top 26)) (xC (top 26)) (xB (top 26)) .none kV4 dc4 pm4 an4 cd4 ct4),sl4⟩) (c4:PySem.W.codeIn K cd4 "refuse_boxes" = true) (k4:PySem.W.keepIn K (.ref f4)=true)
  (a5:PySem.W.nsIn K mainGlobals "refuse_twice" = some (some (.ref f5))) (l5:K.lookup f5=some ⟨oc5,od5,.func (PySem.W.fnOf "refuse_twice" "refuse_twice" (xD (top 27)) (xC (top 27)) (xB (top 27)) .none kV5 dc5 pm5 an5 cd5 ct5),sl5⟩) (c5:PySem.W.codeIn K cd5 "refuse_twice" = true) (k5:PySem.W.keepIn K (.ref f5)=true)
  (a6:PySem.W.nsIn K mainGlobals "refuse_price" = some (some (.ref f6))) (l6:K.lookup f6=some ⟨oc6,od6,.func (PySem.W.fnOf "refuse_price" "refuse_price" (xD (top 28)) (xC (top 28)) (xB (top 28)) .none kV6 dc6 pm6 an6 cd6 ct6),sl6⟩) (c6:PySem.W.codeIn K cd6 "refuse_price" = true) (k6:PySem.W.keepIn K (.ref f6)=true)
  (a7:PySem.W.nsIn K mainGlobals "refuse_ways" = some (some (.ref f7))) (l7:K.lookup f7=some ⟨oc7,od7,.func (PySem.W.fnOf "refuse_ways" "refuse_ways" (xD (top 29)) (xC (top 29)) (xB (top 29)) .none kV7 dc7 pm7 an7 cd7 ct7),sl7⟩) (c7:PySem.W.codeIn K cd7 "refuse_ways" = true) (k7:PySem.W.keepIn K (.ref f7)=true)
  (a8:PySem.W.nsIn K mainGlobals "refuse_strange_name" = some (some (.ref f8))) (l8:K.lookup f8=some ⟨oc8,od8,.func (PySem.W.fnOf "refuse_strange_name" "refuse_strange_name" (xD (top 30)) (xC (top 30)) (xB (top 30)) .none kV8 dc8 pm8 an8 cd8 ct8),sl8⟩) (c8:PySem.W.codeIn K cd8 "refuse_strange_name" = true) (k8:PySem.W.keepIn K (.ref f8)=true)
  (a9:PySem.W.nsIn K mainGlobals "refuse_strange_names" = some (some (.ref f9))) (l9:K.lookup f9=some ⟨oc9,od9,.func (PySem.W.fnOf "refuse_strange_names" "refuse_strange_names" (xD (top 31)) (xC (top 31)) (xB (top 31)) .none kV9 dc9 pm9 an9 cd9 ct9),sl9⟩) (c9:PySem.W.codeIn K cd9 "refuse_strange_names" = true) (k9:PySem.W.keepIn K (.ref f9)=true)
  (a10:PySem.W.nsIn K mainGlobals "refuse_begin" = some (some (.ref f10))) (l10:K.lookup f10=some ⟨oc10,od10,.func (PySem.W.fnOf "refuse_begin" "refuse_begin" (xD (top 32)) (xC (top 32)) (xB (top 32)) .none kV10 dc10 pm10 an10 cd10 ct10),sl10⟩) (c10:PySem.W.codeIn K cd10 "refuse_begin" = true) (k10:PySem.W.keepIn K (.ref f10)=true)
  (a11:PySem.W.nsIn K mainGlobals "holds" = some (some (.ref f11))) (l11:K.lookup f11=some ⟨oc11,od11,.func (PySem.W.fnOf "holds" "holds" (xD (top 12)) (xC (top 12)) (xB (top 12)) .none kV11 dc11 pm11 an11 cd11 ct11),sl11⟩) (c11:PySem.W.codeIn K cd11 "holds" = true) (k11:PySem.W.keepIn K (.ref f11)=true)
  (a12:PySem.W.nsIn K mainGlobals "names_in" = some (some (.ref f12))) (l12:K.lookup f12=some ⟨oc12,od12,.func (PySem.W.fnOf "names_in" "names_in" (xD (top 13)) (xC (top 13)) (xB (top 13)) .none kV12 dc12 pm12 an12 cd12 ct12),sl12⟩) (c12:PySem.W.codeIn K cd12 "names_in" = true) (k12:PySem.W.keepIn K (.ref f12)=true)
  (a13:PySem.W.nsIn K mainGlobals "values_by_name" = some (some (.ref f13))) (l13:K.lookup f13=some ⟨oc13,od13,.func (PySem.W.fnOf "values_by_name" "values_by_name" (xD (top 14)) (xC (top 14)) (xB (top 14)) .none kV13 dc13 pm13 an13 cd13 ct13),sl13⟩) (c13:PySem.W.codeIn K cd13 "values_by_name" = true) (k13:PySem.W.keepIn K (.ref f13)=true)
  (a14:PySem.W.nsIn K mainGlobals "worth_by" = some (some (.ref f14))) (l14:K.lookup f14=some ⟨oc14,od14,.func (PySem.W.fnOf "worth_by" "worth_by" (xD (top 15)) (xC (top 15)) (xB (top 15)) .none kV14 dc14 pm14 an14 cd14 ct14),sl14⟩) (c14:PySem.W.codeIn K cd14 "worth_by" = true) (k14:PySem.W.keepIn K (.ref f14)=true)
  (a15:PySem.W.nsIn K mainGlobals "holds_by" = some (some (.ref f15))) (l15:K.lookup f15=some ⟨oc15,od15,.func (PySem.W.fnOf "holds_by" "holds_by" (xD (top 16)) (xC (top 16)) (xB (top 16)) .none kV15 dc15 pm15 an15 cd15 ct15),sl15⟩) (c15:PySem.W.codeIn K cd15 "holds_by" = true) (k15:PySem.W.keepIn K (.ref f15)=true)
  (a16:PySem.W.nsIn K mainGlobals "_law_cell_at" = some (some (.ref f16))) (l16:K.lookup f16=some ⟨oc16,od16,.func (PySem.W.fnOf "_law_cell_at" "_law_cell_at" (xD (top 34)) (xC (top 34)) (xB (top 34)) .none kV16 dc16 pm16 an16 cd16 ct16),sl16⟩) (c16:PySem.W.codeIn K cd16 "_law_cell_at" = true) (k16:PySem.W.keepIn K (.ref f16)=true)
  (a17:PySem.W.nsIn K mainGlobals "_law_stir" = some (some (.ref f17))) (l17:K.lookup f17=some ⟨oc17,od17,.func (PySem.W.fnOf "_law_stir" "_law_stir" (xD (top 35)) (xC (top 35)) (xB (top 35)) .none kV17 dc17 pm17 an17 cd17 ct17),sl17⟩) (c17:PySem.W.codeIn K cd17 "_law_stir" = true) (k17:PySem.W.keepIn K (.ref f17)=true)
  (a18:PySem.W.nsIn K mainGlobals "_law_drawn" = some (some (.ref f18))) (l18:K.lookup f18=some ⟨oc18,od18,.func (PySem.W.fnOf "_law_drawn" "_law_drawn" (xD (top 36)) (xC (top 36)) (xB (top 36)) .none kV18 dc18 pm18 an18 cd18 ct18),sl18⟩) (c18:PySem.W.codeIn K cd18 "_law_drawn" = true) (k18:PySem.W.keepIn K (.ref f18)=true)
  (a19:PySem.W.nsIn K mainGlobals "_law_deck" = some (some (.ref f19))) (l19:K.lookup f19=some ⟨oc19,od19,.func (PySem.W.fnOf "_law_deck" "_law_deck" (xD (top 37)) (xC (top 37)) (xB (top 37)) .none kV19 dc19 pm19 an19 cd19 ct19),sl19⟩) (c19:PySem.W.codeIn K cd19 "_law_deck" = true) (k19:PySem.W.keepIn K (.ref f19)=true)
  (a20:PySem.W.nsIn K mainGlobals "_law_take" = some (some (.ref f20))) (l20:K.lookup f20=some ⟨oc20,od20,.func (PySem.W.fnOf "_law_take" "_law_take" (xD (top 38)) (xC (top 38)) (xB (top 38)) .none kV20 dc20 pm20 an20 cd20 ct20),sl20⟩) (c20:PySem.W.codeIn K cd20 "_law_take" = true) (k20:PySem.W.keepIn K (.ref f20)=true)
  (a21:PySem.W.nsIn K mainGlobals "_law_unlike" = some (some (.ref f21))) (l21:K.lookup f21=some ⟨oc21,od21,.func (PySem.W.fnOf "_law_unlike" "_law_unlike" (xD (top 39)) (xC (top 39)) (xB (top 39)) .none kV21 dc21 pm21 an21 cd21 ct21),sl21⟩) (c21:PySem.W.codeIn K cd21 "_law_unlike" = true) (k21:PySem.W.keepIn K (.ref f21)=true)
  (a22:PySem.W.nsIn K mainGlobals "_law_boxes" = some (some (.ref f22))) (l22:K.lookup f22=some ⟨oc22,od22,.func (PySem.W.fnOf "_law_boxes" "_law_boxes" (xD (top 40)) (xC (top 40)) (xB (top 40)) .none kV22 dc22 pm22 an22 cd22 ct22),sl22⟩) (c22:PySem.W.codeIn K cd22 "_law_boxes" = true) (k22:PySem.W.keepIn K (.ref f22)=true)
  (a23:PySem.W.nsIn K mainGlobals "_law_expr" = some (some (.ref f23))) (l23:K.lookup f23=some ⟨oc23,od23,.func (PySem.W.fnOf "_law_expr" "_law_expr" (xD (top 41)) (xC (top 41)) (xB (top 41)) .none kV23 dc23 pm23 an23 cd23 ct23),sl23⟩) (c23:PySem.W.codeIn K cd23 "_law_expr" = true) (k23:PySem.W.keepIn K (.ref f23)=true)
  (a24:PySem.W.nsIn K mainGlobals "_law_cond" = some (some (.ref f24))) (l24:K.lookup f24=some ⟨oc24,od24,.func (PySem.W.fnOf "_law_cond" "_law_cond" (xD (top 42)) (xC (top 42)) (xB (top 42)) .none kV24 dc24 pm24 an24 cd24 ct24),sl24⟩) (c24:PySem.W.codeIn K cd24 "_law_cond" = true) (k24:PySem.W.keepIn K (.ref f24)=true)
  (a25:PySem.W.nsIn K mainGlobals "_law_worth" = some (some (.ref f25))) (l25:K.lookup f25=some ⟨oc25,od25,.func (PySem.W.fnOf "_law_worth" "_law_worth" (xD (top 43)) (xC (top 43)) (xB (top 43)) .none kV25 dc25 pm25 an25 cd25 ct25),sl25⟩) (c25:PySem.W.codeIn K cd25 "_law_worth" = true) (k25:PySem.W.keepIn K (.ref f25)=true)
  (a26:PySem.W.nsIn K mainGlobals "_law_holds" = some (some (.ref f26))) (l26:K.lookup f26=some ⟨oc26,od26,.func (PySem.W.fnOf "_law_holds" "_law_holds" (xD (top 44)) (xC (top 44)) (xB (top 44)) .none kV26 dc26 pm26 an26 cd26 ct26),sl26⟩) (c26:PySem.W.codeIn K cd26 "_law_holds" = true) (k26:PySem.W.keepIn K (.ref f26)=true)
  (a27:PySem.W.nsIn K mainGlobals "_law_values" = some (some (.ref f27))) (l27:K.lookup f27=some ⟨oc27,od27,.func (PySem.W.fnOf "_law_values" "_law_values" (xD (top 45)) (xC (top 45)) (xB (top 45)) .none kV27 dc27 pm27 an27 cd27 ct27),sl27⟩) (c27:PySem.W.codeIn K cd27 "_law_values" = true) (k27:PySem.W.keepIn K (.ref f27)=true)
  (a28:PySem.W.nsIn K mainGlobals "_law_standings" = some (some (.ref f28))) (l28:K.lookup f28=some ⟨oc28,od28,.func (PySem.W.fnOf "_law_standings" "_law_standings" (xD (top 46)) (xC (top 46)) (xB (top 46)) .none kV28 dc28 pm28 an28 cd28 ct28),sl28⟩) (c28:PySem.W.codeIn K cd28 "_law_standings" = true) (k28:PySem.W.keepIn K (.ref f28)=true)
  (a29:PySem.W.nsIn K mainGlobals "_law_deed" = some (some (.ref f29))) (l29:K.lookup f29=some ⟨oc29,od29,.func (PySem.W.fnOf "_law_deed" "_law_deed" (xD (top 47)) (xC (top 47)) (xB (top 47)) .none kV29 dc29 pm29 an29 cd29 ct29),sl29⟩) (c29:PySem.W.codeIn K cd29 "_law_deed" = true) (k29:PySem.W.keepIn K (.ref f29)=true)
  (a30:PySem.W.nsIn K mainGlobals "_law_world" = some (some (.ref f30))) (l30:K.lookup f30=some ⟨oc30,od30,.func (PySem.W.fnOf "_law_world" "_law_world" (xD (top 48)) (xC (top 48)) (xB (top 48)) .none kV30 dc30 pm30 an30 cd30 ct30),sl30⟩) (c30:PySem.W.codeIn K cd30 "_law_world" = true) (k30:PySem.W.keepIn K (.ref f30)=true)
  (a31:PySem.W.nsIn K mainGlobals "_law_refused" = some (some (.ref f31))) (l31:K.lookup f31=some ⟨oc31,od31,.func (PySem.W.fnOf "_law_refused" "_law_refused" (xD (top 49)) (xC (top 49)) (xB (top 49)) .none kV31 dc31 pm31 an31 cd31 ct31),sl31⟩) (c31:PySem.W.codeIn K cd31 "_law_refused" = true) (k31:PySem.W.keepIn K (.ref f31)=true)
  (a32:PySem.W.nsIn K mainGlobals "_law_strange" = some (some (.ref f32))) (l32:K.lookup f32=some ⟨oc32,od32,.func (PySem.W.fnOf "_law_strange" "_law_strange" (xD (top 50)) (xC (top 50)) (xB (top 50)) .none kV32 dc32 pm32 an32 cd32 ct32),sl32⟩) (c32:PySem.W.codeIn K cd32 "_law_strange" = true) (k32:PySem.W.keepIn K (.ref f32)=true)
  (a33:PySem.W.nsIn K mainGlobals "_law_leaves" = some (some (.ref f33))) (l33:K.lookup f33=some ⟨oc33,od33,.func (PySem.W.fnOf "_law_leaves" "_law_leaves" (xD (top 51)) (xC (top 51)) (xB (top 51)) .none kV33 dc33 pm33 an33 cd33 ct33),sl33⟩) (c33:PySem.W.codeIn K cd33 "_law_leaves" = true) (k33:PySem.W.keepIn K (.ref f33)=true)
  (a34:PySem.W.nsIn K mainGlobals "_law_put" = some (some (.ref f34))) (l34:K.lookup f34=some ⟨oc34,od34,.func (PySem.W.fnOf "_law_put" "_law_put" (xD (top 52)) (xC (top 52)) (xB (top 52)) .none kV34 dc34 pm34 an34 cd34 ct34),sl34⟩) (c34:PySem.W.codeIn K cd34 "_law_put" = true) (k34:PySem.W.keepIn K (.ref f34)=true)
  (a35:PySem.W.nsIn K mainGlobals "_law_misnamed" = some (some (.ref f35))) (l35:K.lookup f35=some ⟨oc35,od35,.func (PySem.W.fnOf "_law_misnamed" "_law_misnamed" (xD (top 53)) (xC (top 53)) (xB (top 53)) .none kV35 dc35 pm35 an35 cd35 ct35),sl35⟩) (c35:PySem.W.codeIn K cd35 "_law_misnamed" = true) (k35:PySem.W.keepIn K (.ref f35)=true)
  (a36:PySem.W.nsIn K mainGlobals "_law_put_in" = some (some (.ref f36))) (l36:K.lookup f36=some ⟨oc36,od36,.func (PySem.W.fnOf "_law_put_in" "_law_put_in" (xD (top 54)) (xC (top 54)) (xB (top 54)) .none kV36 dc36 pm36 an36 cd36 ct36),sl36⟩) (c36:PySem.W.codeIn K cd36 "_law_put_in" = true) (k36:PySem.W.keepIn K (.ref f36)=true)
  (a37:PySem.W.nsIn K mainGlobals "_law_bad_way" = some (some (.ref f37))) (l37:K.lookup f37=some ⟨oc37,od37,.func (PySem.W.fnOf "_law_bad_way" "_law_bad_way" (xD (top 55)) (xC (top 55)) (xB (top 55)) .none kV37 dc37 pm37 an37 cd37 ct37),sl37⟩) (c37:PySem.W.codeIn K cd37 "_law_bad_way" = true) (k37:PySem.W.keepIn K (.ref f37)=true)
  (a38:PySem.W.nsIn K mainGlobals "_law_bad_deed" = some (some (.ref f38))) (l38:K.lookup f38=some ⟨oc38,od38,.func (PySem.W.fnOf "_law_bad_deed" "_law_bad_deed" (xD (top 56)) (xC (top 56)) (xB (top 56)) .none kV38 dc38 pm38 an38 cd38 ct38),sl38⟩) (c38:PySem.W.codeIn K cd38 "_law_bad_deed" = true) (k38:PySem.W.keepIn K (.ref f38)=true)
  (a39:PySem.W.nsIn K mainGlobals "_law_bad_look" = some (some (.ref f39))) (l39:K.lookup f39=some ⟨oc39,od39,.func (PySem.W.fnOf "_law_bad_look" "_law_bad_look" (xD (top 57)) (xC (top 57)) (xB (top 57)) .none kV39 dc39 pm39 an39 cd39 ct39),sl39⟩) (c39:PySem.W.codeIn K cd39 "_law_bad_look" = true) (k39:PySem.W.keepIn K (.ref f39)=true)
  (a40:PySem.W.nsIn K mainGlobals "_law_bad_boxes" = some (some (.ref f40))) (l40:K.lookup f40=some ⟨oc40,od40,.func (PySem.W.fnOf "_law_bad_boxes" "_law_bad_boxes" (xD (top 58)) (xC (top 58)) (xB (top 58)) .none kV40 dc40 pm40 an40 cd40 ct40),sl40⟩) (c40:PySem.W.codeIn K cd40 "_law_bad_boxes" = true) (k40:PySem.W.keepIn K (.ref f40)=true)
  (a41:PySem.W.nsIn K mainGlobals "_law_nowhere" = some (some (.ref f41))) (l41:K.lookup f41=some ⟨oc41,od41,.func (PySem.W.fnOf "_law_nowhere" "_law_nowhere" (xD (top 59)) (xC (top 59)) (xB (top 59)) .none kV41 dc41 pm41 an41 cd41 ct41),sl41⟩) (c41:PySem.W.codeIn K cd41 "_law_nowhere" = true) (k41:PySem.W.keepIn K (.ref f41)=true)
  (a42:PySem.W.nsIn K mainGlobals "_law_wrong" = some (some (.ref f42))) (l42:K.lookup f42=some ⟨oc42,od42,.func (PySem.W.fnOf "_law_wrong" "_law_wrong" (xD (top 60)) (xC (top 60)) (xB (top 60)) .none kV42 dc42 pm42 an42 cd42 ct42),sl42⟩) (c42:PySem.W.codeIn K cd42 "_law_wrong" = true) (k42:PySem.W.keepIn K (.ref f42)=true)
  (a43:PySem.W.nsIn K mainGlobals "_law_copied" = some (some (.ref f43))) (l43:K.lookup f43=some ⟨oc43,od43,.func (PySem.W.fnOf "_law_copied" "_law_copied" (xD (top 61)) (xC (top 61)) (xB (top 61)) .none kV43 dc43 pm43 an43 cd43 ct43),sl43⟩) (c43:PySem.W.codeIn K cd43 "_law_copied" = true) (k43:PySem.W.keepIn K (.ref f43)=true)
  (a44:PySem.W.nsIn K mainGlobals "law" = some (some (.ref f44))) (l44:K.lookup f44=some ⟨oc44,od44,.func (PySem.W.fnOf "law" "law" (xD (top 62)) (xC (top 62)) (xB (top 62)) .none kV44 dc44 pm44 an44 cd44 ct44),sl44⟩) (c44:PySem.W.codeIn K cd44 "law" = true) (k44:PySem.W.keepIn K (.ref f44)=true)
  {t_LEAST_SIZE:Tok} (g_LEAST_SIZE:PySem.W.nsIn K mainGlobals "LEAST_SIZE" = some (some (.int 2 t_LEAST_SIZE)))
  {t_GREATEST_SIZE:Tok} (g_GREATEST_SIZE:PySem.W.nsIn K mainGlobals "GREATEST_SIZE" = some (some (.int 5 t_GREATEST_SIZE)))
  {t_LEAST_PRICE:Tok} (g_LEAST_PRICE:PySem.W.nsIn K mainGlobals "LEAST_PRICE" = some (some (.int 1 t_LEAST_PRICE)))
  {p_WORDS_OF_CONDITIONS:Addr} {n_WORDS_OF_CONDITIONS:Nat} {o_WORDS_OF_CONDITIONS:Obj} {t_WORDS_OF_CONDITIONS0 t_WORDS_OF_CONDITIONS1 t_WORDS_OF_CONDITIONS2:Tok}
  (g_WORDS_OF_CONDITIONS:PySem.W.nsIn K mainGlobals "WORDS_OF_CONDITIONS" = some (some (.ref p_WORDS_OF_CONDITIONS))) (g2_WORDS_OF_CONDITIONS:K.lookup p_WORDS_OF_CONDITIONS=some o_WORDS_OF_CONDITIONS) (g3_WORDS_OF_CONDITIONS:o_WORDS_OF_CONDITIONS.cls=.type "tuple") (g4_WORDS_OF_CONDITIONS:o_WORDS_OF_CONDITIONS.data=.seq #[.str "not" t_WORDS_OF_CONDITIONS0,.str "and" t_WORDS_OF_CONDITIONS1,.str "yes" t_WORDS_OF_CONDITIONS2] n_WORDS_OF_CONDITIONS)
  {C_ForkError N_ForkError:Addr} {nm_ForkError q_ForkError:Str} {bs_ForkError su_ForkError:List Value} {hd_ForkError ab_ForkError:Bool} {sn_ForkError:List Str} {cl_ForkError:Option Bool} {dd_ForkError nd_ForkError:Option Addr} {j0_ForkError j1_ForkError j2_ForkError j3_ForkError j5_ForkError:Option Value} {nc_ForkError:Value} {es_ForkError:Array DictEntry} {ne_ForkError:Nat} {ns_ForkError:Array (Option Value)}
  (ra_ForkError:PySem.W.nsIn K mainGlobals "ForkError" = some (some (.ref C_ForkError))) (rl_ForkError:K.lookup C_ForkError=some (excClassObj nm_ForkError q_ForkError C_ForkError N_ForkError bs_ForkError bmV hd_ForkError sn_ForkError su_ForkError ab_ForkError cl_ForkError dd_ForkError j0_ForkError j1_ForkError j2_ForkError j3_ForkError j5_ForkError "ValueError.__new__"))
  (rn_ForkError:K.lookup N_ForkError=some ⟨nc_ForkError,nd_ForkError,.dict es_ForkError ne_ForkError,ns_ForkError⟩) (rw_ForkError:jI es_ForkError.toList=true) (ri_ForkError:PySem.W.nsIn K N_ForkError "__init__" = some none)
  (r1_ForkError:PySem.W.findIn K (.ref C_ForkError) "__getattribute__" = some (some (.builtin "BaseException.__getattribute__"))) (r2_ForkError:PySem.W.findIn K (.ref C_ForkError) "__getattr__" = some none) (r3_ForkError:PySem.W.findIn K (.ref C_ForkError) "__class__" = some (some (.builtin "object.__class__")))
  {C_NoWorld N_NoWorld:Addr} {nm_NoWorld q_NoWorld:Str} {bs_NoWorld su_NoWorld:List Value} {hd_NoWorld ab_NoWorld:Bool} {sn_NoWorld:List Str} {cl_NoWorld:Option Bool} {dd_NoWorld nd_NoWorld:Option Addr} {j0_NoWorld j1_NoWorld j2_NoWorld j3_NoWorld j5_NoWorld:Option Value} {nc_NoWorld:Value} {es_NoWorld:Array DictEntry} {ne_NoWorld:Nat} {ns_NoWorld:Array (Option Value)}
  (ra_NoWorld:PySem.W.nsIn K mainGlobals "NoWorld" = some (some (.ref C_NoWorld))) (rl_NoWorld:K.lookup C_NoWorld=some (excClassObj nm_NoWorld q_NoWorld C_NoWorld N_NoWorld bs_NoWorld (.ref C_ForkError::bmV) hd_NoWorld sn_NoWorld su_NoWorld ab_NoWorld cl_NoWorld dd_NoWorld j0_NoWorld j1_NoWorld j2_NoWorld j3_NoWorld j5_NoWorld "ValueError.__new__"))
  (rn_NoWorld:K.lookup N_NoWorld=some ⟨nc_NoWorld,nd_NoWorld,.dict es_NoWorld ne_NoWorld,ns_NoWorld⟩) (rw_NoWorld:jI es_NoWorld.toList=true) (ri_NoWorld:PySem.W.nsIn K N_NoWorld "__init__" = some none)
  (r1_NoWorld:PySem.W.findIn K (.ref C_NoWorld) "__getattribute__" = some (some (.builtin "BaseException.__getattribute__"))) (r2_NoWorld:PySem.W.findIn K (.ref C_NoWorld) "__getattr__" = some none) (r3_NoWorld:PySem.W.findIn K (.ref C_NoWorld) "__class__" = some (some (.builtin "object.__class__")))
  {C_NoName N_NoName:Addr} {nm_NoName q_NoName:Str} {bs_NoName su_NoName:List Value} {hd_NoName ab_NoName:Bool} {sn_NoName:List Str} {cl_NoName:Option Bool} {dd_NoName nd_NoName:Option Addr} {j0_NoName j1_NoName j2_NoName j3_NoName j5_NoName:Option Value} {nc_NoName:Value} {es_NoName:Array DictEntry} {ne_NoName:Nat} {ns_NoName:Array (Option Value)}
  (ra_NoName:PySem.W.nsIn K mainGlobals "NoName" = some (some (.ref C_NoName))) (rl_NoName:K.lookup C_NoName=some (excClassObj nm_NoName q_NoName C_NoName N_NoName bs_NoName (.ref C_ForkError::bmV) hd_NoName sn_NoName su_NoName ab_NoName cl_NoName dd_NoName j0_NoName j1_NoName j2_NoName j3_NoName j5_NoName "ValueError.__new__"))
  (rn_NoName:K.lookup N_NoName=some ⟨nc_NoName,nd_NoName,.dict es_NoName ne_NoName,ns_NoName⟩) (rw_NoName:jI es_NoName.toList=true) (ri_NoName:PySem.W.nsIn K N_NoName "__init__" = some none)
  (r1_NoName:PySem.W.findIn K (.ref C_NoName) "__getattribute__" = some (some (.builtin "BaseException.__getattribute__"))) (r2_NoName:PySem.W.findIn K (.ref C_NoName) "__getattr__" = some none) (r3_NoName:PySem.W.findIn K (.ref C_NoName) "__class__" = some (some (.builtin "object.__class__")))
  {C_NoOrder N_NoOrder:Addr} {nm_NoOrder q_NoOrder:Str} {bs_NoOrder su_NoOrder:List Value} {hd_NoOrder ab_NoOrder:Bool} {sn_NoOrder:List Str} {cl_NoOrder:Option Bool} {dd_NoOrder nd_NoOrder:Option Addr} {j0_NoOrder j1_NoOrder j2_NoOrder j3_NoOrder j5_NoOrder:Option Value} {nc_NoOrder:Value} {es_NoOrder:Array DictEntry} {ne_NoOrder:Nat} {ns_NoOrder:Array (Option Value)}
  (ra_NoOrder:PySem.W.nsIn K mainGlobals "NoOrder" = some (some (.ref C_NoOrder))) (rl_NoOrder:K.lookup C_NoOrder=some (excClassObj nm_NoOrder q_NoOrder C_NoOrder N_NoOrder bs_NoOrder (.ref C_ForkError::bmV) hd_NoOrder sn_NoOrder su_NoOrder ab_NoOrder cl_NoOrder dd_NoOrder j0_NoOrder j1_NoOrder j2_NoOrder j3_NoOrder j5_NoOrder "ValueError.__new__"))
  (rn_NoOrder:K.lookup N_NoOrder=some ⟨nc_NoOrder,nd_NoOrder,.dict es_NoOrder ne_NoOrder,ns_NoOrder⟩) (rw_NoOrder:jI es_NoOrder.toList=true) (ri_NoOrder:PySem.W.nsIn K N_NoOrder "__init__" = some none)
  (r1_NoOrder:PySem.W.findIn K (.ref C_NoOrder) "__getattribute__" = some (some (.builtin "BaseException.__getattribute__"))) (r2_NoOrder:PySem.W.findIn K (.ref C_NoOrder) "__getattr__" = some none) (r3_NoOrder:PySem.W.findIn K (.ref C_NoOrder) "__class__" = some (some (.builtin "object.__class__")))
  {C_NoPlan N_NoPlan:Addr} {nm_NoPlan q_NoPlan:Str} {bs_NoPlan su_NoPlan:List Value} {hd_NoPlan ab_NoPlan:Bool} {sn_NoPlan:List Str} {cl_NoPlan:Option Bool} {dd_NoPlan nd_NoPlan:Option Addr} {j0_NoPlan j1_NoPlan j2_NoPlan j3_NoPlan j5_NoPlan:Option Value} {nc_NoPlan:Value} {es_NoPlan:Array DictEntry} {ne_NoPlan:Nat} {ns_NoPlan:Array (Option Value)}
  (ra_NoPlan:PySem.W.nsIn K mainGlobals "NoPlan" = some (some (.ref C_NoPlan))) (rl_NoPlan:K.lookup C_NoPlan=some (excClassObj nm_NoPlan q_NoPlan C_NoPlan N_NoPlan bs_NoPlan (.ref C_ForkError::bmV) hd_NoPlan sn_NoPlan su_NoPlan ab_NoPlan cl_NoPlan dd_NoPlan j0_NoPlan j1_NoPlan j2_NoPlan j3_NoPlan j5_NoPlan "ValueError.__new__"))
  (rn_NoPlan:K.lookup N_NoPlan=some ⟨nc_NoPlan,nd_NoPlan,.dict es_NoPlan ne_NoPlan,ns_NoPlan⟩) (rw_NoPlan:jI es_NoPlan.toList=true) (ri_NoPlan:PySem.W.nsIn K N_NoPlan "__init__" = some none)
  (r1_NoPlan:PySem.W.findIn K (.ref C_NoPlan) "__getattribute__" = some (some (.builtin "BaseException.__getattribute__"))) (r2_NoPlan:PySem.W.findIn K (.ref C_NoPlan) "__getattr__" = some none) (r3_NoPlan:PySem.W.findIn K (.ref C_NoPlan) "__class__" = some (some (.builtin "object.__class__")))
  {C_NotPlain N_NotPlain:Addr} {nm_NotPlain q_NotPlain:Str} {bs_NotPlain su_NotPlain:List Value} {hd_NotPlain ab_NotPlain:Bool} {sn_NotPlain:List Str} {cl_NotPlain:Option Bool} {dd_NotPlain nd_NotPlain:Option Addr} {j0_NotPlain j1_NotPlain j2_NotPlain j3_NotPlain j5_NotPlain:Option Value} {nc_NotPlain:Value} {es_NotPlain:Array DictEntry} {ne_NotPlain:Nat} {ns_NotPlain:Array (Option Value)}
  (ra_NotPlain:PySem.W.nsIn K mainGlobals "NotPlain" = some (some (.ref C_NotPlain))) (rl_NotPlain:K.lookup C_NotPlain=some (excClassObj nm_NotPlain q_NotPlain C_NotPlain N_NotPlain bs_NotPlain (.ref C_ForkError::bmV) hd_NotPlain sn_NotPlain su_NotPlain ab_NotPlain cl_NotPlain dd_NotPlain j0_NotPlain j1_NotPlain j2_NotPlain j3_NotPlain j5_NotPlain "ValueError.__new__"))
  (rn_NotPlain:K.lookup N_NotPlain=some ⟨nc_NotPlain,nd_NotPlain,.dict es_NotPlain ne_NotPlain,ns_NotPlain⟩) (rw_NotPlain:jI es_NotPlain.toList=true) (ri_NotPlain:PySem.W.nsIn K N_NotPlain "__init__" = some none)
  (r1_NotPlain:PySem.W.findIn K (.ref C_NotPlain) "__getattribute__" = some (some (.builtin "BaseException.__getattribute__"))) (r2_NotPlain:PySem.W.findIn K (.ref C_NotPlain) "__getattr__" = some none) (r3_NotPlain:PySem.W.findIn K (.ref C_NotPlain) "__class__" = some (some (.builtin "object.__class__")))
  {C_NotSure N_NotSure:Addr} {nm_NotSure q_NotSure:Str} {bs_NotSure su_NotSure:List Value} {hd_NotSure ab_NotSure:Bool} {sn_NotSure:List Str} {cl_NotSure:Option Bool} {dd_NotSure nd_NotSure:Option Addr} {j0_NotSure j1_NotSure j2_NotSure j3_NotSure j5_NotSure:Option Value} {nc_NotSure:Value} {es_NotSure:Array DictEntry} {ne_NotSure:Nat} {ns_NotSure:Array (Option Value)}
  (ra_NotSure:PySem.W.nsIn K mainGlobals "NotSure" = some (some (.ref C_NotSure))) (rl_NotSure:K.lookup C_NotSure=some (excClassObj nm_NotSure q_NotSure C_NotSure N_NotSure bs_NotSure (.ref C_ForkError::bmV) hd_NotSure sn_NotSure su_NotSure ab_NotSure cl_NotSure dd_NotSure j0_NotSure j1_NotSure j2_NotSure j3_NotSure j5_NotSure "ValueError.__new__"))
  (rn_NotSure:K.lookup N_NotSure=some ⟨nc_NotSure,nd_NotSure,.dict es_NotSure ne_NotSure,ns_NotSure⟩) (rw_NotSure:jI es_NotSure.toList=true) (ri_NotSure:PySem.W.nsIn K N_NotSure "__init__" = some none)
  (r1_NotSure:PySem.W.findIn K (.ref C_NotSure) "__getattribute__" = some (some (.builtin "BaseException.__getattribute__"))) (r2_NotSure:PySem.W.findIn K (.ref C_NotSure) "__getattr__" = some none) (r3_NotSure:PySem.W.findIn K (.ref C_NotSure) "__class__" = some (some (.builtin "object.__class__")))
  {C_NoText N_NoText:Addr} {nm_NoText q_NoText:Str} {bs_NoText su_NoText:List Value} {hd_NoText ab_NoText:Bool} {sn_NoText:List Str} {cl_NoText:Option Bool} {dd_NoText nd_NoText:Option Addr} {j0_NoText j1_NoText j2_NoText j3_NoText j5_NoText:Option Value} {nc_NoText:Value} {es_NoText:Array DictEntry} {ne_NoText:Nat} {ns_NoText:Array (Option Value)}
  (ra_NoText:PySem.W.nsIn K mainGlobals "NoText" = some (some (.ref C_NoText))) (rl_NoText:K.lookup C_NoText=some (excClassObj nm_NoText q_NoText C_NoText N_NoText bs_NoText (.ref C_ForkError::bmV) hd_NoText sn_NoText su_NoText ab_NoText cl_NoText dd_NoText j0_NoText j1_NoText j2_NoText j3_NoText j5_NoText "ValueError.__new__"))
  (rn_NoText:K.lookup N_NoText=some ⟨nc_NoText,nd_NoText,.dict es_NoText ne_NoText,ns_NoText⟩) (rw_NoText:jI es_NoText.toList=true) (ri_NoText:PySem.W.nsIn K N_NoText "__init__" = some none)
  (r1_NoText:PySem.W.findIn K (.ref C_NoText) "__getattribute__" = some (some (.builtin "BaseException.__getattribute__"))) (r2_NoText:PySem.W.findIn K (.ref C_NoText) "__getattr__" = some none) (r3_NoText:PySem.W.findIn K (.ref C_NoText) "__class__" = some (some (.builtin "object.__class__")))
  {C_NoWeights N_NoWeights:Addr} {nm_NoWeights q_NoWeights:Str} {bs_NoWeights su_NoWeights:List Value} {hd_NoWeights ab_NoWeights:Bool} {sn_NoWeights:List Str} {cl_NoWeights:Option Bool} {dd_NoWeights nd_NoWeights:Option Addr} {j0_NoWeights j1_NoWeights j2_NoWeights j3_NoWeights j5_NoWeights:Option Value} {nc_NoWeights:Value} {es_NoWeights:Array DictEntry} {ne_NoWeights:Nat} {ns_NoWeights:Array (Option Value)}
  (ra_NoWeights:PySem.W.nsIn K mainGlobals "NoWeights" = some (some (.ref C_NoWeights))) (rl_NoWeights:K.lookup C_NoWeights=some (excClassObj nm_NoWeights q_NoWeights C_NoWeights N_NoWeights bs_NoWeights (.ref C_ForkError::bmV) hd_NoWeights sn_NoWeights su_NoWeights ab_NoWeights cl_NoWeights dd_NoWeights j0_NoWeights j1_NoWeights j2_NoWeights j3_NoWeights j5_NoWeights "ValueError.__new__"))
  (rn_NoWeights:K.lookup N_NoWeights=some ⟨nc_NoWeights,nd_NoWeights,.dict es_NoWeights ne_NoWeights,ns_NoWeights⟩) (rw_NoWeights:jI es_NoWeights.toList=true) (ri_NoWeights:PySem.W.nsIn K N_NoWeights "__init__" = some none)
  (r1_NoWeights:PySem.W.findIn K (.ref C_NoWeights) "__getattribute__" = some (some (.builtin "BaseException.__getattribute__"))) (r2_NoWeights:PySem.W.findIn K (.ref C_NoWeights) "__getattr__" = some none) (r3_NoWeights:PySem.W.findIn K (.ref C_NoWeights) "__class__" = some (some (.builtin "object.__class__")))
  {C_TooMany N_TooMany:Addr} {nm_TooMany q_TooMany:Str} {bs_TooMany su_TooMany:List Value} {hd_TooMany ab_TooMany:Bool} {sn_TooMany:List Str} {cl_TooMany:Option Bool} {dd_TooMany nd_TooMany:Option Addr} {j0_TooMany j1_TooMany j2_TooMany j3_TooMany j5_TooMany:Option Value} {nc_TooMany:Value} {es_TooMany:Array DictEntry} {ne_TooMany:Nat} {ns_TooMany:Array (Option Value)}
  (ra_TooMany:PySem.W.nsIn K mainGlobals "TooMany" = some (some (.ref C_TooMany))) (rl_TooMany:K.lookup C_TooMany=some (excClassObj nm_TooMany q_TooMany C_TooMany N_TooMany bs_TooMany (.ref C_ForkError::bmV) hd_TooMany sn_TooMany su_TooMany ab_TooMany cl_TooMany dd_TooMany j0_TooMany j1_TooMany j2_TooMany j3_TooMany j5_TooMany "ValueError.__new__"))
  (rn_TooMany:K.lookup N_TooMany=some ⟨nc_TooMany,nd_TooMany,.dict es_TooMany ne_TooMany,ns_TooMany⟩) (rw_TooMany:jI es_TooMany.toList=true) (ri_TooMany:PySem.W.nsIn K N_TooMany "__init__" = some none)
  (r1_TooMany:PySem.W.findIn K (.ref C_TooMany) "__getattribute__" = some (some (.builtin "BaseException.__getattribute__"))) (r2_TooMany:PySem.W.findIn K (.ref C_TooMany) "__getattr__" = some none) (r3_TooMany:PySem.W.findIn K (.ref C_TooMany) "__class__" = some (some (.builtin "object.__class__")))
  (kf:PySem.W.kitOne K (.ref C_NoWorld) (.ref C_ForkError)=some true)
  (kv:PySem.W.kitOne K (.ref C_NoWorld) (.type "ValueError")=some true)
  (kn:[C_NoName,C_NoOrder,C_NoPlan,C_NotPlain,C_NotSure,C_NoText,C_NoWeights,C_TooMany].all (fun D=>!(Value.ref C_NoWorld::.ref C_ForkError::bmV).contains (.ref D))=true)
  (z_len:PySem.W.nsIn K mainGlobals "len" = some none)
  (z_range:PySem.W.nsIn K mainGlobals "range" = some none)
  (z_min:PySem.W.nsIn K mainGlobals "min" = some none)
  (z_isinstance:PySem.W.nsIn K mainGlobals "isinstance" = some none)
  (z_list:PySem.W.nsIn K mainGlobals "list" = some none)
  (z_reversed:PySem.W.nsIn K mainGlobals "reversed" = some none)
  (z_tuple:PySem.W.nsIn K mainGlobals "tuple" = some none)
  (z_int:PySem.W.nsIn K mainGlobals "int" = some none)
  (z_bool:PySem.W.nsIn K mainGlobals "bool" = some none)
  (z_dict:PySem.W.nsIn K mainGlobals "dict" = some none)
  (z_zip:PySem.W.nsIn K mainGlobals "zip" = some none)
  (z_set:PySem.W.nsIn K mainGlobals "set" = some none)
  (z_ValueError:PySem.W.nsIn K mainGlobals "ValueError" = some none)
  (z_max:PySem.W.nsIn K mainGlobals "max" = some none):
  ∃fd:FuncData,(∀(s:Shared) (v:Value),BindsTo s fd ⟨[v],[]⟩ [("script",v)])∧∀base:Heap,K.In base→base.Ns mainGlobals mg→FnOk l.prog w K mg base CX0 60 fa fd ["script"] (spLaw K):=by
 have e:=hfa.symm.trans (PySem.W.mg_of X G a44)
 cases e
 have F0:=zX (st:=top 22) l0 c0 k0
 have b0:=F0.binds (ps:=["boxes","deeds","looks","begin","goal"]) fun _ _ _ _ _ _=>len5 (fun _ _ _ _ _=>rfl)
 have E0:FunE K mg "world_of" f0 _ ["boxes","deeds","looks","begin","goal"]:=⟨PySem.W.mg_of X G a0,k0,b0⟩
 have FD_world_of:Fd K mg "world_of" (top 22) ["boxes","deeds","looks","begin","goal"]:=⟨f0,_,F0,E0.mg,E0.kp,E0.bd⟩
 have F1:=zX (st:=top 23) l1 c1 k1
 have b1:=F1.binds (ps:=["boxes"]) fun _ _ _ _ _ _=>len1 (fun _=>rfl)
 have E1:FunE K mg "standings_of_boxes" f1 _ ["boxes"]:=⟨PySem.W.mg_of X G a1,k1,b1⟩
 have FD_standings_of_boxes:Fd K mg "standings_of_boxes" (top 23) ["boxes"]:=⟨f1,_,F1,E1.mg,E1.kp,E1.bd⟩
 have F2:=zX (st:=top 24) l2 c2 k2
 have b2:=F2.binds (ps:=["deed"]) fun _ _ _ _ _ _=>len1 (fun _=>rfl)
 have E2:FunE K mg "copied_deed" f2 _ ["deed"]:=⟨PySem.W.mg_of X G a2,k2,b2⟩
 have FD_copied_deed:Fd K mg "copied_deed" (top 24) ["deed"]:=⟨f2,_,F2,E2.mg,E2.kp,E2.bd⟩
 have F3:=zX (st:=top 25) l3 c3 k3
 have b3:=F3.binds (ps:=["thing"]) fun _ _ _ _ _ _=>len1 (fun _=>rfl)
 have E3:FunE K mg "is_whole" f3 _ ["thing"]:=⟨PySem.W.mg_of X G a3,k3,b3⟩
 have FD_is_whole:Fd K mg "is_whole" (top 25) ["thing"]:=⟨f3,_,F3,E3.mg,E3.kp,E3.bd⟩
 have F4:=zX (st:=top 26) l4 c4 k4
 have b4:=F4.binds (ps:=["boxes"]) fun _ _ _ _ _ _=>len1 (fun _=>rfl)
 have E4:FunE K mg "refuse_boxes" f4 _ ["boxes"]:=⟨PySem.W.mg_of X G a4,k4,b4⟩
 have FD_refuse_boxes:Fd K mg "refuse_boxes" (top 26) ["boxes"]:=⟨f4,_,F4,E4.mg,E4.kp,E4.bd⟩
 have F5:=zX (st:=top 27) l5 c5 k5
 have b5:=F5.binds (ps:=["names","kind"]) fun _ _ _ _ _ _=>len2 (fun _ _=>rfl)
 have E5:FunE K mg "refuse_twice" f5 _ ["names","kind"]:=⟨PySem.W.mg_of X G a5,k5,b5⟩
 have FD_refuse_twice:Fd K mg "refuse_twice" (top 27) ["names","kind"]:=⟨f5,_,F5,E5.mg,E5.kp,E5.bd⟩
 have F6:=zX (st:=top 28) l6 c6 k6
 have b6:=F6.binds (ps:=["name","price"]) fun _ _ _ _ _ _=>len2 (fun _ _=>rfl)
 have E6:FunE K mg "refuse_price" f6 _ ["name","price"]:=⟨PySem.W.mg_of X G a6,k6,b6⟩
 have FD_refuse_price:Fd K mg "refuse_price" (top 28) ["name","price"]:=⟨f6,_,F6,E6.mg,E6.kp,E6.bd⟩
 have F7:=zX (st:=top 29) l7 c7 k7
 have b7:=F7.binds (ps:=["deed_name","ways","names"]) fun _ _ _ _ _ _=>len3 (fun _ _ _=>rfl)
 have E7:FunE K mg "refuse_ways" f7 _ ["deed_name","ways","names"]:=⟨PySem.W.mg_of X G a7,k7,b7⟩
 have FD_refuse_ways:Fd K mg "refuse_ways" (top 29) ["deed_name","ways","names"]:=⟨f7,_,F7,E7.mg,E7.kp,E7.bd⟩
 have F8:=zX (st:=top 30) l8 c8 k8
 have b8:=F8.binds (ps:=["name","names"]) fun _ _ _ _ _ _=>len2 (fun _ _=>rfl)
 have E8:FunE K mg "refuse_strange_name" f8 _ ["name","names"]:=⟨PySem.W.mg_of X G a8,k8,b8⟩
 have FD_refuse_strange_name:Fd K mg "refuse_strange_name" (top 30) ["name","names"]:=⟨f8,_,F8,E8.mg,E8.kp,E8.bd⟩
 have F9:=zX (st:=top 31) l9 c9 k9
 have b9:=F9.binds (ps:=["thing","names"]) fun _ _ _ _ _ _=>len2 (fun _ _=>rfl)
 have E9:FunE K mg "refuse_strange_names" f9 _ ["thing","names"]:=⟨PySem.W.mg_of X G a9,k9,b9⟩
 have FD_refuse_strange_names:Fd K mg "refuse_strange_names" (top 31) ["thing","names"]:=⟨f9,_,F9,E9.mg,E9.kp,E9.bd⟩
 have F10:=zX (st:=top 32) l10 c10 k10
 have b10:=F10.binds (ps:=["begin","boxes"]) fun _ _ _ _ _ _=>len2 (fun _ _=>rfl)
 have E10:FunE K mg "refuse_begin" f10 _ ["begin","boxes"]:=⟨PySem.W.mg_of X G a10,k10,b10⟩
 have FD_refuse_begin:Fd K mg "refuse_begin" (top 32) ["begin","boxes"]:=⟨f10,_,F10,E10.mg,E10.kp,E10.bd⟩
 have F11:=zX (st:=top 12) l11 c11 k11
 have b11:=F11.binds (ps:=["condition","boxes","standing"]) fun _ _ _ _ _ _=>len3 (fun _ _ _=>rfl)
 have E11:FunE K mg "holds" f11 _ ["condition","boxes","standing"]:=⟨PySem.W.mg_of X G a11,k11,b11⟩
 have FD_holds:Fd K mg "holds" (top 12) ["condition","boxes","standing"]:=⟨f11,_,F11,E11.mg,E11.kp,E11.bd⟩
 have F12:=zX (st:=top 13) l12 c12 k12
 have b12:=F12.binds (ps:=["thing"]) fun _ _ _ _ _ _=>len1 (fun _=>rfl)
 have E12:FunE K mg "names_in" f12 _ ["thing"]:=⟨PySem.W.mg_of X G a12,k12,b12⟩
 have FD_names_in:Fd K mg "names_in" (top 13) ["thing"]:=⟨f12,_,F12,E12.mg,E12.kp,E12.bd⟩
 have F13:=zX (st:=top 14) l13 c13 k13
 have b13:=F13.binds (ps:=["boxes","standing"]) fun _ _ _ _ _ _=>len2 (fun _ _=>rfl)
 have E13:FunE K mg "values_by_name" f13 _ ["boxes","standing"]:=⟨PySem.W.mg_of X G a13,k13,b13⟩
 have FD_values_by_name:Fd K mg "values_by_name" (top 14) ["boxes","standing"]:=⟨f13,_,F13,E13.mg,E13.kp,E13.bd⟩
 have F14:=zX (st:=top 15) l14 c14 k14
 have b14:=F14.binds (ps:=["expression","values"]) fun _ _ _ _ _ _=>len2 (fun _ _=>rfl)
 have E14:FunE K mg "worth_by" f14 _ ["expression","values"]:=⟨PySem.W.mg_of X G a14,k14,b14⟩
 have FD_worth_by:Fd K mg "worth_by" (top 15) ["expression","values"]:=⟨f14,_,F14,E14.mg,E14.kp,E14.bd⟩
 have F15:=zX (st:=top 16) l15 c15 k15
 have b15:=F15.binds (ps:=["condition","values"]) fun _ _ _ _ _ _=>len2 (fun _ _=>rfl)
 have E15:FunE K mg "holds_by" f15 _ ["condition","values"]:=⟨PySem.W.mg_of X G a15,k15,b15⟩
 have FD_holds_by:Fd K mg "holds_by" (top 16) ["condition","values"]:=⟨f15,_,F15,E15.mg,E15.kp,E15.bd⟩
 have F16:=zX (st:=top 34) l16 c16 k16
 have b16:=F16.binds (ps:=["script","k"]) fun _ _ _ _ _ _=>len2 (fun _ _=>rfl)
 have E16:FunE K mg "_law_cell_at" f16 _ ["script","k"]:=⟨PySem.W.mg_of X G a16,k16,b16⟩
 have FD_law_cell_at:Fd K mg "_law_cell_at" (top 34) ["script","k"]:=⟨f16,_,F16,E16.mg,E16.kp,E16.bd⟩
 have F17:=zX (st:=top 35) l17 c17 k17
 have b17:=F17.binds (ps:=["cell","k"]) fun _ _ _ _ _ _=>len2 (fun _ _=>rfl)
 have E17:FunE K mg "_law_stir" f17 _ ["cell","k"]:=⟨PySem.W.mg_of X G a17,k17,b17⟩
 have FD_law_stir:Fd K mg "_law_stir" (top 35) ["cell","k"]:=⟨f17,_,F17,E17.mg,E17.kp,E17.bd⟩
 have F18:=zX (st:=top 36) l18 c18 k18
 have b18:=F18.binds (ps:=["cell","sizes"]) fun _ _ _ _ _ _=>len2 (fun _ _=>rfl)
 have E18:FunE K mg "_law_drawn" f18 _ ["cell","sizes"]:=⟨PySem.W.mg_of X G a18,k18,b18⟩
 have FD_law_drawn:Fd K mg "_law_drawn" (top 36) ["cell","sizes"]:=⟨f18,_,F18,E18.mg,E18.kp,E18.bd⟩
 have F19:=zX (st:=top 37) l19 c19 k19
 have b19:=F19.binds (ps:=["cell"]) fun _ _ _ _ _ _=>len1 (fun _=>rfl)
 have E19:FunE K mg "_law_deck" f19 _ ["cell"]:=⟨PySem.W.mg_of X G a19,k19,b19⟩
 have FD_law_deck:Fd K mg "_law_deck" (top 37) ["cell"]:=⟨f19,_,F19,E19.mg,E19.kp,E19.bd⟩
 have F20:=zX (st:=top 38) l20 c20 k20
 have b20:=F20.binds (ps:=["deck","many"]) fun _ _ _ _ _ _=>len2 (fun _ _=>rfl)
 have E20:FunE K mg "_law_take" f20 _ ["deck","many"]:=⟨PySem.W.mg_of X G a20,k20,b20⟩
 have FD_law_take:Fd K mg "_law_take" (top 38) ["deck","many"]:=⟨f20,_,F20,E20.mg,E20.kp,E20.bd⟩
 have F21:=zX (st:=top 39) l21 c21 k21
 have b21:=F21.binds (ps:=["number","many"]) fun _ _ _ _ _ _=>len2 (fun _ _=>rfl)
 have E21:FunE K mg "_law_unlike" f21 _ ["number","many"]:=⟨PySem.W.mg_of X G a21,k21,b21⟩
 have FD_law_unlike:Fd K mg "_law_unlike" (top 39) ["number","many"]:=⟨f21,_,F21,E21.mg,E21.kp,E21.bd⟩
 have F22:=zX (st:=top 40) l22 c22 k22
 have b22:=F22.binds (ps:=["cell"]) fun _ _ _ _ _ _=>len1 (fun _=>rfl)
 have E22:FunE K mg "_law_boxes" f22 _ ["cell"]:=⟨PySem.W.mg_of X G a22,k22,b22⟩
 have FD_law_boxes:Fd K mg "_law_boxes" (top 40) ["cell"]:=⟨f22,_,F22,E22.mg,E22.kp,E22.bd⟩
 have F23:=zX (st:=top 41) l23 c23 k23
 have b23:=F23.binds (ps:=["deck","words","deep"]) fun _ _ _ _ _ _=>len3 (fun _ _ _=>rfl)
 have E23:FunE K mg "_law_expr" f23 _ ["deck","words","deep"]:=⟨PySem.W.mg_of X G a23,k23,b23⟩
 have FD_law_expr:Fd K mg "_law_expr" (top 41) ["deck","words","deep"]:=⟨f23,_,F23,E23.mg,E23.kp,E23.bd⟩
 have F24:=zX (st:=top 42) l24 c24 k24
 have b24:=F24.binds (ps:=["deck","words","deep"]) fun _ _ _ _ _ _=>len3 (fun _ _ _=>rfl)
 have E24:FunE K mg "_law_cond" f24 _ ["deck","words","deep"]:=⟨PySem.W.mg_of X G a24,k24,b24⟩
 have FD_law_cond:Fd K mg "_law_cond" (top 42) ["deck","words","deep"]:=⟨f24,_,F24,E24.mg,E24.kp,E24.bd⟩
 have F25:=zX (st:=top 43) l25 c25 k25
 have b25:=F25.binds (ps:=["part","values"]) fun _ _ _ _ _ _=>len2 (fun _ _=>rfl)
 have E25:FunE K mg "_law_worth" f25 _ ["part","values"]:=⟨PySem.W.mg_of X G a25,k25,b25⟩
 have FD_law_worth:Fd K mg "_law_worth" (top 43) ["part","values"]:=⟨f25,_,F25,E25.mg,E25.kp,E25.bd⟩
 have F26:=zX (st:=top 44) l26 c26 k26
 have b26:=F26.binds (ps:=["cond","values"]) fun _ _ _ _ _ _=>len2 (fun _ _=>rfl)
 have E26:FunE K mg "_law_holds" f26 _ ["cond","values"]:=⟨PySem.W.mg_of X G a26,k26,b26⟩
 have FD_law_holds:Fd K mg "_law_holds" (top 44) ["cond","values"]:=⟨f26,_,F26,E26.mg,E26.kp,E26.bd⟩
 have F27:=zX (st:=top 45) l27 c27 k27
 have b27:=F27.binds (ps:=["boxes","standing"]) fun _ _ _ _ _ _=>len2 (fun _ _=>rfl)
 have E27:FunE K mg "_law_values" f27 _ ["boxes","standing"]:=⟨PySem.W.mg_of X G a27,k27,b27⟩
 have FD_law_values:Fd K mg "_law_values" (top 45) ["boxes","standing"]:=⟨f27,_,F27,E27.mg,E27.kp,E27.bd⟩
 have F28:=zX (st:=top 46) l28 c28 k28
 have b28:=F28.binds (ps:=["boxes"]) fun _ _ _ _ _ _=>len1 (fun _=>rfl)
 have E28:FunE K mg "_law_standings" f28 _ ["boxes"]:=⟨PySem.W.mg_of X G a28,k28,b28⟩
 have FD_law_standings:Fd K mg "_law_standings" (top 46) ["boxes"]:=⟨f28,_,F28,E28.mg,E28.kp,E28.bd⟩
 have F29:=zX (st:=top 47) l29 c29 k29
 have b29:=F29.binds (ps:=["deck","name","words"]) fun _ _ _ _ _ _=>len3 (fun _ _ _=>rfl)
 have E29:FunE K mg "_law_deed" f29 _ ["deck","name","words"]:=⟨PySem.W.mg_of X G a29,k29,b29⟩
 have FD_law_deed:Fd K mg "_law_deed" (top 47) ["deck","name","words"]:=⟨f29,_,F29,E29.mg,E29.kp,E29.bd⟩
 have F30:=zX (st:=top 48) l30 c30 k30
 have b30:=F30.binds (ps:=["script"]) fun _ _ _ _ _ _=>len1 (fun _=>rfl)
 have E30:FunE K mg "_law_world" f30 _ ["script"]:=⟨PySem.W.mg_of X G a30,k30,b30⟩
 have FD_law_world:Fd K mg "_law_world" (top 48) ["script"]:=⟨f30,_,F30,E30.mg,E30.kp,E30.bd⟩
 have F31:=zX (st:=top 49) l31 c31 k31
 have b31:=F31.binds (ps:=["world"]) fun _ _ _ _ _ _=>len1 (fun _=>rfl)
 have E31:FunE K mg "_law_refused" f31 _ ["world"]:=⟨PySem.W.mg_of X G a31,k31,b31⟩
 have FD_law_refused:Fd K mg "_law_refused" (top 49) ["world"]:=⟨f31,_,F31,E31.mg,E31.kp,E31.bd⟩
 have F32:=zX (st:=top 50) l32 c32 k32
 have b32:=F32.binds (ps:=["boxes","number"]) fun _ _ _ _ _ _=>len2 (fun _ _=>rfl)
 have E32:FunE K mg "_law_strange" f32 _ ["boxes","number"]:=⟨PySem.W.mg_of X G a32,k32,b32⟩
 have FD_law_strange:Fd K mg "_law_strange" (top 50) ["boxes","number"]:=⟨f32,_,F32,E32.mg,E32.kp,E32.bd⟩
 have F33:=zX (st:=top 51) l33 c33 k33
 have b33:=F33.binds (ps:=["thing","path"]) fun _ _ _ _ _ _=>len2 (fun _ _=>rfl)
 have E33:FunE K mg "_law_leaves" f33 _ ["thing","path"]:=⟨PySem.W.mg_of X G a33,k33,b33⟩
 have FD_law_leaves:Fd K mg "_law_leaves" (top 51) ["thing","path"]:=⟨f33,_,F33,E33.mg,E33.kp,E33.bd⟩
 have F34:=zX (st:=top 52) l34 c34 k34
 have b34:=F34.binds (ps:=["thing","path","part"]) fun _ _ _ _ _ _=>len3 (fun _ _ _=>rfl)
 have E34:FunE K mg "_law_put" f34 _ ["thing","path","part"]:=⟨PySem.W.mg_of X G a34,k34,b34⟩
 have FD_law_put:Fd K mg "_law_put" (top 52) ["thing","path","part"]:=⟨f34,_,F34,E34.mg,E34.kp,E34.bd⟩
 have F35:=zX (st:=top 53) l35 c35 k35
 have b35:=F35.binds (ps:=["thing","strange","number"]) fun _ _ _ _ _ _=>len3 (fun _ _ _=>rfl)
 have E35:FunE K mg "_law_misnamed" f35 _ ["thing","strange","number"]:=⟨PySem.W.mg_of X G a35,k35,b35⟩
 have FD_law_misnamed:Fd K mg "_law_misnamed" (top 53) ["thing","strange","number"]:=⟨f35,_,F35,E35.mg,E35.kp,E35.bd⟩
 have F36:=zX (st:=top 54) l36 c36 k36
 have b36:=F36.binds (ps:=["things","thing","number"]) fun _ _ _ _ _ _=>len3 (fun _ _ _=>rfl)
 have E36:FunE K mg "_law_put_in" f36 _ ["things","thing","number"]:=⟨PySem.W.mg_of X G a36,k36,b36⟩
 have FD_law_put_in:Fd K mg "_law_put_in" (top 54) ["things","thing","number"]:=⟨f36,_,F36,E36.mg,E36.kp,E36.bd⟩
 have F37:=zX (st:=top 55) l37 c37 k37
 have b37:=F37.binds (ps:=["way","words","strange","number"]) fun _ _ _ _ _ _=>len4 (fun _ _ _ _=>rfl)
 have E37:FunE K mg "_law_bad_way" f37 _ ["way","words","strange","number"]:=⟨PySem.W.mg_of X G a37,k37,b37⟩
 have FD_law_bad_way:Fd K mg "_law_bad_way" (top 55) ["way","words","strange","number"]:=⟨f37,_,F37,E37.mg,E37.kp,E37.bd⟩
 have F38:=zX (st:=top 56) l38 c38 k38
 have b38:=F38.binds (ps:=["deeds","words","strange","number"]) fun _ _ _ _ _ _=>len4 (fun _ _ _ _=>rfl)
 have E38:FunE K mg "_law_bad_deed" f38 _ ["deeds","words","strange","number"]:=⟨PySem.W.mg_of X G a38,k38,b38⟩
 have FD_law_bad_deed:Fd K mg "_law_bad_deed" (top 56) ["deeds","words","strange","number"]:=⟨f38,_,F38,E38.mg,E38.kp,E38.bd⟩
 have F39:=zX (st:=top 57) l39 c39 k39
 have b39:=F39.binds (ps:=["deeds","looks","strange","number"]) fun _ _ _ _ _ _=>len4 (fun _ _ _ _=>rfl)
 have E39:FunE K mg "_law_bad_look" f39 _ ["deeds","looks","strange","number"]:=⟨PySem.W.mg_of X G a39,k39,b39⟩
 have FD_law_bad_look:Fd K mg "_law_bad_look" (top 57) ["deeds","looks","strange","number"]:=⟨f39,_,F39,E39.mg,E39.kp,E39.bd⟩
 have F40:=zX (st:=top 58) l40 c40 k40
 have b40:=F40.binds (ps:=["boxes","number"]) fun _ _ _ _ _ _=>len2 (fun _ _=>rfl)
 have E40:FunE K mg "_law_bad_boxes" f40 _ ["boxes","number"]:=⟨PySem.W.mg_of X G a40,k40,b40⟩
 have FD_law_bad_boxes:Fd K mg "_law_bad_boxes" (top 58) ["boxes","number"]:=⟨f40,_,F40,E40.mg,E40.kp,E40.bd⟩
 have F41:=zX (st:=top 59) l41 c41 k41
 have b41:=F41.binds (ps:=["words","begin","number"]) fun _ _ _ _ _ _=>len3 (fun _ _ _=>rfl)
 have E41:FunE K mg "_law_nowhere" f41 _ ["words","begin","number"]:=⟨PySem.W.mg_of X G a41,k41,b41⟩
 have FD_law_nowhere:Fd K mg "_law_nowhere" (top 59) ["words","begin","number"]:=⟨f41,_,F41,E41.mg,E41.kp,E41.bd⟩
 have F42:=zX (st:=top 60) l42 c42 k42
 have b42:=F42.binds (ps:=["world","cell"]) fun _ _ _ _ _ _=>len2 (fun _ _=>rfl)
 have E42:FunE K mg "_law_wrong" f42 _ ["world","cell"]:=⟨PySem.W.mg_of X G a42,k42,b42⟩
 have FD_law_wrong:Fd K mg "_law_wrong" (top 60) ["world","cell"]:=⟨f42,_,F42,E42.mg,E42.kp,E42.bd⟩
 have F43:=zX (st:=top 61) l43 c43 k43
 have b43:=F43.binds (ps:=["world"]) fun _ _ _ _ _ _=>len1 (fun _=>rfl)
 have E43:FunE K mg "_law_copied" f43 _ ["world"]:=⟨PySem.W.mg_of X G a43,k43,b43⟩
 have FD_law_copied:Fd K mg "_law_copied" (top 61) ["world"]:=⟨f43,_,F43,E43.mg,E43.kp,E43.bd⟩
 have F44:=zX (st:=top 62) l44 c44 k44
 have GL_LEAST_SIZE:Gi mg "LEAST_SIZE" 2:=⟨_,PySem.W.mg_of X G g_LEAST_SIZE⟩
 have GL_GREATEST_SIZE:Gi mg "GREATEST_SIZE" 5:=⟨_,PySem.W.mg_of X G g_GREATEST_SIZE⟩
 have GL_LEAST_PRICE:Gi mg "LEAST_PRICE" 1:=⟨_,PySem.W.mg_of X G g_LEAST_PRICE⟩
 have GL_WORDS_OF_CONDITIONS:Gs K mg "WORDS_OF_CONDITIONS" ["not","and","yes"]:=⟨_,PySem.W.mg_of X G g_WORDS_OF_CONDITIONS,fun H=>.inr ⟨_,_,_,g2_WORDS_OF_CONDITIONS,g3_WORDS_OF_CONDITIONS,g4_WORDS_OF_CONDITIONS,(by show 3≤sizeLine;decide),.cons ⟨_,rfl⟩ (.cons ⟨_,rfl⟩ (.cons ⟨_,rfl⟩ (.nil)))⟩⟩
 have R_ForkError:=vE (x := "ForkError") X G (fun _ _=>.base) ra_ForkError rl_ForkError rn_ForkError rw_ForkError ri_ForkError r1_ForkError r2_ForkError r3_ForkError
 have R_NoWorld:=vE (x := "NoWorld") X G R_ForkError.tail ra_NoWorld rl_NoWorld rn_NoWorld rw_NoWorld ri_NoWorld r1_NoWorld r2_NoWorld r3_NoWorld
 have R_NoName:=vE (x := "NoName") X G R_ForkError.tail ra_NoName rl_NoName rn_NoName rw_NoName ri_NoName r1_NoName r2_NoName r3_NoName
 have R_NoOrder:=vE (x := "NoOrder") X G R_ForkError.tail ra_NoOrder rl_NoOrder rn_NoOrder rw_NoOrder ri_NoOrder r1_NoOrder r2_NoOrder r3_NoOrder
 have R_NoPlan:=vE (x := "NoPlan") X G R_ForkError.tail ra_NoPlan rl_NoPlan rn_NoPlan rw_NoPlan ri_NoPlan r1_NoPlan r2_NoPlan r3_NoPlan
 have R_NotPlain:=vE (x := "NotPlain") X G R_ForkError.tail ra_NotPlain rl_NotPlain rn_NotPlain rw_NotPlain ri_NotPlain r1_NotPlain r2_NotPlain r3_NotPlain
 have R_NotSure:=vE (x := "NotSure") X G R_ForkError.tail ra_NotSure rl_NotSure rn_NotSure rw_NotSure ri_NotSure r1_NotSure r2_NotSure r3_NotSure
 have R_NoText:=vE (x := "NoText") X G R_ForkError.tail ra_NoText rl_NoText rn_NoText rw_NoText ri_NoText r1_NoText r2_NoText r3_NoText
 have R_NoWeights:=vE (x := "NoWeights") X G R_ForkError.tail ra_NoWeights rl_NoWeights rn_NoWeights rw_NoWeights ri_NoWeights r1_NoWeights r2_NoWeights r3_NoWeights
 have R_TooMany:=vE (x := "TooMany") X G R_ForkError.tail ra_TooMany rl_TooMany rn_TooMany rw_TooMany ri_TooMany r1_TooMany r2_TooMany r3_TooMany
 have B:Bl mg:=⟨PySem.W.mg_none_of X G z_len,PySem.W.mg_none_of X G z_range,PySem.W.mg_none_of X G z_min,PySem.W.mg_none_of X G z_isinstance,PySem.W.mg_none_of X G z_list,PySem.W.mg_none_of X G z_reversed,PySem.W.mg_none_of X G z_tuple,PySem.W.mg_none_of X G z_int,PySem.W.mg_none_of X G z_bool,PySem.W.mg_none_of X G z_dict,PySem.W.mg_none_of X G z_zip⟩
 have B_set:mg "set" = none:=PySem.W.mg_none_of X G z_set
 have B_ValueError:mg "ValueError" = none:=PySem.W.mg_none_of X G z_ValueError
 have B_max:mg "max" = none:=PySem.W.mg_none_of X G z_max
 refine⟨PySem.W.fnOf "law" "law" (xD (top 62)) (xC (top 62)) (xB (top 62)) .none kV44 dc44 pm44 an44 cd44 ct44,fun s v=>.of_eq rfl,fun base YK _=>?_⟩
 have GS:=qPh (P:=l.prog) (w:=w) (mg:=mg) (base:=base) F17
 have GT:=qPg (P:=l.prog) (w:=w) (mg:=mg) (base:=base) F20
 have GE:=qGb (P:=l.prog) (w:=w) (base:=base) F23 B E23 GT E20
 have D_cell:=Dn.mk (x := "_law_cell_at") ⟨_,_,qPl (P:=l.prog) (w:=w) (base:=base) F16 B,E16.mg,E16.kp,E16.bd⟩
 have D_take:=Dn.mk (x := "_law_take") ⟨_,_,GT,E20.mg,E20.kp,E20.bd⟩
 have D_deck:=Dn.mk (x := "_law_deck") ⟨_,_,qPi F19 GS E17,E19.mg,E19.kp,E19.bd⟩
 have GD:=qMm F18 B GS E17
 have GU:=qGk (P:=l.prog) (w:=w) (base:=base) F21 B
 have D_boxes:=Dn.mk (x := "_law_boxes") ⟨_,_,qNq F22 B GD E18 (GU.mono (by decide)) E21,E22.mg,E22.kp,E22.bd⟩
 have D_cond:=Dn.mk (x := "_law_cond") ⟨_,_,qGc F24 B E24 (GE 3) E23 GT E20 3,E24.mg,E24.kp,E24.bd⟩
 have D_expr:=Dn.mk (x := "_law_expr") ⟨_,_,GE 3,E23.mg,E23.kp,E23.bd⟩
 have D_lworth:=Dn.mk (x := "_law_worth") ⟨_,_,qGa (P:=l.prog) (w:=w) (base:=base) F25 B,E25.mg,E25.kp,E25.bd⟩
 have D_lvalues:=Dn.mk (x := "_law_values") ⟨_,_,qDj (P:=l.prog) (w:=w) (base:=base) F27 B,E27.mg,E27.kp,E27.bd⟩
 have D_values:=Dn.mk (x := "values_by_name") ⟨_,_,qGj (P:=l.prog) (w:=w) (base:=base) F13 B,E13.mg,E13.kp,E13.bd⟩
 have GW:=qXm (P:=l.prog) (w:=w) (base:=base) F14 E14 12
 have D_wb:=Dn.mk (x := "worth_by") ⟨_,_,GW,E14.mg,E14.kp,E14.bd⟩
 have D_names:=Dn.mk (x := "names_in") ⟨_,_,qBe (P:=l.prog) (w:=w) (base:=base) F12 E12 12,E12.mg,E12.kp,E12.bd⟩
 have D_drawn:=Dn.mk (x := "_law_drawn") ⟨_,_,GD,E18.mg,E18.kp,E18.bd⟩
 have D_unlike:=Dn.mk (x := "_law_unlike") ⟨_,_,GU,E21.mg,E21.kp,E21.bd⟩
 have D_holds:=qNd FD_holds (qZa FD_holds_by D_wb 12) D_values
 have D_lholds:=qVe FD_law_holds B D_lworth 12
 have D_sob:=qUz (P:=l.prog) (w:=w) (base:=base) FD_standings_of_boxes B
 have D_lstand:=qHh (P:=l.prog) (w:=w) (base:=base) FD_law_standings B
 have D_whole:=qNb (P:=l.prog) (w:=w) (base:=base) FD_is_whole B
 have ON:=R_NoWorld.own base YK
 have X_price:=qNv FD_refuse_price ON D_whole GL_LEAST_PRICE
 have X_strange1:=qAw (P:=l.prog) (w:=w) (base:=base) FD_refuse_strange_name ON
 have X_strange:=qDd FD_refuse_strange_names X_strange1 D_names
 have X_twice:=qNk (P:=l.prog) (w:=w) (base:=base) FD_refuse_twice ON B B_set
 have X_rboxes:=qHf FD_refuse_boxes ON B X_twice D_whole GL_LEAST_SIZE GL_GREATEST_SIZE GL_WORDS_OF_CONDITIONS
 have X_ways:=qRa FD_refuse_ways ON B X_twice X_strange1 X_strange
 have X_begin:=qNw FD_refuse_begin ON D_sob D_holds
 have D_copied:=qHi (P:=l.prog) (w:=w) (base:=base) FD_copied_deed B
 have X_world:=qAv FD_world_of B X_rboxes X_twice X_price X_strange X_ways X_begin D_copied
 have D_deed:=qRd FD_law_deed B D_take D_cond D_expr
 have D_lworld:=qHg FD_law_world B D_cell D_boxes D_deck D_cond D_expr D_take D_lstand D_lholds D_lvalues D_drawn D_unlike D_deed
 have RR:Refs5 K mg C_ForkError C_NoWorld [C_NoName,C_NoOrder,C_NoPlan,C_NotPlain,C_NotSure,C_NoText,C_NoWeights,C_TooMany]:=⟨R_ForkError,R_NoWorld,kf,kv,fun D hD=>by have:=List.all_eq_true.mp kn D hD;rw[Bool.not_eq_true'] at this;exact this⟩
 have D_refused:=qDe YK FD_law_refused B B_ValueError RR R_NoName R_NoOrder R_NoPlan R_NotPlain R_NotSure R_NoText R_NoWeights R_TooMany X_world
 have D_mis:=qUj FD_law_misnamed B (qVf (P:=l.prog) (w:=w) (base:=base) FD_law_leaves B 12) (qOv (P:=l.prog) (w:=w) (base:=base) FD_law_put 12)
 have D_putin:=qNc (P:=l.prog) (w:=w) (base:=base) FD_law_put_in B
 have D_badway:=qHl FD_law_bad_way B B_max D_putin D_mis
 have D_baddeed:=qDm FD_law_bad_deed B D_putin D_mis D_badway
 have D_badlook:=qDl FD_law_bad_look B D_putin D_mis
 have D_wrong:=qNa FD_law_wrong B D_drawn (qAa (P:=l.prog) (w:=w) (base:=base) FD_law_strange B) (qAb FD_law_bad_boxes B D_putin) D_baddeed D_badlook (qDf (P:=l.prog) (w:=w) (base:=base) FD_law_nowhere B) D_mis
 exact qTa F44 B D_lworld X_world D_wrong (qDi (P:=l.prog) (w:=w) (base:=base) FD_law_copied B) D_refused
theorem walk {l:PySem.W.OpenLaw}{q:Program}{loose:List Str}{XP:(Str→Option Value)→Heap→Prop}{YP:World→Heap→Prop}{d:DefRec}{K:Params→PySem.W.Frag}(hn:l.most=some 63)(hdf:d.params.defaults=[])
  (hY:∀(w:World) (h:Heap),YP w h→(K w.params).In h)
  (F:∀(w:World) (mg:Str→Option Value) (fa:Addr) (h:Heap),(K w.params).In h→h.Ns mainGlobals mg→mg d.name=some (.ref fa)→
   ∃fd:FuncData,(∀(s:Shared) (u:Value),BindsTo s fd ⟨[u],[]⟩ [("script",u)])∧∀base:Heap,(K w.params).In base→base.Ns mainGlobals mg→FnOk l.prog w (K w.params) mg base CX0 60 fa fd ["script"] (spLaw (K w.params))):
  PySem.W.WalkO q loose XP YP l.row.toRowW d [] (fun f vs=>PySem.call f vs):=
 L2.qOb (n:=63) (k:=60) (x := "script") (CX:=fun _=>CX0) (sp:=fun w=>spLaw (K w.params)) hn (by decide) hdf ⟨rfl,by decide,by decide⟩ hY F (fun _ _ a ns hl _ hS=>⟨a,ns,rfl,hS,hl,fun _=>rfl⟩) fun _ _ _ _ _ z=>z
end FP
open PySem PySem.W PyProof.Rows
set_option maxRecDepth 100000 in
set_option maxHeartbeats 0 in
theorem PySem.Challenge.cw_forkplan_k05_no_world_holds : PySem.Challenge.rw_forkplan_k05_no_world.Holds := by
 w_on
 refine PySem.W.holds_law FP.saidW fun said=>?_
 refine PySem.W.holds_open (q:=FP.qXj) (loose:=[]) (N:=7848) (YP:=InK FP.qWv) (XP:=XL FP.qXj [])
  (Xt:=fun s=>xlAt FP.qXj [] s && recOk (RowW.records (OpenRow.toRowW (PySem.W.OpenLaw.row PySem.Challenge.rw_forkplan_k05_no_world))) s)
  (Yf:=Hook.obs FP.wN) (Ya:=Hook.val FP.wN) FP.qOf
  (Hook.of FP.wN) (Hook.keeps FP.wN) (fun s e=>xl_of s (Bool.and_eq_true_iff.mp e).1)
  XL.keeps (by rfl) (by rfl) (by rfl) (fun s e=>recFacts_of (Bool.and_eq_true_iff.mp e).2)
  (by rfl) (by first | assumption | decide +kernel) (by decide +kernel)
  ⟨rfl,rfl,rfl,rfl,rfl,by decide +kernel⟩ ?hw ?hc
 case hw=>w_witness2
 k_fill
 refine FP.walk (l:=PySem.Challenge.rw_forkplan_k05_no_world) (K:=FP.qWv) rfl rfl (fun w h Y=>Y) ?F
 case F=>
  intro w mg fa h KX G hmg
  refine' FP.qUb KX G hmg ?a0 ?l0 ?c0 ?k0 ?a1 ?l1 ?c1 ?k1 ?a2 ?l2 ?c2 ?k2 ?a3 ?l3 ?c3 ?k3 ?a4 ?l4 ?c4 ?k4 ?a5 ?l5 ?c5 ?k5 ?a6 ?l6 ?c6 ?k6 ?a7 ?l7 ?c7 ?k7 ?a8 ?l8 ?c8 ?k8 ?a9 ?l9 ?c9 ?k9 ?a10 ?l10 ?c10 ?k10 ?a11 ?l11 ?c11 ?k11 ?a12 ?l12 ?c12 ?k12 ?a13 ?l13 ?c13 ?k13 ?a14 ?l14 ?c14 ?k14 ?a15 ?l15 ?c15 ?k15 ?a16 ?l16 ?c16 ?k16 ?a17 ?l17 ?c17 ?k17 ?a18 ?l18 ?c18 ?k18 ?a19 ?l19 ?c19 ?k19 ?a20 ?l20 ?c20 ?k20 ?a21 ?l21 ?c21 ?k21 ?a22 ?l22 ?c22 ?k22 ?a23 ?l23 ?c23 ?k23 ?a24 ?l24 ?c24 ?k24 ?a25 ?l25 ?c25 ?k25 ?a26 ?l26 ?c26 ?k26 ?a27 ?l27 ?c27 ?k27 ?a28 ?l28 ?c28 ?k28 ?a29 ?l29 ?c29 ?k29 ?a30 ?l30 ?c30 ?k30 ?a31 ?l31 ?c31 ?k31 ?a32 ?l32 ?c32 ?k32 ?a33 ?l33 ?c33 ?k33 ?a34 ?l34 ?c34 ?k34 ?a35 ?l35 ?c35 ?k35 ?a36 ?l36 ?c36 ?k36 ?a37 ?l37 ?c37 ?k37 ?a38 ?l38 ?c38 ?k38 ?a39 ?l39 ?c39 ?k39 ?a40 ?l40 ?c40 ?k40 ?a41 ?l41 ?c41 ?k41 ?a42 ?l42 ?c42 ?k42 ?a43 ?l43 ?c43 ?k43 ?a44 ?l44 ?c44 ?k44 ?g_LEAST_SIZE ?g_GREATEST_SIZE ?g_LEAST_PRICE ?g_WORDS_OF_CONDITIONS ?g2_WORDS_OF_CONDITIONS ?g3_WORDS_OF_CONDITIONS ?g4_WORDS_OF_CONDITIONS ?ra_ForkError ?rl_ForkError ?rn_ForkError ?rw_ForkError ?ri_ForkError ?r1_ForkError ?r2_ForkError ?r3_ForkError ?ra_NoWorld ?rl_NoWorld ?rn_NoWorld ?rw_NoWorld ?ri_NoWorld ?r1_NoWorld ?r2_NoWorld ?r3_NoWorld ?ra_NoName ?rl_NoName ?rn_NoName ?rw_NoName ?ri_NoName ?r1_NoName ?r2_NoName ?r3_NoName ?ra_NoOrder ?rl_NoOrder ?rn_NoOrder ?rw_NoOrder ?ri_NoOrder ?r1_NoOrder ?r2_NoOrder ?r3_NoOrder ?ra_NoPlan ?rl_NoPlan ?rn_NoPlan ?rw_NoPlan ?ri_NoPlan ?r1_NoPlan ?r2_NoPlan ?r3_NoPlan ?ra_NotPlain ?rl_NotPlain ?rn_NotPlain ?rw_NotPlain ?ri_NotPlain ?r1_NotPlain ?r2_NotPlain ?r3_NotPlain ?ra_NotSure ?rl_NotSure ?rn_NotSure ?rw_NotSure ?ri_NotSure ?r1_NotSure ?r2_NotSure ?r3_NotSure ?ra_NoText ?rl_NoText ?rn_NoText ?rw_NoText ?ri_NoText ?r1_NoText ?r2_NoText ?r3_NoText ?ra_NoWeights ?rl_NoWeights ?rn_NoWeights ?rw_NoWeights ?ri_NoWeights ?r1_NoWeights ?r2_NoWeights ?r3_NoWeights ?ra_TooMany ?rl_TooMany ?rn_TooMany ?rw_TooMany ?ri_TooMany ?r1_TooMany ?r2_TooMany ?r3_TooMany ?kf ?kv ?kn ?z_len ?z_range ?z_min ?z_isinstance ?z_list ?z_reversed ?z_tuple ?z_int ?z_bool ?z_dict ?z_zip ?z_set ?z_ValueError ?z_max
  (case a0=>k_is);(case l0=>k_is);(case c0=>k_is);(case k0=>k_is)
  (case a1=>k_is);(case l1=>k_is);(case c1=>k_is);(case k1=>k_is)
  (case a2=>k_is);(case l2=>k_is);(case c2=>k_is);(case k2=>k_is)
  (case a3=>k_is);(case l3=>k_is);(case c3=>k_is);(case k3=>k_is)
  (case a4=>k_is);(case l4=>k_is);(case c4=>k_is);(case k4=>k_is)
  (case a5=>k_is);(case l5=>k_is);(case c5=>k_is);(case k5=>k_is)
  (case a6=>k_is);(case l6=>k_is);(case c6=>k_is);(case k6=>k_is)
  (case a7=>k_is);(case l7=>k_is);(case c7=>k_is);(case k7=>k_is)
  (case a8=>k_is);(case l8=>k_is);(case c8=>k_is);(case k8=>k_is)
  (case a9=>k_is);(case l9=>k_is);(case c9=>k_is);(case k9=>k_is)
  (case a10=>k_is);(case l10=>k_is);(case c10=>k_is);(case k10=>k_is)
  (case a11=>k_is);(case l11=>k_is);(case c11=>k_is);(case k11=>k_is)
  (case a12=>k_is);(case l12=>k_is);(case c12=>k_is);(case k12=>k_is)
  (case a13=>k_is);(case l13=>k_is);(case c13=>k_is);(case k13=>k_is)
  (case a14=>k_is);(case l14=>k_is);(case c14=>k_is);(case k14=>k_is)
  (case a15=>k_is);(case l15=>k_is);(case c15=>k_is);(case k15=>k_is)
  (case a16=>k_is);(case l16=>k_is);(case c16=>k_is);(case k16=>k_is)
  (case a17=>k_is);(case l17=>k_is);(case c17=>k_is);(case k17=>k_is)
  (case a18=>k_is);(case l18=>k_is);(case c18=>k_is);(case k18=>k_is)
  (case a19=>k_is);(case l19=>k_is);(case c19=>k_is);(case k19=>k_is)
  (case a20=>k_is);(case l20=>k_is);(case c20=>k_is);(case k20=>k_is)
  (case a21=>k_is);(case l21=>k_is);(case c21=>k_is);(case k21=>k_is)
  (case a22=>k_is);(case l22=>k_is);(case c22=>k_is);(case k22=>k_is)
  (case a23=>k_is);(case l23=>k_is);(case c23=>k_is);(case k23=>k_is)
  (case a24=>k_is);(case l24=>k_is);(case c24=>k_is);(case k24=>k_is)
  (case a25=>k_is);(case l25=>k_is);(case c25=>k_is);(case k25=>k_is)
  (case a26=>k_is);(case l26=>k_is);(case c26=>k_is);(case k26=>k_is)
  (case a27=>k_is);(case l27=>k_is);(case c27=>k_is);(case k27=>k_is)
  (case a28=>k_is);(case l28=>k_is);(case c28=>k_is);(case k28=>k_is)
  (case a29=>k_is);(case l29=>k_is);(case c29=>k_is);(case k29=>k_is)
  (case a30=>k_is);(case l30=>k_is);(case c30=>k_is);(case k30=>k_is)
  (case a31=>k_is);(case l31=>k_is);(case c31=>k_is);(case k31=>k_is)
  (case a32=>k_is);(case l32=>k_is);(case c32=>k_is);(case k32=>k_is)
  (case a33=>k_is);(case l33=>k_is);(case c33=>k_is);(case k33=>k_is)
  (case a34=>k_is);(case l34=>k_is);(case c34=>k_is);(case k34=>k_is)
  (case a35=>k_is);(case l35=>k_is);(case c35=>k_is);(case k35=>k_is)
  (case a36=>k_is);(case l36=>k_is);(case c36=>k_is);(case k36=>k_is)
  (case a37=>k_is);(case l37=>k_is);(case c37=>k_is);(case k37=>k_is)
  (case a38=>k_is);(case l38=>k_is);(case c38=>k_is);(case k38=>k_is)
  (case a39=>k_is);(case l39=>k_is);(case c39=>k_is);(case k39=>k_is)
  (case a40=>k_is);(case l40=>k_is);(case c40=>k_is);(case k40=>k_is)
  (case a41=>k_is);(case l41=>k_is);(case c41=>k_is);(case k41=>k_is)
  (case a42=>k_is);(case l42=>k_is);(case c42=>k_is);(case k42=>k_is)
  (case a43=>k_is);(case l43=>k_is);(case c43=>k_is);(case k43=>k_is)
  (case a44=>k_is);(case l44=>k_is);(case c44=>k_is);(case k44=>k_is)
  (case g_LEAST_SIZE=>first | k_is | rfl | decide)
  (case g_GREATEST_SIZE=>first | k_is | rfl | decide)
  (case g_LEAST_PRICE=>first | k_is | rfl | decide)
  (case g_WORDS_OF_CONDITIONS=>first | k_is | rfl | decide)
  (case g2_WORDS_OF_CONDITIONS=>first | k_is | rfl | decide)
  (case g3_WORDS_OF_CONDITIONS=>first | k_is | rfl | decide)
  (case g4_WORDS_OF_CONDITIONS=>first | k_is | rfl | decide)
  (case ra_ForkError=>first | k_is | rfl | decide)
  (case rl_ForkError=>first | k_is | rfl | decide)
  (case rn_ForkError=>first | k_is | rfl | decide)
  (case rw_ForkError=>first | k_is | rfl | decide)
  (case ri_ForkError=>first | k_is | rfl | decide)
  (case r1_ForkError=>first | k_is | rfl | decide)
  (case r2_ForkError=>first | k_is | rfl | decide)
  (case r3_ForkError=>first | k_is | rfl | decide)
  (case ra_NoWorld=>first | k_is | rfl | decide)
  (case rl_NoWorld=>first | k_is | rfl | decide)
  (case rn_NoWorld=>first | k_is | rfl | decide)
  (case rw_NoWorld=>first | k_is | rfl | decide)
  (case ri_NoWorld=>first | k_is | rfl | decide)
  (case r1_NoWorld=>first | k_is | rfl | decide)
  (case r2_NoWorld=>first | k_is | rfl | decide)
  (case r3_NoWorld=>first | k_is | rfl | decide)
  (case ra_NoName=>first | k_is | rfl | decide)
  (case rl_NoName=>first | k_is | rfl | decide)
  (case rn_NoName=>first | k_is | rfl | decide)
  (case rw_NoName=>first | k_is | rfl | decide)
  (case ri_NoName=>first | k_is | rfl | decide)
  (case r1_NoName=>first | k_is | rfl | decide)
  (case r2_NoName=>first | k_is | rfl | decide)
  (case r3_NoName=>first | k_is | rfl | decide)
  (case ra_NoOrder=>first | k_is | rfl | decide)
  (case rl_NoOrder=>first | k_is | rfl | decide)
  (case rn_NoOrder=>first | k_is | rfl | decide)
  (case rw_NoOrder=>first | k_is | rfl | decide)
  (case ri_NoOrder=>first | k_is | rfl | decide)
  (case r1_NoOrder=>first | k_is | rfl | decide)
  (case r2_NoOrder=>first | k_is | rfl | decide)
  (case r3_NoOrder=>first | k_is | rfl | decide)
  (case ra_NoPlan=>first | k_is | rfl | decide)
  (case rl_NoPlan=>first | k_is | rfl | decide)
  (case rn_NoPlan=>first | k_is | rfl | decide)
  (case rw_NoPlan=>first | k_is | rfl | decide)
  (case ri_NoPlan=>first | k_is | rfl | decide)
  (case r1_NoPlan=>first | k_is | rfl | decide)
  (case r2_NoPlan=>first | k_is | rfl | decide)
  (case r3_NoPlan=>first | k_is | rfl | decide)
  (case ra_NotPlain=>first | k_is | rfl | decide)
  (case rl_NotPlain=>first | k_is | rfl | decide)
  (case rn_NotPlain=>first | k_is | rfl | decide)
  (case rw_NotPlain=>first | k_is | rfl | decide)
  (case ri_NotPlain=>first | k_is | rfl | decide)
  (case r1_NotPlain=>first | k_is | rfl | decide)
  (case r2_NotPlain=>first | k_is | rfl | decide)
  (case r3_NotPlain=>first | k_is | rfl | decide)
  (case ra_NotSure=>first | k_is | rfl | decide)
  (case rl_NotSure=>first | k_is | rfl | decide)
  (case rn_NotSure=>first | k_is | rfl | decide)
  (case rw_NotSure=>first | k_is | rfl | decide)
  (case ri_NotSure=>first | k_is | rfl | decide)
  (case r1_NotSure=>first | k_is | rfl | decide)
  (case r2_NotSure=>first | k_is | rfl | decide)
  (case r3_NotSure=>first | k_is | rfl | decide)
  (case ra_NoText=>first | k_is | rfl | decide)
  (case rl_NoText=>first | k_is | rfl | decide)
  (case rn_NoText=>first | k_is | rfl | decide)
  (case rw_NoText=>first | k_is | rfl | decide)
  (case ri_NoText=>first | k_is | rfl | decide)
  (case r1_NoText=>first | k_is | rfl | decide)
  (case r2_NoText=>first | k_is | rfl | decide)
  (case r3_NoText=>first | k_is | rfl | decide)
  (case ra_NoWeights=>first | k_is | rfl | decide)
  (case rl_NoWeights=>first | k_is | rfl | decide)
  (case rn_NoWeights=>first | k_is | rfl | decide)
  (case rw_NoWeights=>first | k_is | rfl | decide)
  (case ri_NoWeights=>first | k_is | rfl | decide)
  (case r1_NoWeights=>first | k_is | rfl | decide)
  (case r2_NoWeights=>first | k_is | rfl | decide)
  (case r3_NoWeights=>first | k_is | rfl | decide)
  (case ra_TooMany=>first | k_is | rfl | decide)
  (case rl_TooMany=>first | k_is | rfl | decide)
  (case rn_TooMany=>first | k_is | rfl | decide)
  (case rw_TooMany=>first | k_is | rfl | decide)
  (case ri_TooMany=>first | k_is | rfl | decide)
  (case r1_TooMany=>first | k_is | rfl | decide)
  (case r2_TooMany=>first | k_is | rfl | decide)
  (case r3_TooMany=>first | k_is | rfl | decide)
  (case kf=>first | k_is | rfl | decide)
  (case kv=>first | k_is | rfl | decide)
  (case kn=>first | k_is | rfl | decide)
  (case z_len=>k_is);(case z_range=>k_is);(case z_min=>k_is);(case z_isinstance=>k_is);(case z_list=>k_is);(case z_reversed=>k_is);(case z_tuple=>k_is);(case z_int=>k_is);(case z_bool=>k_is);(case z_dict=>k_is);(case z_zip=>k_is);(case z_set=>k_is);(case z_ValueError=>k_is);(case z_max=>k_is)
